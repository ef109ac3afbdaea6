import PyProof.Rows.All
import KE.KEqDict
import KE.KDictList
import KE.KIsAll
import KE.KDictOf
import KE.KItem
import KE.KDictSum
import Lean
import PySem.Challenge.RW_oncedone_k23_deeds_and_names
open Array renaming getElem?_eq_getElem->y9,length_toList->z8,getElem?_toList->C3,getElem?_eq_none->a0X,getD_eq_getD_getElem?->a1V,toList_push->b9L
open Bool renaming false_ne_true->l9,and_eq_true->M4,eq_iff_iff->X9,false_eq_true->a2w,and_true->b3p,and_eq_true_iff->b7f,eq_false_iff->c1N,true_and->c5U,or_false->c5V,false_or->c5W
open Int renaming toNat_natCast->l5,emod_lt_of_pos->Q7,emod_nonneg->T5,eq_ofNat_of_zero_le->W1,zero_add->X5,toNat->b5s
open List renaming length_map->a8,getElem?_map->b7,mem_singleton->c6,length_append->c9,mem_cons->g6,size_toArray->g8,getElem?_eq_getElem->g9,mem_append->i8,not_mem_nil->j8,getElem?_eq_some_iff->l7,mem_append_right->p8,mem_map->u8,map_append->u9,length_cons->v7,replicate->z4,getElem_mem->z7,range->A0,all_eq_true->A8,mem_cons_self->C2,mem_cons_of_mem->C6,length_replicate->D0,lookup_cons->D4,mem_append_left->D8,map_cons->E7,mem_iff_getElem?->F1,getElem?_set_self->F8,length_singleton->G8,getElem?_set_ne->J3,getElem?_replicate->J4,getElem?_append_right->K8,getD->L0,getElem?_append_left->L5,map_map->M7,mem_range->N4,mem_of_getElem?->N9,take_add_one->O6,length_take->P5,getD_eq_getElem?_getD->Q0,nodup_cons->S0,map_congr_left->V3,take_length->V5,find?_cons->X8,any_cons->Y5,length_range->Z5,any_eq_true->a0i,range_succ->a0I,length_set->a0J,map_inj_right->a0O,take_of_length_le->a1d,getElem?_eq_none->a1l,lookup->a1y,getElem?_range->a1U,nodup_append->a3s,length_erase_of_mem->a3A,length_eq_zero_iff->a3D,getElem?_cons_zero->a3E,length_pos_of_mem->a4H,mem_filter->a4M,length_nil->a4N,length_filter_le->a5a,replicate_succ'->a5z,filterMap_cons->a6t,filter_append->a7v,mem_flatMap->a9d,length_drop->a9e,map_id->a9C,length->a9D,of_mem_zip->b0i,append_nil->b0j,nodup_nil->b1K,idxOf_lt_length_iff->b3n,all_cons->b3o,map_nil->b5r,mem_iff_getElem->b7c,mem_erase_of_ne->b7d,length_eraseIdx->b7e,length_pos_iff->b9E,pairwise_cons->b9J,mem_filterMap->b9K,ext_getElem?->c1M,idxOf_cons->c4A,forIn_cons->c4B,any_map->c6e,all_nil->c6f
open List.Pairwise renaming nil->b1L
open List.Perm renaming refl->a0K,cons->b9F
open Nat renaming le_refl->d5,ne_of_lt->o5,lt_of_lt_of_le->v5,le_trans->E3,lt_irrefl->E8,zero_le->F5,not_lt_zero->a0N,le_of_lt->a1h,le_succ->a1Q,lt_succ_of_lt->a3z,lt_succ_self->a4n,le_add_right->a4o,ne_of_gt->a8Z,min_self->a9a,lt_of_succ_lt_succ->b6U,le_of_eq->b6V
open Option renaming map_eq_some_iff->t5,isSome_iff_exists->T1,map_some->a1x,getD_some->a3y,isSome_map->a7u,getD_none->b9I
open PyProof.Rows renaming boot_isinstance->u4,boot_list->C4,callWith_type1->N3,sortedS->P4,slot_tuple_getitem->a0q,boot_sorted->a1R,boot_str->a2N,callWith_builtin1->a5y,boot_tuple->a8Y,boot_all->a9B,risingS->b0h,AllBare->b0m,envOfC->b1N,IntsAre->c2o,subscriptTail_builtinR->c4E
open PyProof.Rows.F renaming plain_set_update_loop->X7,entry_set_update_loop->a3x
open PySem renaming wpAny_bind->a9,wpAny_pure->c8,Shared->d3,starEach->d9,sizeLine->j6,boot_len->o7,compareOp->p5,mainGlobals->q9,Program->u6,mem_of_lookup->w6,wpAny_newObj_type->A6,Around->E9,wpAny_truthy_bool->G6,wpAny_call_entry->K5,wpAny_callSpecial?_slot->L7,behindInMarks->L8,bootBuiltins->O9,binaryOp->R0,foldedSetIterable->R9,backTo->U1,sysModules->V4,wpAny_holding->V7,wpAny_Call_Name_kw->V8,FuncData->X6,attributeBase->Z6,wpAny_typeNameOfWhole_keyiter->Z8,wpAny_mono->a0f,wpAny_passesOwn->a0r,keywordEach->a0s,assignEach->a0P,lookup_relabel_local->a0T,holding->a0U,swapsWith->a1z,importedModules->a1A,codeAny_builtin->a1B,DictEntry->a1C,strIterType->a2n,codeAny->a2o,codeAny_mono->a2x,sizeLine_eq->a2M,sliceBounds->a3F,pyNext->a3G,letOwnedTupleGo->a3H,Builtin->a3I,backToKw->a4O,NameKind->a4P,wpAny_pyIter_list->a5A,wpAny_comprehension_free->a5B,getMethod->a5C,relabel->a6u,plainId_quiet->a6v,wpAny_execs_nil->a7P,standAt->a7Q,assign->a9E,Keyword->b0l,call->b1F,tupleKind_room_in1->b1M,wpAny_dictEntries->b3q,wpAny_assign_Name->b3r,Result->b4H,compEnvC->b6X,callWith->b6Y,Operator->b6Z,wpAny_dictEpoch->b7g,tupleKind->b7h,callerA->b7i,BindsTo->b7j,call_meets->c1P,PlainAttrs->c1Q,IsPart->c1R,wpAny_standAt->c2k,valueAt->c2l,setItem->c2m,getItem->c2n,codeAny_compStart_list->c4F,wpAny_typeOf->c4G,wpAny_isTrue_Compare1->c4H,wpAny_isOneOf_keyiter->c4I,seqIndex_neg->c4J,lastMarks->c4K,builtinLookup_eq_fast->c4L,PassesOwn->c4M,wpAny_newFunctionEnv->c6d,wpAny_field->c6g,seqIndex_of->c6h
open PySem.F renaming plainAttrs_list->v0,type_list_append->E4,slot_list_append->E5,called_set->L4,type_list_extend->a2K,slot_list_extend->a2L,plain_extend_loop->b0g,slot_list_index->b1I,plain_list_iadd->b1J,slot_set_iter->b3l,plain_set_new->b3m
open PySem.Heap renaming get?_push_of_some->c5,lt_size->d7,get?_push_size->h9,get?_update_self->L6,size_push->V6,get?_update_other->a1e
open PySem.Heap.SameBut renaming update->E1
open PySem.W renaming nsIn->v6,mg_none_of->v9,findIn->A9,kia_one->G7,emptyDict->K6,keepIn->M5,mg_of->O8,instObj->Q9,fnOf->Z7,plainGet->a1g,hasDictIn->a2v,makesIn->a3C,lookIn->a4K,codeIn->a4L,plainGet_of->a5x,callWith_K->a6q,specialIn->a7f,plainOver->a7g,methodObj->a7h,isFn->a7i,takerIn->a8X,cellsFrom_some->b3j,methodCall_KW->b3k,callWith_K0->b5q,kitx_list->b7a,kitx_dict->b7b,kdl_dict->b9B,kdl_call->b9C,handedIn->b9D,takesIn->b9H,kitOne->c1L,mroIn->c2i
set_option Elab.async false
set_option linter.all false
set_option maxRecDepth 100000
set_option maxHeartbeats 0
abbrev Fg:=PySem.W.Frag
abbrev Nt:=List (List Nat)
theorem gI{α:Type}{l:List α}{i:Nat}{a:α}(h:l[i]?=some a):i<l.length:=(l7.mp h).1
theorem mI{α:Type}{l:List α}{i:Nat}{a:α}(h:l[i]?=some a):a∈l:=N9 h
theorem c7H{p:Prop}[Decidable p](h:¬p):decide p=false:=decide_eq_false h
theorem c7I{p:Prop}[Decidable p](h:p):decide p=true:=decide_eq_true h
namespace L2
open PySem
def O2(s:Stmt)(j:Nat):Stmt:=match s with
 | .ClassDef _ _ _ body _ _ _ _ _ _ _=>body.getD j (.Pass ⟨0,0,0,0⟩)
 | _=>.Pass ⟨0,0,0,0⟩
def a2g(s:Stmt):Arguments:=match s with
 | .FunctionDef _ a _ _ _ _ _ _ _ _=>a
 | _=>{ posonlyargs:=[],args:=[],vararg:=none,kwonlyargs:=[],kw_defaults:=[],kwarg:=none,defaults:=[] }
def a0E(s:Stmt):List Stmt:=match s with
 | .FunctionDef _ _ b _ _ _ _ _ _ _=>b
 | _=>[]
def j4(s:Stmt):Scope:=match s with
 | .FunctionDef _ _ _ _ _ _ sc _ _ _=>sc
 | _=>{ kind:=.function,names:=[],isGenerator:=false,isCoroutine:=false }
end L2
namespace HD
open PySem PySem.W L2
abbrev P:u6:=PySem.Challenge.pw_oncedone_k23_deeds_and_names
def top(i:Nat):Stmt:=P.main.body.getD i (.Pass ⟨0,0,0,0⟩)
def kE(Q:Params)(n:Str)(t:Nat)(v:Value):a1C:=⟨PyData.keyHash Q n,.str n t,v⟩
def kD(es:List a1C)(n:Nat):Obj:=⟨.type "dict",none,.dict es.toArray n,#[]⟩
def kF(x qual:Str)(st:Stmt)(pm cd:Value):Obj:=⟨.type "function",none,.func (fnOf x qual (a2g st) (a0E st) (j4 st) .none .none .none pm none cd .none),#[]⟩
def kC(n q:Str)(a b c:Nat)(i3 i4 i5 i6 i7:Int)(r8:Nat)(i10:Int)(r11 r13 r14 r15:Nat)(i16 i17:Int)(d:Nat):Obj:=⟨.type "code",none,.fields ([.str n a,.str q b,.str "/claim/cut.py" c,.int i3 0,.int i4 0,.int i5 0,.int i6 0,.int i7 0,.ref r8,.bool true,.int i10 0,.ref r11,.none,.ref r13,.ref r14,.ref r15,.int i16 0,.int i17 0,.str "/claim/cut.py" d]:List Value).toArray,([]:List (Option Value)).toArray⟩
def kN(n q:Str)(a b c:Nat)(i3 i4 i5 i6 i7:Int)(r8:Nat)(i10:Int)(r11 r15:Nat)(i16 i17:Int)(d:Nat):Obj:=⟨.type "code",none,.fields ([.str n a,.str q b,.str "/claim/cut.py" c,.int i3 0,.int i4 0,.int i5 0,.int i6 0,.int i7 0,.ref r8,.bool true,.int i10 0,.ref r11,.none,.none,.none,.ref r15,.int i16 0,.int i17 0,.str "/claim/cut.py" d]:List Value).toArray,([]:List (Option Value)).toArray⟩
abbrev m0:Value:=(.str "__main__" 164)
abbrev m1:Value:=(.str "oncedone.errors" 194)
abbrev m2:Value:=(.str "oncedone.words" 314)
abbrev m3:Value:=(.str "oncedone.checks" 373)
abbrev m4:Value:=(.str "oncedone.deeds" 403)
abbrev m5:Value:=(.str "oncedone.plans" 436)
abbrev m6:Value:=(.str "law_oncedone_k23_deeds_and_names" 571)
def K1(Q:Params):Frag:=[
 (3,kD [kE Q "__name__" 165 (.str "law_oncedone_k23_deeds_and_names" 571),kE Q "__doc__" 166 .none,kE Q "__package__" 167 .none,kE Q "__loader__" 168 (.builtin "__main__.__loader__#opaque"),kE Q "__spec__" 169 .none,kE Q "__annotations__" 170 (.ref 6),kE Q "__builtins__" 171 (.ref 4),kE Q "__file__" 173 (.str "/claim/cut.py" 172),kE Q "__cached__" 174 .none,kE Q "_wall" 193 (.ref 21),kE Q "OnceError" 213 (.ref 31),kE Q "Wrong" 238 (.ref 51),kE Q "NoThing" 263 (.ref 70),kE Q "TooMany" 288 (.ref 89),kE Q "NoWay" 313 (.ref 108),kE Q "BOUND" 317 (.int (1000000000000) 316),kE Q "LETTERS" 319 (.str "abcdefghijklmnopqrstuvwxyz" 318),kE Q "FIGURES" 321 (.str "0123456789" 320),kE Q "LONGEST_NAME" 323 (.int (8) 322),kE Q "DEED_KINDS" 329 (.ref 111),kE Q "is_whole" 336 (.ref 118),kE Q "is_value" 343 (.ref 125),kE Q "is_name" 349 (.ref 130),kE Q "is_operand" 356 (.ref 137),kE Q "is_deed" 363 (.ref 144),kE Q "is_row" 372 (.ref 151),kE Q "MOST" 376 (.int (400) 375),kE Q "is_below" 384 (.ref 158),kE Q "check_length" 393 (.ref 165),kE Q "check_each" 402 (.ref 172),kE Q "deed_of" 411 (.ref 179),kE Q "set_by" 418 (.ref 186),kE Q "operands_of" 426 (.ref 193),kE Q "reads_of" 435 (.ref 200),kE Q "FIRST_STEP" 441 (.ref 201),kE Q "are_nexts" 447 (.ref 206),kE Q "check_nexts" 453 (.ref 211),kE Q "stops_of" 459 (.ref 216),kE Q "turned" 465 (.ref 221),kE Q "reached" 476 (.ref 228),kE Q "check_ways" 486 (.ref 235),kE Q "steps_of" 492 (.ref 240),kE Q "Plan" 570 (.ref 297),kE Q "_law_bag" 578 (.ref 306),kE Q "_law_take" 591 (.ref 313),kE Q "_law_name" 597 (.ref 318),kE Q "_law_names" 610 (.ref 325),kE Q "_law_value" 617 (.ref 332),kE Q "_law_operand" 625 (.ref 339),kE Q "_law_deed" 636 (.ref 346),kE Q "_law_row" 648 (.ref 353),kE Q "_law_net" 661 (.ref 360),kE Q "_law_mended" 667 (.ref 365),kE Q "_law_drawn" 673 (.ref 370),kE Q "_law_deeds" 682 (.ref 377),kE Q "_law_all_names" 693 (.ref 384),kE Q "_law_asked" 704 (.ref 391),kE Q "_law_many" 710 (.ref 396),kE Q "law" 728 (.ref 403)] 59),
 (20,kC "_wall" "_wall" 187 188 189 1 1 0 0 3 15 181 16 17 18 19 191 1 192),
 (21,kF "_wall" "_wall" (top 0) m0 (.ref 20)),
 (30,kD [kE Q "__module__" 203 (.str "oncedone.errors" 194),kE Q "__firstlineno__" 207 (.int (5) 206),kE Q "__static_attributes__" 208 (.ref 29),kE Q "__weakref__" 210 (.ref 32),kE Q "__doc__" 211 .none] 3),
 (31,⟨(.type "type"),none,.cls { name := "OnceError",bases:=[(.type "ValueError")],mro:=[(.ref 31),(.type "ValueError"),(.type "Exception"),(.type "BaseException"),(.type "object")],ns:=30,qualname := "OnceError",hasDict:=true,subclasses:=[(.ref 51),(.ref 70),(.ref 89),(.ref 108)] },([some (.ref 22),none,some (.str "OnceError" 196),some (.str "OnceError" 204),some (.builtin "ValueError.__new__"),some (.bool true)]:List (Option Value)).toArray⟩),
 (47,kC "__init__" "Wrong.__init__" 226 227 228 9 2 0 0 3 42 181 43 44 45 46 231 9 232),
 (48,kF "__init__" "Wrong.__init__" (O2 (top 3) 0) m1 (.ref 47)),
 (50,kD [kE Q "__module__" 221 (.str "oncedone.errors" 194),kE Q "__firstlineno__" 225 (.int (7) 224),kE Q "__init__" 233 (.ref 48),kE Q "__static_attributes__" 235 (.ref 49),kE Q "__doc__" 236 .none] 2),
 (51,⟨(.type "type"),none,.cls { name := "Wrong",bases:=[(.ref 31)],mro:=[(.ref 51),(.ref 31),(.type "ValueError"),(.type "Exception"),(.type "BaseException"),(.type "object")],ns:=50,qualname := "Wrong",hasDict:=true,subclasses:=[] },([some (.ref 35),none,some (.str "Wrong" 214),some (.str "Wrong" 222),some (.builtin "ValueError.__new__"),some (.bool true)]:List (Option Value)).toArray⟩),
 (66,kC "__init__" "NoThing.__init__" 251 252 253 13 2 0 0 3 61 181 62 63 64 65 256 13 257),
 (67,kF "__init__" "NoThing.__init__" (O2 (top 4) 0) m1 (.ref 66)),
 (69,kD [kE Q "__module__" 246 (.str "oncedone.errors" 194),kE Q "__firstlineno__" 250 (.int (11) 249),kE Q "__init__" 258 (.ref 67),kE Q "__static_attributes__" 260 (.ref 68),kE Q "__doc__" 261 .none] 2),
 (70,⟨(.type "type"),none,.cls { name := "NoThing",bases:=[(.ref 31)],mro:=[(.ref 70),(.ref 31),(.type "ValueError"),(.type "Exception"),(.type "BaseException"),(.type "object")],ns:=69,qualname := "NoThing",hasDict:=true,subclasses:=[] },([some (.ref 54),none,some (.str "NoThing" 239),some (.str "NoThing" 247),some (.builtin "ValueError.__new__"),some (.bool true)]:List (Option Value)).toArray⟩),
 (85,kC "__init__" "TooMany.__init__" 276 277 278 17 2 0 0 3 80 181 81 82 83 84 281 17 282),
 (86,kF "__init__" "TooMany.__init__" (O2 (top 5) 0) m1 (.ref 85)),
 (88,kD [kE Q "__module__" 271 (.str "oncedone.errors" 194),kE Q "__firstlineno__" 275 (.int (15) 274),kE Q "__init__" 283 (.ref 86),kE Q "__static_attributes__" 285 (.ref 87),kE Q "__doc__" 286 .none] 2),
 (89,⟨(.type "type"),none,.cls { name := "TooMany",bases:=[(.ref 31)],mro:=[(.ref 89),(.ref 31),(.type "ValueError"),(.type "Exception"),(.type "BaseException"),(.type "object")],ns:=88,qualname := "TooMany",hasDict:=true,subclasses:=[] },([some (.ref 73),none,some (.str "TooMany" 264),some (.str "TooMany" 272),some (.builtin "ValueError.__new__"),some (.bool true)]:List (Option Value)).toArray⟩),
 (104,kC "__init__" "NoWay.__init__" 301 302 303 21 2 0 0 3 99 181 100 101 102 103 306 21 307),
 (105,kF "__init__" "NoWay.__init__" (O2 (top 6) 0) m1 (.ref 104)),
 (107,kD [kE Q "__module__" 296 (.str "oncedone.errors" 194),kE Q "__firstlineno__" 300 (.int (19) 299),kE Q "__init__" 308 (.ref 105),kE Q "__static_attributes__" 310 (.ref 106),kE Q "__doc__" 311 .none] 2),
 (108,⟨(.type "type"),none,.cls { name := "NoWay",bases:=[(.ref 31)],mro:=[(.ref 108),(.ref 31),(.type "ValueError"),(.type "Exception"),(.type "BaseException"),(.type "object")],ns:=107,qualname := "NoWay",hasDict:=true,subclasses:=[] },([some (.ref 92),none,some (.str "NoWay" 289),some (.str "NoWay" 297),some (.builtin "ValueError.__new__"),some (.bool true)]:List (Option Value)).toArray⟩),
 (111,⟨(.type "tuple"),none,.seq ([(.str "plus" 324),(.str "minus" 325),(.str "times" 326),(.str "less" 327),(.str "same" 328)]:List Value).toArray 0,([]:List (Option Value)).toArray⟩),
 (117,kC "is_whole" "is_whole" 330 331 332 29 1 0 0 3 112 181 113 114 115 116 334 29 335),
 (118,kF "is_whole" "is_whole" (top 13) m2 (.ref 117)),
 (124,kC "is_value" "is_value" 337 338 339 31 1 0 0 3 119 181 120 121 122 123 341 31 342),
 (125,kF "is_value" "is_value" (top 14) m2 (.ref 124)),
 (129,kN "is_name" "is_name" 344 345 346 33 1 0 0 3 126 181 127 128 347 33 348),
 (130,kF "is_name" "is_name" (top 15) m2 (.ref 129))]
def c4s:List Addr:=[3,20,21,30,31,47,48,50,51,66,67,69,70,85,86,88,89,104,105,107,108,111,117,118,124,125,129,130]
def K2(Q:Params):Frag:=[
 (136,kC "is_operand" "is_operand" 350 351 352 37 1 0 0 3 131 181 132 133 134 135 354 37 355),
 (137,kF "is_operand" "is_operand" (top 16) m2 (.ref 136)),
 (143,kC "is_deed" "is_deed" 357 358 359 39 1 0 0 3 138 181 139 140 141 142 361 39 362),
 (144,kF "is_deed" "is_deed" (top 17) m2 (.ref 143)),
 (150,kC "is_row" "is_row" 364 365 366 43 1 0 0 3 145 181 146 147 148 149 370 43 371),
 (151,kF "is_row" "is_row" (top 18) m2 (.ref 150)),
 (157,kC "is_below" "is_below" 377 378 379 59 2 0 0 3 152 181 153 154 155 156 382 59 383),
 (158,kF "is_below" "is_below" (top 21) m3 (.ref 157)),
 (164,kC "check_length" "check_length" 385 386 387 61 3 0 0 3 159 181 160 161 162 163 391 61 392),
 (165,kF "check_length" "check_length" (top 22) m3 (.ref 164)),
 (171,kC "check_each" "check_each" 394 395 396 66 1 0 0 3 166 181 167 168 169 170 400 66 401),
 (172,kF "check_each" "check_each" (top 23) m3 (.ref 171)),
 (178,kC "deed_of" "deed_of" 405 406 407 71 1 0 0 3 173 181 174 175 176 177 409 71 410),
 (179,kF "deed_of" "deed_of" (top 25) m4 (.ref 178)),
 (185,kC "set_by" "set_by" 412 413 414 73 1 0 0 3 180 181 181 182 183 184 416 73 417),
 (186,kF "set_by" "set_by" (top 26) m4 (.ref 185)),
 (192,kC "operands_of" "operands_of" 419 420 421 75 1 0 0 3 187 181 188 189 190 191 424 75 425),
 (193,kF "operands_of" "operands_of" (top 27) m4 (.ref 192)),
 (199,kC "reads_of" "reads_of" 427 428 429 84 1 0 0 3 194 181 195 196 197 198 433 84 434),
 (200,kF "reads_of" "reads_of" (top 28) m4 (.ref 199)),
 (201,⟨(.type "tuple"),none,.seq ([(.int (-1) 439),(.int (0) 440)]:List Value).toArray 0,([]:List (Option Value)).toArray⟩),
 (205,kN "are_nexts" "are_nexts" 442 443 444 92 3 0 0 3 202 181 203 204 445 92 446),
 (206,kF "are_nexts" "are_nexts" (top 31) m5 (.ref 205)),
 (210,kN "check_nexts" "check_nexts" 448 449 450 97 2 0 0 3 207 181 208 209 451 97 452),
 (211,kF "check_nexts" "check_nexts" (top 32) m5 (.ref 210)),
 (215,kN "stops_of" "stops_of" 454 455 456 101 1 0 0 3 212 181 213 214 457 101 458),
 (216,kF "stops_of" "stops_of" (top 33) m5 (.ref 215)),
 (220,kN "turned" "turned" 460 461 462 103 1 0 0 3 217 181 218 219 463 103 464)]
def c1D:List Addr:=[136,137,143,144,150,151,157,158,164,165,171,172,178,179,185,186,192,193,199,200,201,205,206,210,211,215,216,220]
def K3(Q:Params):Frag:=[
 (221,kF "turned" "turned" (top 34) m5 (.ref 220)),
 (227,kC "reached" "reached" 466 467 468 109 2 0 0 3 222 181 223 224 225 226 474 109 475),
 (228,kF "reached" "reached" (top 35) m5 (.ref 227)),
 (234,kC "check_ways" "check_ways" 477 478 479 118 1 0 0 3 229 181 230 231 232 233 484 118 485),
 (235,kF "check_ways" "check_ways" (top 36) m5 (.ref 234)),
 (239,kN "steps_of" "steps_of" 487 488 489 124 1 0 0 3 236 181 237 238 490 124 491),
 (240,kF "steps_of" "steps_of" (top 37) m5 (.ref 239)),
 (251,kN "__init__" "Plan.__init__" 505 506 507 131 3 0 0 3 248 181 249 250 508 131 509),
 (252,kF "__init__" "Plan.__init__" (O2 (top 38) 0) m5 (.ref 251)),
 (258,kC "steps" "Plan.steps" 511 512 513 142 1 0 0 3 253 181 254 255 256 257 515 142 516),
 (259,kF "steps" "Plan.steps" (O2 (top 38) 1) m5 (.ref 258)),
 (265,kC "leads_to" "Plan.leads_to" 518 519 520 145 2 0 0 3 260 181 261 262 263 264 523 145 524),
 (266,kF "leads_to" "Plan.leads_to" (O2 (top 38) 2) m5 (.ref 265)),
 (272,kC "steps_into" "Plan.steps_into" 526 527 528 150 2 0 0 3 267 181 268 269 270 271 531 150 532),
 (273,kF "steps_into" "Plan.steps_into" (O2 (top 38) 3) m5 (.ref 272)),
 (279,kC "stops" "Plan.stops" 534 535 536 153 1 0 0 3 274 181 275 276 277 278 538 153 539),
 (280,kF "stops" "Plan.stops" (O2 (top 38) 4) m5 (.ref 279)),
 (286,kC "deeds" "Plan.deeds" 541 542 543 156 1 0 0 3 281 181 282 283 284 285 548 156 549),
 (287,kF "deeds" "Plan.deeds" (O2 (top 38) 5) m5 (.ref 286)),
 (293,kC "names" "Plan.names" 551 552 553 164 1 0 0 3 288 181 289 290 291 292 557 164 558),
 (294,kF "names" "Plan.names" (O2 (top 38) 6) m5 (.ref 293)),
 (296,kD [kE Q "__module__" 500 (.str "oncedone.plans" 436),kE Q "__firstlineno__" 504 (.int (129) 503),kE Q "__init__" 510 (.ref 252),kE Q "steps" 517 (.ref 259),kE Q "leads_to" 525 (.ref 266),kE Q "steps_into" 533 (.ref 273),kE Q "stops" 540 (.ref 280),kE Q "deeds" 550 (.ref 287),kE Q "names" 559 (.ref 294),kE Q "__static_attributes__" 563 (.ref 295),kE Q "__dict__" 565 (.ref 298),kE Q "__weakref__" 567 (.ref 299),kE Q "__doc__" 568 .none] 4),
 (297,⟨(.type "type"),none,.cls { name := "Plan",bases:=[(.type "object")],mro:=[(.ref 297),(.type "object")],ns:=296,qualname := "Plan",hasDict:=true,subclasses:=[] },([none,none,some (.str "Plan" 493),some (.str "Plan" 501),some (.builtin "object.__new__"),some (.bool true)]:List (Option Value)).toArray⟩),
 (305,kN "_law_bag" "_law_bag" 573 574 575 172 1 0 0 3 302 181 303 304 576 172 577),
 (306,kF "_law_bag" "_law_bag" (top 40) m6 (.ref 305)),
 (312,kC "_law_take" "_law_take" 579 580 581 174 2 0 0 3 307 181 308 309 310 311 589 174 590),
 (313,kF "_law_take" "_law_take" (top 41) m6 (.ref 312)),
 (317,kN "_law_name" "_law_name" 592 593 594 193 1 0 0 3 314 181 315 316 595 193 596)]
def c1C:List Addr:=[221,227,228,234,235,239,240,251,252,258,259,265,266,272,273,279,280,286,287,293,294,296,297,305,306,312,313,317]
def K4(Q:Params):Frag:=[
 (318,kF "_law_name" "_law_name" (top 42) m6 (.ref 317)),
 (324,kC "_law_names" "_law_names" 598 599 600 197 1 0 0 3 319 181 320 321 322 323 608 197 609),
 (325,kF "_law_names" "_law_names" (top 43) m6 (.ref 324)),
 (331,kC "_law_value" "_law_value" 611 612 613 210 1 0 0 3 326 181 327 328 329 330 615 210 616),
 (332,kF "_law_value" "_law_value" (top 44) m6 (.ref 331)),
 (338,kC "_law_operand" "_law_operand" 618 619 620 212 2 0 0 3 333 181 334 335 336 337 623 212 624),
 (339,kF "_law_operand" "_law_operand" (top 45) m6 (.ref 338)),
 (345,kC "_law_deed" "_law_deed" 626 627 628 216 2 0 0 3 340 181 341 342 343 344 634 216 635),
 (346,kF "_law_deed" "_law_deed" (top 46) m6 (.ref 345)),
 (352,kC "_law_row" "_law_row" 637 638 639 223 4 0 0 3 347 181 348 349 350 351 646 223 647),
 (353,kF "_law_row" "_law_row" (top 47) m6 (.ref 352)),
 (359,kC "_law_net" "_law_net" 649 650 651 235 2 0 0 3 354 181 355 356 357 358 659 235 660),
 (360,kF "_law_net" "_law_net" (top 48) m6 (.ref 359)),
 (364,kN "_law_mended" "_law_mended" 662 663 664 253 1 0 0 3 361 181 362 363 665 253 666),
 (365,kF "_law_mended" "_law_mended" (top 49) m6 (.ref 364)),
 (369,kN "_law_drawn" "_law_drawn" 668 669 670 268 1 0 0 3 366 181 367 368 671 268 672),
 (370,kF "_law_drawn" "_law_drawn" (top 50) m6 (.ref 369)),
 (376,kC "_law_deeds" "_law_deeds" 674 675 676 276 1 0 0 3 371 181 372 373 374 375 680 276 681),
 (377,kF "_law_deeds" "_law_deeds" (top 51) m6 (.ref 376)),
 (383,kC "_law_all_names" "_law_all_names" 683 684 685 282 1 0 0 3 378 181 379 380 381 382 691 282 692),
 (384,kF "_law_all_names" "_law_all_names" (top 52) m6 (.ref 383)),
 (390,kC "_law_asked" "_law_asked" 694 695 696 292 3 0 0 3 385 181 386 387 388 389 702 292 703),
 (391,kF "_law_asked" "_law_asked" (top 53) m6 (.ref 390)),
 (395,kN "_law_many" "_law_many" 705 706 707 305 0 0 0 3 392 181 393 394 708 305 709),
 (396,kF "_law_many" "_law_many" (top 54) m6 (.ref 395)),
 (402,kC "law" "law" 711 712 713 309 1 0 0 3 397 181 398 399 400 401 726 309 727),
 (403,kF "law" "law" (top 55) m6 (.ref 402))]
def c1B:List Addr:=[318,324,325,331,332,338,339,345,346,352,353,359,360,364,365,369,370,376,377,383,384,390,391,395,396,402,403]
def K(Q:Params):Frag:=K1 Q++(K2 Q++(K3 Q++K4 Q))
def adr:List Addr:=c4s++(c1D++(c1C++c1B))
def q:u6:=view P [55]
def loose:List Str:=(["_wall","OnceError","Wrong","NoThing","TooMany","NoWay","BOUND","LETTERS","FIGURES","LONGEST_NAME","DEED_KINDS","is_whole","is_value","is_name","is_operand","is_deed","is_row","MOST","is_below","check_length","check_each","deed_of","set_by","operands_of","reads_of","FIRST_STEP","are_nexts","check_nexts","stops_of","turned","reached","check_ways","steps_of","Plan","_law_bag","_law_take","_law_name","_law_names","_law_value","_law_operand","_law_deed","_law_row","_law_net","_law_mended","_law_drawn","_law_deeds","_law_all_names","_law_asked","_law_many"]:List String).map Str.ofString
theorem b8T{p q:u6}{loose:List Str}{Xt:d3->Bool}{α:Type}{Yf:d3->α}{Ya:World->α}{N m₀:Nat}{ann:Option Value}(e:opening p=plainProg p.main.scope.names)(hN:Nat.ble 600 N=true)(f:∀s,fenceModules? p s=some s)
  (size:∀w:World,((boot_heap w.params).isNs q9,(boot_heap w.params).objs.size,(boot_heap w.params).nsMap q9 "__annotations__")=(true,m₀,ann))
  {r:World->OsState->Option d3} (hr:∀w os x,r w os=some x->topRun treeTable p w m₀ ann N ⟨boot_heap w.params,Array.mk [],boot_drawn,boot_toks,os⟩ (topStub p)=some x)
  (ra:∀w os,(r w os).map (fun s₁=>staticsOk (a1A p.main.body) (boot_heap w.params) s₁.heap&&namesBound p s₁.heap&&gensDone s₁&&laidKept (boot_heap w.params) s₁.heap)=some true)
  (rb:∀w os,(r w os).map (openSeen q loose (a1A p.main.body) Xt true)=some (openGood q loose))
  (rc:∀w os,(r w os).map Yf=some (Ya w)) :
  LeftO p q loose Xt Yf Ya N:=fun w=>by
 obtain⟨⟨h,gs,d,k,os⟩,e1,e2⟩:=t5.mp (boot_open e hN f w)
 obtain⟨rfl,rfl,rfl,rfl⟩:h=boot_heap w.params/\gs=Array.mk []/\d=boot_drawn/\k=boot_toks:=by simpa using e2
 obtain⟨z1,z2,z3⟩:_/\_/\_:=by simpa only[Prod.mk.injEq]using size w
 obtain⟨s₁,r1,r3⟩:=t5.mp (ra w os)
 have rb:=rb w os
 have rc:=rc w os
 rw[r1]at rb rc
 have r1:=hr w os _ r1
 have r4:(openSeen q loose (a1A p.main.body) Xt true s₁,Yf s₁)=(openGood q loose,Ya w):=Prod.ext (Option.some.inj rb) (Option.some.inj rc)
 have t:topFrom treeTable p w N ⟨boot_heap w.params,Array.mk [],boot_drawn,boot_toks,os⟩=some s₁:=by
  unfold topFrom
  dsimp only
  rw[z1,z2,z3,r1]
  show(match staticsOk (a1A p.main.body) (boot_heap w.params) s₁.heap&&namesBound p s₁.heap&&gensDone s₁&&laidKept (boot_heap w.params) s₁.heap with | true=>some s₁ | false=>none)=_
  rw[r3]
 unfold openEnds
 rw[e1]
 show(topFrom treeTable p w N _).map _=_
 rw[t]
 exact congrArg some r4
abbrev a9u:Hook:=kHook K adr (fun _=>by kernel_rfl)
abbrev row:OpenLaw:=PySem.Challenge.rw_oncedone_k23_deeds_and_names
def kZ(x q:Str)(st:Stmt):Obj:=⟨.none,none,.func { fnOf x q (a2g st) (a0E st) (j4 st) .none .none .none .none none .none .none with globals:=0 },#[]⟩
def kS(xs:List Value)(n:Nat):Obj:=⟨.type "tuple",none,.seq xs.toArray n,([]:List (Option Value)).toArray⟩
noncomputable section
def kk(a:Addr)(Q:Params):Obj:=((K Q).lookup a).getD (boot_o_4 Q)
def h1(Q:Params):List Obj:=[
boot_o_0 Q,
boot_o_1 Q,
boot_o_2 Q,
kD [kE Q "__name__" 165 (.str "oncedone.words" 314),kE Q "__doc__" 166 .none,kE Q "__package__" 167 .none,kE Q "__loader__" 168 (.builtin "__main__.__loader__#opaque"),kE Q "__spec__" 169 .none,kE Q "__annotations__" 170 (.ref 6),kE Q "__builtins__" 171 (.ref 4),kE Q "__file__" 173 (.str "/claim/cut.py" 172),kE Q "__cached__" 174 .none,kE Q "_wall" 193 (.ref 21),kE Q "OnceError" 213 (.ref 31),kE Q "Wrong" 238 (.ref 51),kE Q "NoThing" 263 (.ref 70),kE Q "TooMany" 288 (.ref 89),kE Q "NoWay" 313 (.ref 108),kE Q "BOUND" 317 (.int (1000000000000) 316),kE Q "LETTERS" 319 (.str "abcdefghijklmnopqrstuvwxyz" 318),kE Q "FIGURES" 321 (.str "0123456789" 320),kE Q "LONGEST_NAME" 323 (.int (8) 322),kE Q "DEED_KINDS" 329 (.ref 111),kE Q "is_whole" 336 (.ref 118),kE Q "is_value" 343 (.ref 125),kE Q "is_name" 349 (.ref 130)] 23,
boot_o_4 Q,
boot_o_5 Q,
boot_o_6 Q,
boot_o_7 Q,
boot_o_8 Q,
boot_o_9 Q,
boot_o_10 Q,
kS [] 0,
⟨.none,none,.fields ([(.int (1) 0),(.int (0) 0),(.ref 20),(.int (5) 0),(.int (0) 0),(.ref 27),(.int (7) 0),(.int (0) 0),(.ref 40),(.int (11) 0),(.int (0) 0),(.ref 59),(.int (15) 0),(.int (0) 0),(.ref 78),(.int (19) 0),(.int (0) 0),(.ref 97),(.int (29) 0),(.int (0) 0),(.ref 117),(.int (31) 0),(.int (0) 0),(.ref 124),(.int (33) 0),(.int (0) 0),(.ref 129)]:List Value).toArray,([]:List (Option Value)).toArray⟩,
⟨(.type "code"),none,.fields ([(.str "<module>" 182),(.str "<module>" 183),(.str "/claim/cut.py" 184),(.int (1) 0),(.int (0) 0),(.int (0) 0),(.int (0) 0),(.int (0) 0),(.ref 11),(.bool false),(.int (181) 0),(.ref 12),.none,.none,.none,.none,(.int (185) 0),(.int (1) 0),(.str "/claim/cut.py" 186)]:List Value).toArray,([]:List (Option Value)).toArray⟩,
⟨(.type "frame"),none,.plain,([some (.ref 13),some (.ref 3),some (.ref 3),none,some (.str "__main__" 164),none,some (.ref 0)]:List (Option Value)).toArray⟩,
kS [] 0,
⟨.none,none,.fields ([]:List Value).toArray,([]:List (Option Value)).toArray⟩,
kS [(.str "k" 190)] 0,
kS [] 0,
kZ "_wall" "_wall" (top 0),
kk 20 Q,
kk 21 Q,
kS [(.type "ValueError")] 0,
⟨(.type "builtin_function_or_method"),none,.fields ([(.builtin "type.__prepare__"),(.type "type")]:List Value).toArray,([]:List (Option Value)).toArray⟩,
kD [kE Q "__module__" 203 (.str "oncedone.errors" 194),kE Q "__qualname__" 205 (.str "OnceError" 204),kE Q "__firstlineno__" 207 (.int (5) 206),kE Q "__static_attributes__" 208 (.ref 29)] 4,
kS [] 0,
⟨.none,none,.fields ([]:List Value).toArray,([]:List (Option Value)).toArray⟩,
⟨(.type "code"),none,.fields ([(.str "OnceError" 198),(.str "OnceError" 199),(.str "/claim/cut.py" 200),(.int (5) 0),(.int (0) 0),(.int (0) 0),(.int (0) 0),(.int (0) 0),(.ref 25),(.bool false),(.int (181) 0),(.ref 26),.none,.none,.none,.none,(.int (201) 0),(.int (5) 0),(.str "/claim/cut.py" 202)]:List Value).toArray,([]:List (Option Value)).toArray⟩,
⟨(.type "frame"),none,.plain,([some (.ref 27),some (.ref 3),some (.ref 24),none,some (.str "oncedone.errors" 194),none,some (.ref 0)]:List (Option Value)).toArray⟩,
kS [] 0,
kk 30 Q,
kk 31 Q,
⟨(.type "getset_descriptor"),none,.fields ([(.str "__weakref__" 209),(.ref 31),(.builtin "ExceptionGroup.__weakref__"),.none]:List Value).toArray,([]:List (Option Value)).toArray⟩,
⟨(.type "super"),none,.fields ([(.ref 31),(.ref 31),(.ref 31)]:List Value).toArray,([]:List (Option Value)).toArray⟩,
⟨(.type "builtin_function_or_method"),none,.fields ([(.builtin "object.__init_subclass__"),(.ref 31)]:List Value).toArray,([]:List (Option Value)).toArray⟩,
kS [(.ref 31)] 0,
⟨(.type "builtin_function_or_method"),none,.fields ([(.builtin "type.__prepare__"),(.type "type")]:List Value).toArray,([]:List (Option Value)).toArray⟩,
kD [kE Q "__module__" 221 (.str "oncedone.errors" 194),kE Q "__qualname__" 223 (.str "Wrong" 222),kE Q "__firstlineno__" 225 (.int (7) 224),kE Q "__init__" 233 (.ref 48),kE Q "__static_attributes__" 235 (.ref 49)] 5,
kS [] 0,
⟨.none,none,.fields ([(.int (9) 0),(.int (4) 0),(.ref 47)]:List Value).toArray,([]:List (Option Value)).toArray⟩,
⟨(.type "code"),none,.fields ([(.str "Wrong" 216),(.str "Wrong" 217),(.str "/claim/cut.py" 218),(.int (7) 0),(.int (0) 0),(.int (0) 0),(.int (0) 0),(.int (0) 0),(.ref 38),(.bool false),(.int (181) 0),(.ref 39),.none,.none,.none,.none,(.int (219) 0),(.int (7) 0),(.str "/claim/cut.py" 220)]:List Value).toArray,([]:List (Option Value)).toArray⟩,
⟨(.type "frame"),none,.plain,([some (.ref 40),some (.ref 3),some (.ref 37),none,some (.str "oncedone.errors" 194),none,some (.ref 0)]:List (Option Value)).toArray⟩,
kS [] 0,
⟨.none,none,.fields ([]:List Value).toArray,([]:List (Option Value)).toArray⟩,
kS [(.str "self" 229),(.str "at" 230)] 0,
kS [] 0,
kZ "__init__" "Wrong.__init__" (O2 (top 3) 0),
kk 47 Q,
kk 48 Q,
kS [(.str "at" 234)] 0,
kk 50 Q,
kk 51 Q,
⟨(.type "super"),none,.fields ([(.ref 51),(.ref 51),(.ref 51)]:List Value).toArray,([]:List (Option Value)).toArray⟩,
⟨(.type "builtin_function_or_method"),none,.fields ([(.builtin "object.__init_subclass__"),(.ref 51)]:List Value).toArray,([]:List (Option Value)).toArray⟩,
kS [(.ref 31)] 0,
⟨(.type "builtin_function_or_method"),none,.fields ([(.builtin "type.__prepare__"),(.type "type")]:List Value).toArray,([]:List (Option Value)).toArray⟩,
kD [kE Q "__module__" 246 (.str "oncedone.errors" 194),kE Q "__qualname__" 248 (.str "NoThing" 247),kE Q "__firstlineno__" 250 (.int (11) 249),kE Q "__init__" 258 (.ref 67),kE Q "__static_attributes__" 260 (.ref 68)] 5,
kS [] 0,
⟨.none,none,.fields ([(.int (13) 0),(.int (4) 0),(.ref 66)]:List Value).toArray,([]:List (Option Value)).toArray⟩,
⟨(.type "code"),none,.fields ([(.str "NoThing" 241),(.str "NoThing" 242),(.str "/claim/cut.py" 243),(.int (11) 0),(.int (0) 0),(.int (0) 0),(.int (0) 0),(.int (0) 0),(.ref 57),(.bool false),(.int (181) 0),(.ref 58),.none,.none,.none,.none,(.int (244) 0),(.int (11) 0),(.str "/claim/cut.py" 245)]:List Value).toArray,([]:List (Option Value)).toArray⟩,
⟨(.type "frame"),none,.plain,([some (.ref 59),some (.ref 3),some (.ref 56),none,some (.str "oncedone.errors" 194),none,some (.ref 0)]:List (Option Value)).toArray⟩,
kS [] 0,
⟨.none,none,.fields ([]:List Value).toArray,([]:List (Option Value)).toArray⟩,
kS [(.str "self" 254),(.str "at" 255)] 0,
kS [] 0,
kZ "__init__" "NoThing.__init__" (O2 (top 4) 0),
kk 66 Q,
kk 67 Q,
kS [(.str "at" 259)] 0,
kk 69 Q,
kk 70 Q,
⟨(.type "super"),none,.fields ([(.ref 70),(.ref 70),(.ref 70)]:List Value).toArray,([]:List (Option Value)).toArray⟩,
⟨(.type "builtin_function_or_method"),none,.fields ([(.builtin "object.__init_subclass__"),(.ref 70)]:List Value).toArray,([]:List (Option Value)).toArray⟩,
kS [(.ref 31)] 0,
⟨(.type "builtin_function_or_method"),none,.fields ([(.builtin "type.__prepare__"),(.type "type")]:List Value).toArray,([]:List (Option Value)).toArray⟩,
kD [kE Q "__module__" 271 (.str "oncedone.errors" 194),kE Q "__qualname__" 273 (.str "TooMany" 272),kE Q "__firstlineno__" 275 (.int (15) 274),kE Q "__init__" 283 (.ref 86),kE Q "__static_attributes__" 285 (.ref 87)] 5,
kS [] 0,
⟨.none,none,.fields ([(.int (17) 0),(.int (4) 0),(.ref 85)]:List Value).toArray,([]:List (Option Value)).toArray⟩,
⟨(.type "code"),none,.fields ([(.str "TooMany" 266),(.str "TooMany" 267),(.str "/claim/cut.py" 268),(.int (15) 0),(.int (0) 0),(.int (0) 0),(.int (0) 0),(.int (0) 0),(.ref 76),(.bool false),(.int (181) 0),(.ref 77),.none,.none,.none,.none,(.int (269) 0),(.int (15) 0),(.str "/claim/cut.py" 270)]:List Value).toArray,([]:List (Option Value)).toArray⟩,
⟨(.type "frame"),none,.plain,([some (.ref 78),some (.ref 3),some (.ref 75),none,some (.str "oncedone.errors" 194),none,some (.ref 0)]:List (Option Value)).toArray⟩,
kS [] 0,
⟨.none,none,.fields ([]:List Value).toArray,([]:List (Option Value)).toArray⟩,
kS [(.str "self" 279),(.str "most" 280)] 0,
kS [] 0,
kZ "__init__" "TooMany.__init__" (O2 (top 5) 0),
kk 85 Q,
kk 86 Q,
kS [(.str "most" 284)] 0,
kk 88 Q,
kk 89 Q,
⟨(.type "super"),none,.fields ([(.ref 89),(.ref 89),(.ref 89)]:List Value).toArray,([]:List (Option Value)).toArray⟩,
⟨(.type "builtin_function_or_method"),none,.fields ([(.builtin "object.__init_subclass__"),(.ref 89)]:List Value).toArray,([]:List (Option Value)).toArray⟩,
kS [(.ref 31)] 0,
⟨(.type "builtin_function_or_method"),none,.fields ([(.builtin "type.__prepare__"),(.type "type")]:List Value).toArray,([]:List (Option Value)).toArray⟩,
kD [kE Q "__module__" 296 (.str "oncedone.errors" 194),kE Q "__qualname__" 298 (.str "NoWay" 297),kE Q "__firstlineno__" 300 (.int (19) 299),kE Q "__init__" 308 (.ref 105),kE Q "__static_attributes__" 310 (.ref 106)] 5,
kS [] 0,
⟨.none,none,.fields ([(.int (21) 0),(.int (4) 0),(.ref 104)]:List Value).toArray,([]:List (Option Value)).toArray⟩,
⟨(.type "code"),none,.fields ([(.str "NoWay" 291),(.str "NoWay" 292),(.str "/claim/cut.py" 293),(.int (19) 0),(.int (0) 0),(.int (0) 0),(.int (0) 0),(.int (0) 0),(.ref 95),(.bool false),(.int (181) 0),(.ref 96),.none,.none,.none,.none,(.int (294) 0),(.int (19) 0),(.str "/claim/cut.py" 295)]:List Value).toArray,([]:List (Option Value)).toArray⟩,
⟨(.type "frame"),none,.plain,([some (.ref 97),some (.ref 3),some (.ref 94),none,some (.str "oncedone.errors" 194),none,some (.ref 0)]:List (Option Value)).toArray⟩,
kS [] 0,
⟨.none,none,.fields ([]:List Value).toArray,([]:List (Option Value)).toArray⟩,
kS [(.str "self" 304),(.str "at" 305)] 0,
kS [] 0,
kZ "__init__" "NoWay.__init__" (O2 (top 6) 0),
kk 104 Q,
kk 105 Q,
kS [(.str "at" 309)] 0,
kk 107 Q,
kk 108 Q,
⟨(.type "super"),none,.fields ([(.ref 108),(.ref 108),(.ref 108)]:List Value).toArray,([]:List (Option Value)).toArray⟩,
⟨(.type "builtin_function_or_method"),none,.fields ([(.builtin "object.__init_subclass__"),(.ref 108)]:List Value).toArray,([]:List (Option Value)).toArray⟩,
kk 111 Q,
kS [] 0,
⟨.none,none,.fields ([]:List Value).toArray,([]:List (Option Value)).toArray⟩,
kS [(.str "thing" 333)] 0,
kS [] 0,
kZ "is_whole" "is_whole" (top 13),
kk 117 Q,
kk 118 Q,
kS [] 0,
⟨.none,none,.fields ([]:List Value).toArray,([]:List (Option Value)).toArray⟩,
kS [(.str "thing" 340)] 0,
kS [] 0,
kZ "is_value" "is_value" (top 14),
kk 124 Q,
kk 125 Q,
kS [] 0,
⟨.none,none,.fields ([]:List Value).toArray,([]:List (Option Value)).toArray⟩,
kZ "is_name" "is_name" (top 15),
kk 129 Q,
kk 130 Q]
abbrev bd:List Stmt:=behindTheImports P
abbrev en:Env:={ scope:=P.main.scope,locals:=mainNs,globals:=mainNs,cells:=[],code:=(.ref 13),frame:=some 14 }
abbrev cE:Code:=.body bd en
abbrev fB:List Frame:=[topFrame ⟨0,0,0,0⟩]
abbrev s0(w:World)(os:OsState):d3:=⟨boot_heap w.params,Array.mk [],boot_drawn,boot_toks,os⟩
def sa(w:World)(os:OsState):d3:=((topGo treeTable P w 11 (some (.ref 6)) 12 (s0 w os) (topStub P)).map (·.1)).getD (s0 w os)
abbrev s1(w:World)(os:OsState):d3:=⟨⟨Array.mk (h1 w.params),(boot_heap w.params).life⟩,Array.mk [],boot_drawn,350,os⟩
abbrev rn(w:World)(os:OsState):Option d3:=PySem.W.Fast.tw14082659384304107361 PySem.W.Fast.tw14364793385576792824 P w 11 (some (.ref 6)) 4996 (s1 w os) (restOf (bd.drop 16) en cE ⟨33,0,36,85⟩ fB)
end
theorem c6A(w:World)(os:OsState):topGo treeTable P w 11 (some (.ref 6)) 12 (s0 w os) (topStub P)=some (sa w os,⟨denote treeTable cE,cE,⟨0,0,0,0⟩,fB⟩):=by kernel_rfl
theorem c6z(w:World)(os:OsState):segRun treeTable P w 11 (some (.ref 6)) 1 1 (sa w os) (blockOf bd en cE ⟨0,0,0,0⟩ fB)=some (.next,sa w os,cE,⟨0,0,0,0⟩):=by kernel_rfl
theorem c6y(w:World)(os:OsState):segRun treeTable P w 11 (some (.ref 6)) 1 1349 (sa w os) (piecesOf (bd.take 16) en cE ⟨0,0,0,0⟩ fB)=some (.next,s1 w os,cE,⟨33,0,36,85⟩):=by kernel_rfl
theorem c6x(w:World)(os:OsState)(x:d3)(h:rn w os=some x):topRun treeTable P w 11 (some (.ref 6)) 6358 (s0 w os) (topStub P)=some x:=by
 have h:topRun treeTable P w 11 (some (.ref 6)) 4996 (s1 w os) (restOf (bd.drop 16) en cE ⟨33,0,36,85⟩ fB)=some x:=by rw[PySem.W.Fast.te14082659384304107361,PySem.W.Fast.te14364793385576792824];exact h
 have h:=piece_app (c6y w os) h
 rw[List.take_append_drop]at h
 exact go_top (c6A w os) (piece_block (c6z w os) h)
theorem c3X(w:World)(os:OsState):(rn w os).map (fun s₁=>staticsOk (a1A P.main.body) (boot_heap w.params) s₁.heap&&namesBound P s₁.heap&&gensDone s₁&&laidKept (boot_heap w.params) s₁.heap)=some true:=by kernel_rfl
theorem c3W(w:World)(os:OsState):(rn w os).map (PySem.W.Fast.tw4187177175401517315 q loose (a1A P.main.body) (fun s=>xlAt q [] s&&recOk (RowW.records row.row.toRowW) s) true)=some (openGood q loose):=by kernel_rfl
theorem c1l(w:World)(os:OsState):(rn w os).map (fun s=>c4s.map s.heap.get?)=some ((K1 w.params).map fun p=>some p.2):=by kernel_rfl
theorem c1k(w:World)(os:OsState):(rn w os).map (fun s=>c1D.map s.heap.get?)=some ((K2 w.params).map fun p=>some p.2):=by kernel_rfl
theorem c1j(w:World)(os:OsState):(rn w os).map (fun s=>c1C.map s.heap.get?)=some ((K3 w.params).map fun p=>some p.2):=by kernel_rfl
theorem c1i(w:World)(os:OsState):(rn w os).map (fun s=>c1B.map s.heap.get?)=some ((K4 w.params).map fun p=>some p.2):=by kernel_rfl
theorem c3V(w:World)(os:OsState):(rn w os).map (Hook.obs a9u)=some (Hook.val a9u w):=by
 obtain⟨s,h1,h2⟩:=t5.mp (c1l w os)
 have h3:=c1k w os
 have h4:=c1j w os
 have h5:=c1i w os
 rw[h1]at h3 h4 h5 ⊢
 have h3:c1D.map s.heap.get? = _:=Option.some.inj h3
 have h4:c1C.map s.heap.get? = _:=Option.some.inj h4
 have h5:c1B.map s.heap.get? = _:=Option.some.inj h5
 show some ((c4s++(c1D++(c1C++c1B))).map s.heap.get?)=some ((K1 w.params++(K2 w.params++(K3 w.params++K4 w.params))).map fun p=>some p.2)
 rw[u9,u9,u9,u9,u9,u9,h2,h3,h4,h5]
theorem left:LeftO P q loose (fun s=>xlAt q [] s&&recOk (RowW.records row.row.toRowW) s) (Hook.obs a9u) (Hook.val a9u) 6358:=
 b8T (m₀:=11) (ann:=(some (.ref 6))) (r:=rn) (by kernel_rfl) (by kernel_rfl) (fun s=>by kernel_rfl) (fun w=>by kernel_rfl) c6x c3X (by rw[PySem.W.Fast.te4187177175401517315];exact c3W) c3V
theorem c4R:row.wellSaid=true:=by
 rw[PySem.W.Fast.te9446332074065402090]
 kernel_rfl
theorem fin(hc:∀d:DefRec,d.name = "law" -> d.params.defaults=[]->WalkO q loose (XL q []) (Hook.says a9u) row.row.toRowW d [] (fun f vs=>b1F f vs)):row.Holds:=by
 refine holds_law (l:=row) c4R fun said=>?_
 refine holds_open (q:=q) (loose:=loose) (Xt:=fun s=>xlAt q [] s&&recOk (RowW.records row.row.toRowW) s) (XP:=XL q []) (Yf:=Hook.obs a9u) (Ya:=Hook.val a9u) (YP:=Hook.says a9u) (N:=6358) left (Hook.of a9u) (Hook.keeps a9u) (fun s e=>xl_of s (b7f.mp e).1) XL.keeps (by rfl) (by rfl) (by rfl) (fun s e=>recFacts_of (b7f.mp e).2) (by rfl) said (by decide +kernel) ⟨rfl,rfl,rfl,rfl,rfl,by decide +kernel⟩ ?hw (hc _ rfl rfl)
 case hw=>w_witness2
end HD
set_option Elab.async false
set_option linter.all false
set_option maxRecDepth 100000
namespace L2
open PySem PySem.Spec PyProof.Rows
variable{us:List Value}{i t':Nat}{u:Value}{C a b dx f:Addr}{w:World}{h h':Heap}{pins:List (Addr×Obj)}{s:d3}{c e tg:Expr}{p pos:Pos}{Q:Value->d3->Prop}{es:List Expr}{ps:List Str}{m:Str->Option Value}
abbrev Key:=Sum Int Str
def a8E:Key->Value->Bool
 | .inl k,v=>Value.isInt k v
 | .inr x,v=>Value.isStrOf x v
def c6v(w:World):Key->Int
 | .inl k=>hashInt k
 | .inr x=>hashStr w x
theorem O7:∀ {k:Key} {v:Value},a8E k v=true->(∃i t,k=Sum.inl i/\v=Value.int i t)\/(∃x t,k=Sum.inr x/\v=Value.str x t)
 | .inl i,v,h=>by
  obtain⟨t,e⟩:=Value.isInt_shape (k:=i) (v:=v) h
  exact .inl ⟨i,t,rfl,e⟩
 | .inr x,v,h=>by
  obtain⟨t,e⟩:=Value.isStrOf_shape (x:=x) (v:=v) h
  exact .inr ⟨x,t,rfl,e⟩
theorem b6u(i:Int)(t:Tok):a8E (.inl i) (.int i t)=true:=by simp[a8E,Value.isInt]
theorem b6t(x:Str)(t:Tok):a8E (.inr x) (.str x t)=true:=by simp[a8E,Value.isStrOf]
theorem c4c(a b:Int):decide ((Sum.inl a:Key)=Sum.inl b)=(a == b):=by
 by_cases e:a=b
 ·subst e;simp
 ·have h:¬(Sum.inl a:Key)=Sum.inl b:=fun q=>e (Sum.inl.inj q)
  rw[c7H h]
  exact(beq_eq_false_iff_ne.mpr e).symm
theorem c3Z(a b:Str):decide ((Sum.inr a:Key)=Sum.inr b)=decide (a=b):=by
 by_cases e:a=b
 ·subst e;simp
 ·have h:¬(Sum.inr a:Key)=Sum.inr b:=fun q=>e (Sum.inr.inj q)
  rw[c7H h,c7H e]
theorem c4b(a:Int)(b:Str):decide ((Sum.inl a:Key)=Sum.inr b)=false:=c7H (fun q=>nomatch q)
theorem c4a(a:Str)(b:Int):decide ((Sum.inr a:Key)=Sum.inl b)=false:=c7H (fun q=>nomatch q)
def M6(prog:u6)(w:World):PySem.KeyKind prog w Key where
 is:=a8E
 hash:=c6v w
 inj:=fun v a b ha hb=>by
  rcases O7 ha with ⟨i,t,rfl,rfl⟩ | ⟨x,t,rfl,rfl⟩
  ·rcases O7 hb with ⟨j,u,rfl,e⟩ | ⟨y,u,rfl,e⟩
   ·injection e with e1 _;rw[e1]
   ·exact nomatch e
  ·rcases O7 hb with ⟨j,u,rfl,e⟩ | ⟨y,u,rfl,e⟩
   ·exact nomatch e
   ·injection e with e1 _;rw[e1]
 byValue:=fun k v h=>by
  rcases O7 h with ⟨i,t,rfl,rfl⟩ | ⟨x,t,rfl,rfl⟩ <;> rfl
 pyHash:=fun hv h=>by
  rcases O7 hv with ⟨i,t,rfl,rfl⟩ | ⟨x,t,rfl,rfl⟩
  ·exact wpAny_pyHash_int h
  ·exact wpAny_pyHash_str h
 eqBool:=fun hu hv h=>by
  rcases O7 hu with ⟨i,t,rfl,rfl⟩ | ⟨x,t,rfl,rfl⟩
  ·rcases O7 hv with ⟨j,u,rfl,rfl⟩ | ⟨y,u,rfl,rfl⟩
   ·rw[c4c]at h;exact wpAny_eqBool_int h
   ·rw[c4b]at h;exact SeqAt.EqAt.int_str i t y u _ _ _ _ h
  ·rcases O7 hv with ⟨j,u,rfl,rfl⟩ | ⟨y,u,rfl,rfl⟩
   ·rw[c4a]at h;exact SeqAt.EqAt.str_int x t j u _ _ _ _ h
   ·rw[c3Z]at h;exact wpAny_eqBool_str h
 «strs» := fun k x t v h=>by
  rcases O7 h with ⟨i,u,rfl,e⟩ | ⟨y,u,rfl,e⟩
  ·exact nomatch e
  ·injection e with e1 _
   subst e1
   cases v <;> rfl
theorem b2G(prog:u6)(w:World)(i:Int)(t:Tok):(M6 prog w).is (.inl i) (.int i t)=true:=b6u i t
theorem b2F(prog:u6)(w:World)(x:Str)(t:Tok):(M6 prog w).is (.inr x) (.str x t)=true:=b6t x t
inductive V where
 | non | bl (b:Bool) | int (i:Int) | str (x:Str) | byt (b:Array UInt8) | flt (b:UInt64) | ref (a:Addr) | ty (n:String)
 deriving DecidableEq
variable{v y:V}{xs:List V}{kvs:List (Key×V)}
def C7:V->Value->Prop
 | .non,u=>u=Value.none
 | .bl b,u=>u=Value.bool b
 | .int i,u=>∃t,u=Value.int i t
 | .str x,u=>∃t,u=Value.str x t
 | .byt b,u=>∃t,u=Value.bytes b t
 | .flt b,u=>∃t,u=Value.float b t
 | .ref a,u=>u=Value.ref a
 | .ty n,u=>u=Value.type n
abbrev D6:List V->List Value->Prop:=Paired C7
theorem D6.length(r:D6 xs us):xs.length=us.length:=Paired.length r
theorem D6.get:∀ {xs:List V} {us:List Value} {i:Nat} {x:V},D6 xs us->xs[i]? = some x->∃u,us[i]? = some u/\C7 x u
 | _,_,_,_,.nil,e=>by simp at e
 | _,_,0,_,.cons r _,e=>by simp at e;subst e;exact⟨_,rfl,r⟩
 | _,_,i+1,x,.cons _ t,e=>by
  obtain⟨u,h1,h2⟩:=D6.get (i:=i) (x:=x) t (by simpa using e)
  exact⟨u,by simpa using h1,h2⟩
theorem D6.set{x:V}(r:C7 x u):∀ {xs:List V} {us:List Value} (i:Nat),D6 xs us->D6 (xs.set i x) (us.set i u)
 | _,_,_,.nil=>.nil
 | _,_,0,.cons _ t=>.cons r t
 | _,_,i+1,.cons q t=>.cons q (D6.set r i t)
theorem D6.append:∀ {xs ys:List V} {us ws:List Value},D6 xs us->D6 ys ws->D6 (xs++ys) (us++ws)
 | _,_,_,_,.nil,s=>s
 | _,_,_,_,.cons r t,s=>.cons r (D6.append t s)
theorem D6.take:∀ {xs:List V} {us:List Value} (n:Nat),D6 xs us->D6 (xs.take n) (us.take n)
 | _,_,0,_=>.nil
 | _,_,_+1,.nil=>.nil
 | _,_,n+1,.cons r t=>.cons r (D6.take n t)
theorem D6.drop:∀ {xs:List V} {us:List Value} (n:Nat),D6 xs us->D6 (xs.drop n) (us.drop n)
 | _,_,0,r=>r
 | _,_,_+1,.nil=>.nil
 | _,_,n+1,.cons _ t=>D6.drop n t
def a6p:Option V->Option Value->Prop
 | some v,some u=>C7 v u
 | none,none=>True
 | _,_=>False
def KV{κ:Type}:List (κ×V)->List (κ×Value)->Prop:=Paired fun(p:κ×V) (q:κ×Value)=>p.1=q.1/\C7 p.2 q.2
def kV:Key->V
 | .inl i=>.int i
 | .inr x=>.str x
inductive HO where
 /-- a list -/
 | lst (xs:List V)
 /-- a tuple (never changes) -/
 | tup (xs:List V)
 /-- a dict whose keys are ints and texts;one whose keys are tuples of ints and texts (the empty one is both) -/
 | dK (kvs:List (Key×V)) | dT (kvs:List (List Key×V))
 /-- a set of ints: its members,its size -/
 | set (S:Int->Bool) (n:Nat)
 /-- an instance of the class at C,its dict at dx,its attributes -/
 | ins (C dx:Addr) (fs:List (Str×V))
 /-- the dict of the instance at x -/
 | own (x:Addr)
 /-- the dict of an exception -/
 | xd (fs:List (Str×V))
 /-- a bound method,f of x -/
 | met (f x:Addr)
 /-- a range object lo,lo+1,.. below hi -/
 | rng (lo hi:Int)
 /-- a thing that is known to the object (the script;a dict while a loop walks it): read,never written while it is so -/
 | frz (o:Obj) (u:HO)
 /-- a code object's table -/
 | tbl (ps:Array Value)
 /-- any other thing,by what is true of its one object (a def of one's own: SetO a S n:=HO.ext fun h=>..) -/
 | ext (φ:Heap->Prop)
variable{o:HO}
abbrev Hp:=Addr->Option HO
variable{H H':Hp}
def upd(H:Hp)(a:Addr)(o:HO):Hp:=fun b=>if b=a then some o else H b
theorem d8:upd H a o a=some o:=by unfold upd;rw[if_pos rfl]
theorem j5(h:b≠a):upd H a o b=H b:=by unfold upd;rw[if_neg h]
theorem b0p{u:HO}:upd (upd H a o) a u=upd H a u:=by
 funext b;unfold upd;split <;> rfl
theorem O0{u:HO}(h:H a=some o)(h':H b=some u)(d:o≠u):a≠b:=by
 intro e;subst e;rw[h]at h';exact d (Option.some.inj h')
theorem d4(h:H a=some o)(h':H b=none):a≠b:=by
 intro e;subst e;rw[h]at h';cases h'
section
variable (P:u6)(w:World)
def U0(H:Hp)(h:Heap)(a:Addr):HO->Prop
 | .lst xs=>xs.length<=j6/\∃(its:List Value) (n:Nat),D6 xs its/\h.get? a=some { cls:=.type "list",data:=.seq its.toArray n }
 | .tup xs=>xs.length<=j6/\∃its:List Value,D6 xs its/\IsTup h a its.toArray
 | .dK kvs=>kvs.length<=j6/\(a == V4)=false/\∃vs,KV kvs vs/\h.DictOf (M6 P w) a vs
 | .dT kvs=>kvs.length<=j6/\(a == V4)=false/\∃xs:List (List Key×Addr×Value),
   Paired (fun(p:List Key×V) (q:List Key×Addr×Value)=>p.1=q.1/\H q.2.1=some (.tup (p.1.map kV))/\C7 p.2 q.2.2) kvs xs /\
   ∃o es ep,h.get? a=some o/\o.ExactDict/\o.data=.dict es ep/\es.toList=xs.map (entryOfKey (b7h (M6 P w)))/\(xs.map (·.1)).Nodup
 | .set S n=>h.SetOf (intKind P w) a S n
 | .ins C dx fs=>H dx=some (.own a)/\fs.length<=1000/\dx≠a/\h.get? a=some (Q9 C dx) /\
   ∃mA,h.Ns1 dx mA/\(∀f,a6p (fs.lookup f) (mA f))/\PySem.Within mA (fs.map (·.1))
 | .own _=>∃o,h.get? a=some o
 | .xd fs=>∃mA,h.Ns1 a mA/\∀f,a6p (fs.lookup f) (mA f)
 | .rng lo hi=>∃t u v,h.get? a=some { cls:=.type "range",data:=.fields #[.int lo t,.int hi u,.int 1 v] }
 | .frz o u=>h.get? a=some o/\U0 H h a u
 | .tbl ps=>h.get? a=some { cls:=.none,data:=.fields ps }
 | .met f x=>h.get? a=some (a7h (.ref f) (.ref x))
 | .ext φ=>φ h/\(∃o,h.get? a=some o)/\∀h1 h2:Heap,φ h1->(∀o,h1.get? a=some o->h2.get? a=some o)->φ h2
def HOk(H:Hp)(h:Heap):Prop:=∀a o,H a=some o->U0 P w H h a o
end
section
variable {P:u6}
theorem U0.lt(x:U0 P w H h a o):a<h.objs.size:=by
 cases o with
 | lst xs=>obtain⟨_,_,_,_,e⟩:=x;exact d7 e
 | tup xs=>obtain⟨_,_,_,p⟩:=x;exact p.lt
 | dK kvs=>obtain⟨_,_,_,_,o,_,_,e,_⟩:=x;exact d7 e
 | dT kvs=>obtain⟨_,_,_,_,o,_,_,e,_⟩:=x;exact d7 e
 | set S n=>obtain⟨o,_,_,_,e,_⟩:=x;exact d7 e
 | ins C dx fs=>obtain⟨_,_,_,e,_⟩:=x;exact d7 e
 | own y=>obtain⟨_,e⟩:=x;exact d7 e
 | xd fs=>obtain⟨_,⟨_,_,_,e,_⟩,_⟩:=x;exact d7 e
 | rng lo hi=>obtain⟨_,_,_,e⟩:=x;exact d7 e
 | frz ob u=>obtain⟨e,_⟩:=x;exact d7 e
 | tbl ps=>exact d7 (show h.get? a=some _ from x)
 | met f y=>exact d7 (show h.get? a=some _ from x)
 | ext φ=>obtain⟨_,⟨_,e⟩,_⟩:=x;exact d7 e
theorem Paired.mapP{α β:Type}{F G:α->β->Prop}:∀ {l₁:List α} {l₂:List β},Paired F l₁ l₂->(∀a b,F a b->G a b)->Paired G l₁ l₂
 | _,_,.nil,_=>.nil
 | _,_,.cons r t,f=>.cons (f _ _ r) (Paired.mapP t f)
theorem U0.stay(x:U0 P w H h a o)(k:∀b u,(b=a\/H b=some (.own a))->h.get? b=some u->h'.get? b=some u)
  (ho:∀b,H b=some (.own a)->H' b=some (.own a)) (ht:∀b xs,H b=some (.tup xs)->H' b=some (.tup xs)):U0 P w H' h' a o:=by
 induction o with
 | lst xs=>obtain⟨z,its,n,r,e⟩:=x;exact⟨z,its,n,r,k _ _ (.inl rfl) e⟩
 | tup xs=>obtain⟨z,its,r,ob,e,c⟩:=x;exact⟨z,its,r,ob,k _ _ (.inl rfl) e,c⟩
 | dK kvs=>obtain⟨z,y,vs,r,ob,es,ep,e,c⟩:=x;exact⟨z,y,vs,r,ob,es,ep,k _ _ (.inl rfl) e,c⟩
 | dT kvs=>
  obtain⟨z,y,xs,r,ob,es,ep,e,c⟩:=x
  exact⟨z,y,xs,Paired.mapP r fun p q z=>⟨z.1,ht _ _ z.2.1,z.2.2⟩,ob,es,ep,k _ _ (.inl rfl) e,c⟩
 | set S n=>obtain⟨ob,es,ep,t,e,c⟩:=x;exact⟨ob,es,ep,t,k _ _ (.inl rfl) e,c⟩
 | ins C dx fs=>
  obtain⟨d,z,ne,e,mA,⟨od,es,ep,e2,c⟩,r⟩:=x
  exact⟨ho _ d,z,ne,k _ _ (.inl rfl) e,mA,⟨od,es,ep,k _ _ (.inr d) e2,c⟩,r⟩
 | own y=>obtain⟨ob,e⟩:=x;exact⟨ob,k _ _ (.inl rfl) e⟩
 | xd fs=>obtain⟨mA,⟨od,es,ep,e,c⟩,r⟩:=x;exact⟨mA,⟨od,es,ep,k _ _ (.inl rfl) e,c⟩,r⟩
 | rng lo hi=>obtain⟨t,u,v,e⟩:=x;exact⟨t,u,v,k _ _ (.inl rfl) e⟩
 | frz ob u ih=>obtain⟨e,q⟩:=x;exact⟨k _ _ (.inl rfl) e,ih q⟩
 | tbl ps=>
  have e:h.get? a=some { cls:=.none,data:=.fields ps }:=x
  show h'.get? a=some { cls:=.none,data:=.fields ps }
  exact k a _ (.inl rfl) e
 | met f y=>
  have e:h.get? a=some (a7h (.ref f) (.ref y)):=x
  show h'.get? a=some (a7h (.ref f) (.ref y))
  exact k a _ (.inl rfl) e
 | ext φ=>obtain⟨p,⟨o,e⟩,st⟩:=x;exact⟨st _ _ p fun o q=>k _ _ (.inl rfl) q,⟨o,k _ _ (.inl rfl) e⟩,st⟩
theorem HOk.lt(x:HOk P w H h)(e:H a=some o):a<h.objs.size:=(x a o e).lt
theorem HOk.fresh(x:HOk P w H h)(e:h.objs.size<=a):H a=none:=by
 cases q:H a with
 | none=>rfl
 | some u=>exact absurd (v5 (x.lt q) e) (E8 _)
theorem HOk.kept(x:HOk P w H h)(k:∀b u,h.get? b=some u->h'.get? b=some u):HOk P w H h':=fun a o e=>
 (x a o e).stay (fun b u _ q=>k b u q) (fun _ q=>q) fun _ _ q=>q
theorem HOk.laid(x:HOk P w H h)(k:∀b u,h.get? b=some u->h'.get? b=some u)(hp:h.objs.size<=a)(new:U0 P w (upd H a o) h' a o):HOk P w (upd H a o) h':=fun b u e=>by
 have hn:=x.fresh hp
 by_cases hb:b=a
 ·subst hb;rw[d8]at e;cases e;exact new
 ·rw[j5 hb]at e
  exact(x b u e).stay (fun c v _ q=>k c v q) (fun c q=>by rw[j5 (d4 q hn)];exact q) fun c xs q=>by rw[j5 (d4 q hn)];exact q
end
def Rd(H:Hp)(a:Addr)(u:HO):Prop:=H a=some u\/∃o,H a=some (.frz o u)
theorem Rd.ok{P:u6}{u:HO}(r:Rd H a u)(x:HOk P w H h):U0 P w H h a u:=by
 rcases r with r | ⟨o,r⟩
 ·exact x a u r
 ·obtain⟨_,q⟩:=x a _ r
  exact q
def Mut:Option HO->Prop
 | some (.lst _)=>True
 | some (.dK _)=>True
 | some (.dT _)=>True
 | some (.set _ _)=>True
 | some (.ins _ _ _)=>True
 | some (.ext _)=>True
 | _=>False
section
variable {P:u6}{x e:Addr}{o':HO}
theorem HOk.write(ok:HOk P w H h)(mu:Mut (H x))(he:e=x\/H e=some (.own x))(k:∀b u,b≠e->h.get? b=some u->h'.get? b=some u)(heo:∃u,h'.get? e=some u)
  (new:U0 P w (upd H x o') h' x o'):HOk P w (upd H x o') h':=fun b u q=>by
 have nown:∀c y,H c=some (.own y)->c≠x:=fun c y r z=>by subst z;rw[r]at mu;exact mu
 have ntup:∀c xs,H c=some (.tup xs)->c≠x:=fun c xs r z=>by subst z;rw[r]at mu;exact mu
 by_cases hb:b=x
 ·subst hb;rw[d8]at q;cases q;exact new
 ·rw[j5 hb]at q
  by_cases hbe:b=e
  ·have q':H b=some (.own x):=by
    rcases he with z | z
    ·exact absurd (hbe.trans z) hb
    ·rw[hbe];exact z
   rw[q]at q';cases q'
   obtain⟨v,hv⟩:=heo
   exact⟨v,by rw[hbe];exact hv⟩
  ·refine(ok b u q).stay (fun c v hc r=>k c v ?_ r) (fun c r=>by rw[j5 (nown c b r)];exact r) fun c xs r=>by rw[j5 (ntup c xs r)];exact r
   rcases hc with rfl | hc
   ·exact hbe
   ·rintro rfl
    rcases he with z | z
    ·exact nown c b hc z
    ·rw[hc]at z;cases z;exact hb rfl
end
structure Un(fs ex:List Addr)(H H':Hp)(h h':Heap):Prop where
 keep:∀b o,h.get? b=some o->H b=none->b∉fs->b∉ex->h'.get? b=some o
 slot:∀b o,h.get? b=some o->H b=none->b∈fs->b∉ex->∃sl,h'.get? b=some { o with slots:=sl }
 free:∀b o,h.get? b=some o->H b=none->b∉ex->H' b=none
 there:∀b o,h.get? b=some o->b∉ex->∃o',h'.get? b=some o'
 tups:∀b xs,H b=some (.tup xs)->H' b=some (.tup xs)
 frzs:∀b o u,H b=some (.frz o u)->H' b=some (.frz o u)
 tbls:∀b ps,H b=some (.tbl ps)->∃more,H' b=some (.tbl (ps++more))
section
variable {fs fs' ex ex':List Addr}{H1 H2:Hp}{h1 h2:Heap}{x e:Addr}
theorem Un.any(u:Un fs ex H H1 h h1){ob:Obj}(q:h.get? b=some ob)(n:H b=none)(hx:b∉ex):∃sl,h1.get? b=some { ob with slots:=sl }:=by
 by_cases hb:b∈fs
 ·exact u.slot b ob q n hb hx
 ·exact⟨ob.slots,u.keep b ob q n hb hx⟩
theorem Un.kept(k:∀b u,h.get? b=some u->h'.get? b=some u):Un fs ex H H h h':=
 ⟨fun b ob q _ _ _=>k b ob q,fun b ob q _ _ _=>⟨ob.slots,k b ob q⟩,fun _ _ _ n _=>n,fun b ob q _=>⟨ob,k b ob q⟩,fun _ _ q=>q,fun _ _ _ q=>q,fun _ ps q=>⟨#[],by rw[q];simp⟩⟩
theorem Un.refl:Un fs ex H H h h:=Un.kept fun _ _ q=>q
theorem Un.laid(k:∀b u,h.get? b=some u->h'.get? b=some u)(hp:h.objs.size<=a)(hn:H a=none):Un fs ex H (upd H a o) h h' where
 keep:=fun b u q _ _ _=>k b u q
 slot:=fun b u q _ _ _=>⟨u.slots,k b u q⟩
 free:=fun b u q n _=>by rw[j5 (o5 (v5 (d7 q) hp))];exact n
 there:=fun b u q _=>⟨u,k b u q⟩
 tups:=fun b xs q=>by rw[j5 (d4 q hn)];exact q
 frzs:=fun b u xs q=>by rw[j5 (d4 q hn)];exact q
 tbls:=fun b ps q=>⟨#[],by rw[j5 (d4 q hn),q];simp⟩
theorem Un.write(mu:Mut (H x))(he:e=x\/H e=some (.own x))(k:∀b u,b≠e->h.get? b=some u->h'.get? b=some u)(heo:∃u,h'.get? e=some u):Un fs ex H (upd H x o) h h':=by
 have hx:∀b,H b=none->b≠x:=fun b n z=>by subst z;rw[n]at mu;exact mu
 have hb:∀b,H b=none->b≠e:=fun b n z=>by
  subst z
  rcases he with r | r
  ·exact hx b n r
  ·rw[n]at r;cases r
 have hm:∀b u,H b=some u->¬Mut (some u)->b≠x:=fun b u q nm z=>by subst z;rw[q]at mu;exact nm mu
 refine⟨fun b u q n _ _=>k b u (hb b n) q,fun b u q n _ _=>⟨u.slots,k b u (hb b n) q⟩,fun b u q n _=>by rw[j5 (hx b n)];exact n,fun b u q _=>?_,
  fun b xs q=>by rw[j5 (hm b _ q fun z=>z)];exact q,fun b u xs q=>by rw[j5 (hm b _ q fun z=>z)];exact q,fun b ps q=>⟨#[],by rw[j5 (hm b _ q fun z=>z),q];simp⟩⟩
 by_cases hbe:b=e
 ·subst hbe;exact heo
 ·exact⟨u,k b u hbe q⟩
end
def trk(h:Heap)(H:Hp):List Addr:=(A0 h.objs.size).filter fun a=>(H a).isSome
def b1j(h:Heap)(H:Hp):Heap:=PySem.W.hideAll h (trk h H)
theorem b6z(h:Heap)(H:Hp):(b1j h H).objs.size=h.objs.size:=PySem.W.hideAll_size _ _
theorem b9a{o:Obj}(e:h.get? b=some o)(n:H b=none):(b1j h H).get? b=some o:=
 PySem.W.hideAll_get _ e fun hm=>by
  have q:(H b).isSome=true:=(a4M.mp hm).2
  rw[n]at q;simp at q
theorem c1b{o:Obj}(e:(b1j h H).get? b=some o):h.get? b=some o/\H b=none:=by
 have e':h.get? b=some o:=PySem.W.of_hideAll (trk h H) e
 refine⟨e',?_⟩
 cases q:H b with
 | none=>rfl
 | some x=>
  have hm:b∈trk h H:=a4M.mpr ⟨N4.mpr (d7 e'),by simp[q]⟩
  have z:(b1j h H).get? b=none:=PySem.W.hideAll_none (trk h H) hm
  rw[z]at e;cases e
def c1A(g h:Heap)(L:Addr):List (Addr×Obj):=(A0 h.objs.size).filterMap fun a=>if a=L\/(g.get? a).isSome=true then none else (h.get? a).map fun o=>(a,o)
def a3V(g h:Heap)(L d:Addr):List (Addr×Obj):=(c1A g h L).filter fun p=>decide (p.1≠d)
structure Mod(K:Fg)(mg:Str->Option Value)(base:Heap):Prop where
 kin:K.In base
 glob:base.Ns q9 mg
 blt:∃mb,base.Ns builtinsNs mb/\∀x:Str,x ≠ "__name__" -> mb x=O9 x
 nolimit:base.NoLimit
structure Cx where
 prog:u6
 w:World
 K:Fg
 mg:Str->Option Value
 base:Heap
 A:E9
 N:List Str
 s₀:d3
 H₀:Hp
 env:Env
 outer:List Env
 stack:List Env
 ex:List Addr
 fn:Str->Bool
 calm:Bool
 pn:List (Addr×Obj)
 xe:Value->d3->Prop
variable{X:Cx}
def frs(l:List Env):List Addr:=l.filterMap (·.frame)
abbrev Cx.fs(X:Cx):List Addr:=frs X.outer
def Vis(sc:Scope)(x:Str):Prop:=sc.names.lookup x=some .local\/sc.names.lookup x=some .cell\/sc.names.lookup x=some .free
def Loc(sc:Scope)(x:Str):Prop:=sc.names.lookup x=some .local\/sc.names.lookup x=some .cell
def c6E(env:Env)(h:Heap)(m:Str->Option Value)(x:Str)(u:Value):Prop:=
 (env.kindOf x=some .local/\m x=some u)\/((env.kindOf x=some .cell\/env.kindOf x=some .free)/\∃c,env.cells.lookup x=some c/\h.IsCell c (some u))
structure Cx.Ok(X:Cx):Prop where
 mod:Mod X.K X.mg X.base
 kind:X.env.scope.kind=.function
 glob:X.env.globals=q9
 blt:X.env.builtins=builtinsNs
 above:X.s₀.heap.objs.size<=X.env.locals
 inj:∀x y c,X.env.cells.lookup x=some c->X.env.cells.lookup y=some c->x=y
 has:∀x,(X.env.kindOf x=some .cell\/X.env.kindOf x=some .free)->∃c,X.env.cells.lookup x=some c
 cab:∀x c,X.fn x=true->X.env.cells.lookup x=some c->X.s₀.heap.objs.size<=c
 hd:X.calm=true->X.A.handled=none
 frames:X.A.frames=some X.stack
 stk:X.stack=X.outer\/(X.stack=X.env::X.outer/\X.env.frame=some X.env.locals)
 exf:∀b∈X.ex,b≠X.env.locals/\∀x c,X.env.cells.lookup x=some c->c≠b
 bs:∀b o,X.base.get? b=some o->X.s₀.heap.get? b=some o/\X.H₀ b=none
 bsz:X.base.objs.size<=X.s₀.heap.objs.size
 noex:∀b o,X.base.get? b=some o->b∉X.ex
 exfs:∀b∈X.ex,b∉X.fs
 funs:X.s₀.heap.FunFrames X.base X.outer
 frf:∀b∈X.fs,X.H₀ b=none
structure Inv(X:Cx)(pins:List (Addr×Obj))(σ:List (Option V))(H:Hp)(s:d3):Prop where
 ok:X.Ok
 os:s.os=X.s₀.os
 bare:b0m s.gens
 base:Un X.fs X.ex X.H₀ H X.s₀.heap s.heap
 loc:∃m,s.heap.Ns X.env.locals m/\∀(i:Nat) (x:Str) (v:V),X.N[i]? = some x->σ[i]? = some (some v)->Vis X.env.scope x->∃u,C7 v u/\c6E X.env s.heap m x u
 cell:∀x c,X.env.cells.lookup x=some c->∃v,s.heap.IsCell c v
 free:H X.env.locals=none
 freeC:∀x c,X.env.cells.lookup x=some c->H c=none
 pin:∀p∈X.pn++pins,s.heap.get? p.1=some p.2/\H p.1=none/\p.1≠X.env.locals/\p.1∉X.fs/\∀v,p.2.data≠.cell v
 hok:HOk X.prog X.w H s.heap
 len:σ.length=X.N.length
section
variable {σ:List (Option V)}
theorem Cx.Ok.nofr(ok:X.Ok){o:Obj}(e:X.base.get? b=some o):b∉X.fs:=fun hb=>by
 have:=(ok.funs.mem hb).1
 rw[e]at this;cases this
theorem Inv.bs(I:Inv X pins σ H s):∀b o,X.base.get? b=some o->s.heap.get? b=some o/\H b=none:=fun b o e=>
 ⟨I.base.keep b o (I.ok.bs b o e).1 (I.ok.bs b o e).2 (I.ok.nofr e) (I.ok.noex b o e),I.base.free b o (I.ok.bs b o e).1 (I.ok.bs b o e).2 (I.ok.noex b o e)⟩
theorem Inv.bk(I:Inv X pins σ H s):∀b o,X.base.get? b=some o->s.heap.get? b=some o:=fun b o e=>(I.bs b o e).1
theorem Inv.mod(I:Inv X pins σ H s):Mod X.K X.mg X.base:=I.ok.mod
theorem Inv.kIn(I:Inv X pins σ H s):X.K.In s.heap:=I.ok.mod.kin.keeps I.bk
theorem Inv.lt(I:Inv X pins σ H s):X.env.locals<s.heap.objs.size:=let⟨_,hn,_⟩:=I.loc;hn.lt
theorem Inv.sz(I:Inv X pins σ H s):X.s₀.heap.objs.size<=s.heap.objs.size:=E3 I.ok.above (a1h I.lt)
theorem Inv.nofs(I:Inv X pins σ H s)(h:s.heap.objs.size<=a):a∉X.fs:=fun hb=>by
 obtain⟨_,o,ho,_⟩:=I.ok.funs.mem hb
 exact absurd (v5 (d7 ho) (E3 I.sz h)) (E8 _)
theorem Inv.cne(I:Inv X pins σ H s):∀x c,X.env.cells.lookup x=some c->c≠X.env.locals:=fun x c e z=>by
 obtain⟨v,o,ho,hd⟩:=I.cell x c e
 obtain⟨m,⟨o',es,ep,ho',hd',_⟩,_⟩:=I.loc
 rw[z,ho']at ho;cases ho;rw[hd']at hd;cases hd
theorem Inv.funs(I:Inv X pins σ H s):s.heap.FunFrames X.base X.outer:=by
 have all:∀(l:List Env),(∀b∈frs l,b∈X.fs)->X.s₀.heap.FunFrames X.base l->s.heap.FunFrames X.base l:=by
  intro l
  induction l with
  | nil=>intro _ _;trivial
  | cons env r ih=>
   intro hs hl
   obtain⟨hk,⟨L,o,hf,hn,ho,hd⟩,hr⟩:=hl
   have hL:L∈X.fs:=hs L (by unfold frs;rw[a6t,hf];exact C2)
   obtain⟨sl,e⟩:=I.base.slot L o ho (I.ok.frf L hL) hL fun z=>I.ok.exfs L z hL
   exact⟨hk,⟨L,_,hf,hn,e,hd⟩,ih (fun b hb=>hs b (by unfold frs;rw[a6t,hf];exact C6 _ hb)) hr⟩
 exact all X.outer (fun _ hb=>hb) I.ok.funs
theorem Inv.stack(I:Inv X pins σ H s):s.heap.FunFrames X.base X.stack:=by
 rcases I.ok.stk with e | ⟨e,hf⟩
 ·rw[e];exact I.funs
 ·rw[e]
  obtain⟨m,hn,_⟩:=I.loc
  refine .cons (by rw[I.ok.kind];decide) hf hn ?_ I.funs
  exact Heap.get?_none_of_le (E3 I.ok.bsz I.ok.above)
theorem Inv.stkSub(I:Inv X pins σ H s):∀b∈frs X.stack,b∈X.env.locals::X.fs:=fun b hb=>by
 rcases I.ok.stk with e | ⟨e,hf⟩
 ·rw[e]at hb;exact C6 _ hb
 ·rw[e]at hb
  unfold frs at hb
  rw[a6t,hf]at hb
  exact hb
theorem Inv.stkFree(I:Inv X pins σ H s):∀b∈frs X.stack,H b=none:=fun b hb=>by
 rcases g6.mp (I.stkSub b hb)with e | hb
 ·rw[e];exact I.free
 ·obtain⟨_,o,ho,_⟩:=I.ok.funs.mem hb
  exact I.base.free b o ho (I.ok.frf b hb) fun z=>I.ok.exfs b z hb
theorem Inv.step{g':Array GenState}{t':Nat}{d':Drawn}{ch:List Addr}(I:Inv X pins σ H s)
  (hch:∀b∈ch,(b∈X.ex\/X.s₀.heap.objs.size<=b)/\b≠X.env.locals/\(∀x c,X.env.cells.lookup x=some c->c≠b)/\∀p∈X.pn++pins,p.1≠b)
  (keep:∀b o,b≠X.env.locals->b∉X.fs->b∉ch->s.heap.get? b=some o->H b=none->h'.get? b=some o)
  (slot:∀b o,b≠X.env.locals->b∈X.fs->b∉ch->s.heap.get? b=some o->H b=none->∃sl,h'.get? b=some { o with slots:=sl }) (free:∀b o,b∉ch->s.heap.get? b=some o->H b=none->H' b=none)
  (there:∀b o,b∉ch->s.heap.get? b=some o->∃o',h'.get? b=some o')
  (tups:∀b xs,H b=some (.tup xs)->H' b=some (.tup xs)) (frzs:∀b o u,H b=some (.frz o u)->H' b=some (.frz o u)) (tbls:∀b ps,H b=some (.tbl ps)->∃more,H' b=some (.tbl (ps++more)))
  (ns:∀m,s.heap.Ns X.env.locals m->h'.Ns X.env.locals m) (hok:HOk X.prog X.w H' h') (hg:b0m g') :
  Inv X pins σ H' { s with heap:=h',gens:=g',drawn:=d',toks:=t' }:=by
 have neL:∀b o,X.s₀.heap.get? b=some o->b≠X.env.locals:=fun b o e=>o5 (v5 (d7 e) I.ok.above)
 have neC:∀b o,X.s₀.heap.get? b=some o->b∉X.ex->b∉ch:=fun b o e hx hb=>by
  rcases(hch b hb).1 with z | z
  ·exact hx z
  ·exact absurd (v5 (d7 e) z) (E8 _)
 have cellK:∀x c,X.env.cells.lookup x=some c->∀v,s.heap.IsCell c v->h'.IsCell c v:=fun x c e v ⟨o,ho,hd⟩=>by
  have nch:c∉ch:=fun z=>(hch c z).2.2.1 x c e rfl
  by_cases hc:c∈X.fs
  ·obtain⟨sl,q⟩:=slot c o (I.cne x c e) hc nch ho (I.freeC x c e)
   exact⟨_,q,hd⟩
  ·exact⟨o,keep c o (I.cne x c e) hc nch ho (I.freeC x c e),hd⟩
 refine⟨I.ok,I.os,hg,⟨fun b o e n hb hx=>?_,fun b o e n hb hx=>?_,fun b o e n hx=>?_,fun b o e hx=>?_,fun b xs e=>tups b xs (I.base.tups b xs e),fun b o xs e=>frzs b o xs (I.base.frzs b o xs e),fun b ps e=>?_⟩,?_,fun x c e=>?_,?_,fun x c e=>?_,fun p hp=>?_,hok,I.len⟩
 ·exact keep b o (neL b o e) hb (neC b o e hx) (I.base.keep b o e n hb hx) (I.base.free b o e n hx)
 ·obtain⟨sl,e1⟩:=I.base.slot b o e n hb hx
  obtain⟨sl',e2⟩:=slot b _ (neL b o e) hb (neC b o e hx) e1 (I.base.free b o e n hx)
  exact⟨sl',e2⟩
 ·obtain⟨o',e1⟩:=I.base.there b o e hx
  exact free b o' (neC b o e hx) e1 (I.base.free b o e n hx)
 ·obtain⟨o',e1⟩:=I.base.there b o e hx
  exact there b o' (neC b o e hx) e1
 ·obtain⟨m1,e1⟩:=I.base.tbls b ps e
  obtain⟨m2,e2⟩:=tbls b _ e1
  exact⟨m1++m2,by rw[e2,Array.append_assoc]⟩
 ·obtain⟨m,hn,hl⟩:=I.loc
  refine⟨m,ns m hn,fun i x v e1 e2 e3=>?_⟩
  obtain⟨u,r,l⟩:=hl i x v e1 e2 e3
  refine⟨u,r,?_⟩
  rcases l with l | ⟨k,c,e,z⟩
  ·exact .inl l
  ·exact .inr ⟨k,c,e,cellK x c e _ z⟩
 ·obtain⟨v,z⟩:=I.cell x c e
  exact⟨v,cellK x c e v z⟩
 ·obtain⟨m,⟨o,_,_,ho,_⟩,_⟩:=I.loc
  exact free _ o (fun z=>(hch _ z).2.1 rfl) ho I.free
 ·obtain⟨v,o,ho,hd⟩:=I.cell x c e
  exact free c o (fun z=>(hch c z).2.2.1 x c e rfl) ho (I.freeC x c e)
 ·obtain⟨e,n,ne,nf,d⟩:=I.pin p hp
  have nch:p.1∉ch:=fun z=>(hch p.1 z).2.2.2 p hp rfl
  exact⟨keep p.1 p.2 ne nf nch e n,free p.1 p.2 nch e n,ne,nf,d⟩
theorem Inv.un(I:Inv X pins σ H s)(u:Un X.fs [] H H' s.heap h')(hok:HOk X.prog X.w H' h'):Inv X pins σ H' { s with heap:=h',toks:=t' }:=by
 obtain⟨m,⟨o,es,ep,ho,r⟩,_⟩:=id I.loc
 obtain⟨sl,hL⟩:=u.any ho I.free (by simp)
 exact I.step (g':=s.gens) (d':=s.drawn) (ch:=[]) (fun _ z=>nomatch z) (fun b o _ hb _ e n=>u.keep b o e n hb (by simp)) (fun b o _ hb _ e n=>u.slot b o e n hb (by simp)) (fun b o _ e n=>u.free b o e n (by simp)) (fun b o _ e=>u.there b o e (by simp)) u.tups u.frzs u.tbls (fun m' hm=>by
  obtain⟨o',es',ep',ho',r'⟩:=hm
  rw[ho]at ho';cases ho'
  exact⟨_,es',ep',hL,r'⟩) hok I.bare
theorem Inv.call{g':Array GenState}{d':Drawn}{ch:List Addr}(I:Inv X pins σ H s)(u:Un (frs X.stack) ch H H' s.heap h')(hok:HOk X.prog X.w H' h')(hg:b0m g')
  (hch:∀b∈ch,(b∈X.ex\/X.s₀.heap.objs.size<=b)/\b≠X.env.locals/\(∀x c,X.env.cells.lookup x=some c->c≠b)/\∀p∈X.pn++pins,p.1≠b) :
  Inv X pins σ H' { s with heap:=h',gens:=g',drawn:=d',toks:=t' }:=by
 obtain⟨m,⟨o,es,ep,ho,r⟩,_⟩:=id I.loc
 obtain⟨sl,hL⟩:=u.any ho I.free fun z=>(hch _ z).2.1 rfl
 exact I.step (ch:=ch) hch (fun b o hL hb hc e n=>u.keep b o e n (fun z=>(g6.mp (I.stkSub b z)).elim hL hb) hc) (fun b o _ _ hc e n=>u.any e n hc) (fun b o hc e n=>u.free b o e n hc) (fun b o hc e=>u.there b o e hc) u.tups u.frzs u.tbls (fun m' hm=>by
  obtain⟨o',es',ep',ho',r'⟩:=hm
  rw[ho]at ho';cases ho'
  exact⟨_,es',ep',hL,r'⟩) hok hg
theorem Inv.turned{it:Addr}(I:Inv X pins σ H s)(k:∀b o,b≠it->s.heap.get? b=some o->h'.get? b=some o)(hn:H it=none)(hL:it≠X.env.locals)
  (h1:it∈X.ex\/X.s₀.heap.objs.size<=it) (h2:∀x c,X.env.cells.lookup x=some c->c≠it) (h3:∀p∈X.pn++pins,p.1≠it):Inv X pins σ H { s with heap:=h',toks:=t' }:=by
 have nit:∀b u,H b=some u->b≠it:=fun b u e z=>by rw[z,hn]at e;cases e
 refine I.step (g':=s.gens) (d':=s.drawn) (ch:=[it]) (fun b hb=>?_) (fun b o _ _ hc e _=>k b o (fun z=>hc (by simp[z])) e) (fun b o _ _ hc e _=>⟨o.slots,k b o (fun z=>hc (by simp[z])) e⟩) (fun _ _ _ _ n=>n)
  (fun b o hc e=>⟨o,k b o (fun z=>hc (by simp[z])) e⟩) (fun _ _ e=>e) (fun _ _ _ e=>e) (fun b ps e=>⟨#[],by rw[e];simp⟩) (fun m hm=>?_) (fun b u e=>?_) I.bare
 ·have e:b=it:=by simpa using hb
  subst e
  exact⟨h1,hL,h2,h3⟩
 ·obtain⟨o,es,ep,ho,r⟩:=hm
  exact⟨o,es,ep,k _ o (Ne.symm hL) ho,r⟩
 ·refine(I.hok b u e).stay (fun c v hc q=>k c v ?_ q) (fun _ q=>q) fun _ _ q=>q
  rcases hc with z | z
  ·rw[z];exact nit b u e
  ·exact nit c _ z
theorem Inv.tok(I:Inv X pins σ H s)(t:Nat):Inv X pins σ H { s with toks:=t }:=I.un (h':=s.heap) (t':=t) Un.refl I.hok
theorem Inv.kept(I:Inv X pins σ H s)(k:∀b u,s.heap.get? b=some u->h'.get? b=some u):Inv X pins σ H { s with heap:=h',toks:=t' }:=I.un (Un.kept k) (I.hok.kept k)
theorem Inv.laid(I:Inv X pins σ H s)(k:∀b u,s.heap.get? b=some u->h'.get? b=some u)(hp:s.heap.objs.size<=a)(new:U0 X.prog X.w (upd H a o) h' a o) :
  Inv X pins σ (upd H a o) { s with heap:=h',toks:=t' }:=I.un (Un.laid k hp (I.hok.fresh hp)) (I.hok.laid k hp new)
theorem Inv.write{x e:Addr}(I:Inv X pins σ H s)(mu:Mut (H x))(he:e=x\/H e=some (.own x))(k:∀b u,b≠e->s.heap.get? b=some u->h'.get? b=some u)(heo:∃u,h'.get? e=some u)
  (new:U0 X.prog X.w (upd H x o) h' x o):Inv X pins σ (upd H x o) { s with heap:=h',toks:=t' }:=I.un (Un.write mu he k heo) (I.hok.write mu he k heo new)
theorem Inv.weak{σ':List (Option V)}(I:Inv X pins σ H s)(hl:σ'.length=σ.length)(w:∀(i:Nat) v,σ'[i]? = some (some v)->σ[i]? = some (some v)):Inv X pins σ' H s:=
 ⟨I.ok,I.os,I.bare,I.base,let⟨m,hn,hl'⟩:=I.loc; ⟨m,hn,fun i x v e1 e2 e3=>hl' i x v e1 (w i v e2) e3⟩,I.cell,I.free,I.freeC,I.pin,I.hok,hl.trans I.len⟩
theorem Inv.pins_of{pins':List (Addr×Obj)}(I:Inv X pins σ H s)(h:∀p∈pins',s.heap.get? p.1=some p.2/\H p.1=none/\p.1≠X.env.locals/\p.1∉X.fs/\∀v,p.2.data≠.cell v):Inv X pins' σ H s:=
 ⟨I.ok,I.os,I.bare,I.base,I.loc,I.cell,I.free,I.freeC,fun p hp=>(i8.mp hp).elim (fun z=>I.pin p (D8 _ z)) (h p),I.hok,I.len⟩
theorem b2C{N:List Str}(hN:N.Nodup){j:Nat}{x:Str}(a:N[i]? = some x)(b:N[j]? = some x):i=j:=by
 obtain⟨h1,e1⟩:=l7.mp a
 obtain⟨h2,e2⟩:=l7.mp b
 exact(List.getElem_inj hN).mp (e1.trans e2.symm)
theorem a9J{M:Model}{A:E9}{E:Value->d3->Prop}{x:Str}{Q:Unit->d3->Prop}(I:Inv X pins σ H s)(hN:X.N.Nodup)(hi:X.N[i]? = some x)(hx:Loc X.env.scope x)(r:C7 v u)
  (h:∀s',Inv X pins (σ.set i (some v)) H s'->(∃a,Heap.SameBut a s.heap s'.heap/\(a=X.env.locals\/X.env.cells.lookup x=some a))->Q () s') (hf:X.fn x=true\/X.env.scope.names.lookup x=some .local:=by first | exact .inl rfl | exact .inr rfl | assumption):wpAny M A (storeName X.env x u) Q E s:=by
 obtain⟨m,hn,hl⟩:=id I.loc
 have hcls:(X.env.scope.kind == .class||(X.env.scope.kind == .module&&X.env.locals != X.env.globals))=false:=by rw[I.ok.kind];rfl
 have hiσ:i<σ.length:=by rw[I.len];exact(l7.mp hi).1
 have cne:=I.cne
 have tracked:∀ {a:Addr} {h':Heap},(∃o,s.heap.get? a=some o/\H a=none)->Heap.SameBut a s.heap h'->HOk X.prog X.w H h':=fun {a h'} ha hs b ob e=>by
  obtain⟨_,_,hfree⟩:=ha
  refine(I.hok b ob e).stay (fun c w' hc q=>(hs.2 c ?_).trans q) (fun _ q=>q) fun _ _ q=>q
  rintro rfl
  rcases hc with rfl | hc
  ·rw[hfree]at e;cases e
  ·rw[hfree]at hc;cases hc
 rcases hx with hk | hk
 ·refine wpAny_storeName_local hk hn (fun h' hn' hs=>?_) hcls
  obtain⟨oL,_,_,hoL,_⟩:=id hn
  refine h _ ⟨I.ok,I.os,I.bare,⟨fun b o e n hb hx=>?_,fun b o e n hb hx=>?_,I.base.free,fun b o e hx=>?_,I.base.tups,I.base.frzs,I.base.tbls⟩,⟨_,hn',fun j y v' e1 e2 e3=>?_⟩,fun y c e=>?_,I.free,I.freeC,fun p hp=>?_,tracked ⟨oL,hoL,I.free⟩ hs,by simpa using I.len⟩ ⟨_,hs,.inl rfl⟩
  ·exact(hs.2 b (o5 (v5 (d7 e) I.ok.above))).trans (I.base.keep b o e n hb hx)
  ·obtain⟨sl,e1⟩:=I.base.slot b o e n hb hx
   exact⟨sl,(hs.2 b (o5 (v5 (d7 e) I.ok.above))).trans e1⟩
  ·obtain⟨o',e1⟩:=I.base.there b o e hx
   exact⟨o',(hs.2 b (o5 (v5 (d7 e) I.ok.above))).trans e1⟩
  ·by_cases hj:j=i
   ·subst hj
    rw[hi]at e1;cases e1
    rw[F8 hiσ]at e2
    cases e2
    exact⟨u,r,.inl ⟨hk,by simp⟩⟩
   ·rw[J3 (Ne.symm hj)]at e2
    obtain⟨u',r',q⟩:=hl j y v' e1 e2 e3
    refine⟨u',r',?_⟩
    rcases q with ⟨k,e⟩ | ⟨k,c,e,z⟩
    ·refine .inl ⟨k,?_⟩
     have:y≠x:=fun e=>hj (b2C hN e1 (e ▸ hi))
     simp[this,e]
    ·exact .inr ⟨k,c,e,z.sameBut hs (cne y c e)⟩
  ·obtain⟨w',z⟩:=I.cell y c e
   exact⟨w',z.sameBut hs (cne y c e)⟩
  ·obtain⟨e,n,ne,nf,d⟩:=I.pin p hp
   exact⟨(hs.2 p.1 ne).trans e,n,ne,nf,d⟩
 ·have hfn:X.fn x=true:=by
   rcases hf with z | z
   ·exact z
   ·rw[z]at hk;cases hk
  obtain⟨c,hc⟩:=I.ok.has x (.inl hk)
  obtain⟨w',z⟩:=I.cell x c hc
  refine wpAny_storeName_cell I.ok.kind hk hc z (fun h' hc' hs=>?_)
  obtain⟨oc,hoc,hocd⟩:=id z
  refine h { s with heap:=h' } ⟨I.ok,I.os,I.bare,⟨fun b o e n hb hx=>?_,fun b o e n hb hx=>?_,I.base.free,fun b o e hx=>?_,I.base.tups,I.base.frzs,I.base.tbls⟩,⟨m,hn.sameBut hs (Ne.symm (cne x c hc)),fun j y v' e1 e2 e3=>?_⟩,fun y c' e=>?_,I.free,I.freeC,fun p hp=>?_,tracked ⟨oc,hoc,I.freeC x c hc⟩ hs,by simpa using I.len⟩ ⟨c,hs,.inr hc⟩
  ·exact(hs.2 b (o5 (v5 (d7 e) (I.ok.cab x c hfn hc)))).trans (I.base.keep b o e n hb hx)
  ·obtain⟨sl,e1⟩:=I.base.slot b o e n hb hx
   exact⟨sl,(hs.2 b (o5 (v5 (d7 e) (I.ok.cab x c hfn hc)))).trans e1⟩
  ·obtain⟨o',e1⟩:=I.base.there b o e hx
   exact⟨o',(hs.2 b (o5 (v5 (d7 e) (I.ok.cab x c hfn hc)))).trans e1⟩
  ·by_cases hj:j=i
   ·subst hj
    rw[hi]at e1;cases e1
    rw[F8 hiσ]at e2
    cases e2
    exact⟨u,r,.inr ⟨.inl hk,c,hc,hc'⟩⟩
   ·rw[J3 (Ne.symm hj)]at e2
    obtain⟨u',r',q⟩:=hl j y v' e1 e2 e3
    refine⟨u',r',?_⟩
    rcases q with q | ⟨k,c',e,z'⟩
    ·exact .inl q
    ·refine .inr ⟨k,c',e,z'.sameBut hs ?_⟩
     rintro rfl
     exact hj (b2C hN e1 (I.ok.inj _ _ _ e hc ▸ hi))
  ·by_cases hcc:c'=c
   ·subst hcc;exact⟨_,hc'⟩
   ·obtain⟨w2,z2⟩:=I.cell y c' e
    exact⟨w2,z2.sameBut hs hcc⟩
  ·obtain⟨e,n,ne,nf,d⟩:=I.pin p hp
   refine⟨(hs.2 p.1 ?_).trans e,n,ne,nf,d⟩
   intro q
   rw[q,hoc]at e
   have q':oc=p.2:=Option.some.inj e
   exact d w' (by rw[<-q'];exact hocd)
theorem a8f{M:Model}{A:E9}{E:Value->d3->Prop}{x:Str}{Q:Unit->d3->Prop}(I:Inv X pins σ H s)(hN:X.N.Nodup)(hi:X.N[i]? = some x)(hx:Loc X.env.scope x)(r:C7 v u)
  (h:∀s',Inv X pins (σ.set i (some v)) H s'->Q () s') (hf:X.fn x=true\/X.env.scope.names.lookup x=some .local:=by first | exact .inl rfl | exact .inr rfl | assumption):wpAny M A (storeName X.env x u) Q E s:=
 a9J I hN hi hx r (fun s' I' _=>h s' I') hf
theorem Inv.call'{s':d3}{ch:List Addr}(I:Inv X pins σ H s)(ho:s'.os=s.os)(u:Un (frs X.stack) ch H H' s.heap s'.heap)(hok:HOk X.prog X.w H' s'.heap)(hg:b0m s'.gens)
  (hch:∀b∈ch,(b∈X.ex\/X.s₀.heap.objs.size<=b)/\b≠X.env.locals/\(∀x c,X.env.cells.lookup x=some c->c≠b)/\∀p∈X.pn++pins,p.1≠b):Inv X pins σ H' s':=by
 obtain⟨h',g',d',t',o'⟩:=s'
 have e:o'=s.os:=ho
 subst e
 exact I.call (g':=g') (t':=t') (d':=d') u hok hg hch
end
abbrev XK:=Value->Option Addr->Hp->Prop
abbrev St:=List (Option V)
variable{σ:St}
abbrev VK:=V->Hp->Prop
abbrev TE:=St->Hp->VK->Prop
variable{ta te:TE}
abbrev TT:=St->Hp->(Bool->Hp->Prop)->Prop
abbrev TA:=St->Hp->(List V->Hp->Prop)->Prop
structure a7c where
 nx:St->Hp->Prop
 rt:VK
 bk:St->Hp->Prop:=fun _ _=>False
 ct:St->Hp->Prop:=fun _ _=>False
abbrev TS:=a7c->St->Hp->Prop
variable{tb:TS}
def EP(X:Cx)(pins:List (Addr×Obj))(σ:St)(Q:VK)(u:Value)(s':d3):Prop:=∃v H',Inv X pins σ H' s'/\C7 v u/\Q v H'
def TP(X:Cx)(pins:List (Addr×Obj))(σ:St)(Q:Bool->Hp->Prop)(b:Bool)(s':d3):Prop:=∃H',Inv X pins σ H' s'/\Q b H'
def AP(X:Cx)(pins:List (Addr×Obj))(σ:St)(Q:List V->Hp->Prop)(us:List Value)(s':d3):Prop:=∃vs H',Inv X pins σ H' s'/\D6 vs us/\Q vs H'
def SP(X:Cx)(pins:List (Addr×Obj))(D:a7c)(f:Flow)(s':d3):Prop:=
 match f with
 | .next=>∃σ' H',Inv X pins σ' H' s'/\D.nx σ' H'
 | .brk=>∃σ' H',Inv X pins σ' H' s'/\D.bk σ' H'
 | .cont=>∃σ' H',Inv X pins σ' H' s'/\D.ct σ' H'
 | .ret u=>∃v σ' H',Inv X pins σ' H' s'/\C7 v u/\D.rt v H'
def PE(X:Cx)(e:Expr)(t:TE):Prop:=
 ∀(pins:List (Addr×Obj)) (s:d3) (σ:St) (H:Hp) (Q:VK),Inv X pins σ H s->t σ H Q->wpAny (model X.prog X.w) X.A (eval e X.env) (EP X pins σ Q) X.xe s
def PT(X:Cx)(e:Expr)(t:TT):Prop:=
 ∀(pins:List (Addr×Obj)) (s:d3) (σ:St) (H:Hp) (Q:Bool->Hp->Prop),Inv X pins σ H s->t σ H Q->wpAny (model X.prog X.w) X.A (isTrue e X.env (eval e X.env)) (TP X pins σ Q) X.xe s
def PW(X:Cx)(e:Expr)(t:TT):Prop:=
 ∀(whole:Sem Value) (pins:List (Addr×Obj)) (s:d3) (σ:St) (H:Hp) (Q:Bool->Hp->Prop),Inv X pins σ H s->t σ H Q->wpAny (model X.prog X.w) X.A (isTrue e X.env whole) (TP X pins σ Q) X.xe s
theorem PW.pt{t:TT}(h:PW X e t):PT X e t:=h _
def PA(X:Cx)(es:List Expr)(t:TA):Prop:=
 ∀(pos:Pos) (pins:List (Addr×Obj)) (s:d3) (σ:St) (H:Hp) (Q:List V->Hp->Prop),Inv X pins σ H s->t σ H Q->wpAny (model X.prog X.w) X.A (spliced (U1 pos (d9 es X.env))) (AP X pins σ Q) X.xe s
def PS(X:Cx)(st:Stmt)(t:TS):Prop:=
 ∀(pins:List (Addr×Obj)) (s:d3) (σ:St) (H:Hp) (D:a7c),Inv X pins σ H s->t D σ H->wpAny (model X.prog X.w) X.A (exec st X.env) (SP X pins D) X.xe s
def PSs(X:Cx)(st:List Stmt)(t:TS):Prop:=
 ∀(pins:List (Addr×Obj)) (s:d3) (σ:St) (H:Hp) (D:a7c),Inv X pins σ H s->t D σ H->wpAny (model X.prog X.w) X.A (execs st X.env) (SP X pins D) X.xe s
theorem thn{α:Type}{t:Sem α}{Q Q':α->d3->Prop}{M:Model}{A:E9}{E:Value->d3->Prop}(h:wpAny M A t Q E s)(hQ:∀a s,Q a s->Q' a s):wpAny M A t Q' E s:=a0f h hQ fun _ _ x=>x
section
def b8(i:Nat):TE:=fun σ H Q=>∃v,σ[i]? = some (some v)/\Q v H
def tC(v:V):TE:=fun _ H Q=>Q v H
theorem c3l{x:Str}(hN:X.N[i]? = some x)(hv:Vis X.env.scope x)(hd:(x == ("__debug__" : Str))=false:=by decide)(hcd:(x == ("__classdict__" : Str))=false:=by decide):PE X (.Name x pos) (b8 i):=by
 intro pins s σ H Q I h
 obtain⟨v,e,h⟩:=h
 obtain⟨m,hn,hl⟩:=I.loc
 obtain⟨u,r,l⟩:=hl i x v hN e hv
 have fin:EP X pins σ Q u s:=⟨v,H,I,r,h⟩
 rcases l with ⟨hk,hm⟩ | ⟨hk,c,hc,hcell⟩
 ·exact wpAny_Name (wpAny_loadName_local I.ok.kind hk hn hm fin) hd
 ·rcases hk with hk | hk
  ·exact wpAny_Name (wpAny_loadName_cell I.ok.kind hk hc hcell fin) hd
  ·exact wpAny_Name (wpAny_loadName_free I.ok.kind hk hc hcell fin hcd) hd
theorem c3u{i j pos}:PE X (.Constant (.int i) j pos) (tC (.int i)):=fun _ _ _ H _ I h=>wpAny_Constant_int ⟨.int i,H,I.tok _,⟨_,rfl⟩,h⟩
theorem c5B{b j pos}:PE X (.Constant (.bool b) j pos) (tC (.bl b)):=fun _ _ _ H _ I h=>Constant_bool ⟨.bl b,H,I,rfl,h⟩
theorem c3r{j pos}:PE X (.Constant .none j pos) (tC .non):=fun _ _ _ H _ I h=>Constant_none ⟨.non,H,I,rfl,h⟩
theorem c3n{x j pos}:PE X (.Constant (.str x) j pos) (tC (.str x)):=fun _ _ _ H _ I h=>Calls.Constant_str ⟨.str x,H,I.tok _,⟨_,rfl⟩,h⟩
def Gl(X:Cx)(x:Str):Prop:=X.env.kindOf x=some .globalImplicit
theorem a7K{E:Value->d3->Prop}{x:Str}(I:Inv X pins σ H s)(hg:Gl X x)(hm:X.mg x=some u)(h:Q u s)
  (hd:(x == ("__debug__" : Str))=false:=by decide):wpAny (model X.prog X.w) X.A (eval (.Name x pos) X.env) Q E s:=
 Calls.Name_function_global I.ok.kind hg (Calls.loadGlobal_global (by rw[I.ok.glob];exact I.mod.glob.keeps I.bk) hm h) hd
theorem a4g{E:Value->d3->Prop}{x:Str}(I:Inv X pins σ H s)(hg:Gl X x)(hm:X.mg x=none)(hv:O9 x=some u)(h:Q u s)
  (hn:x ≠ "__name__" := by decide) (hd:(x == ("__debug__" : Str))=false:=by decide):wpAny (model X.prog X.w) X.A (eval (.Name x pos) X.env) Q E s:=by
 obtain⟨mb,h1,h2⟩:=I.mod.blt
 exact Calls.Name_function_global I.ok.kind hg (Calls.loadGlobal_builtin (by rw[I.ok.glob];exact I.mod.glob.keeps I.bk) hm (by rw[I.ok.blt];exact h1.keeps I.bk) ((h2 x hn).trans hv) h) hd
theorem c0E{x:Str}(hg:Gl X x)(hm:X.mg x=some u)(r:C7 v u)(hd:(x == ("__debug__" : Str))=false:=by decide):PE X (.Name x pos) (tC v):=
 fun _ _ _ H _ I h=>a7K I hg hm ⟨v,H,I,r,h⟩ hd
theorem c0J{x:Str}(hg:Gl X x)(hm:X.mg x=none)(hv:O9 x=some u)(r:C7 v u)(hn:x ≠ "__name__" := by decide)(hd:(x == ("__debug__" : Str))=false:=by decide):PE X (.Name x pos) (tC v):=
 fun _ _ _ H _ I h=>a4g I hg hm hv ⟨v,H,I,r,h⟩ hn hd
variable {a b:Expr}{tb:TE}
def PC(X:Cx)(op:CmpOp)(a b:Expr)(t:TE):Prop:=
 ∀(pins:List (Addr×Obj)) (s:d3) (σ:St) (H:Hp) (Q:VK),Inv X pins σ H s->t σ H Q ->
  wpAny (model X.prog X.w) X.A (eval a X.env) (fun v s₁=>wpAny (model X.prog X.w) X.A (eval b X.env) (fun u s₂=>wpAny (model X.prog X.w) X.A (p5 op v u) (EP X pins σ Q) X.xe s₂) X.xe s₁) X.xe s
def tB(t:TE):TT:=fun σ H Q=>t σ H fun x H1=>∃c,x=.bl c/\Q c H1
theorem c3w{op:CmpOp}{t:TE}(h:PC X op a b t)(h1:L8 op b=false:=by first | exact nobehind _ (by decide) (by decide) | rfl):PE X (.Compare a [op] [b] pos) t:=fun pins s σ H Q I hw=>wpAny_Compare1 (h pins s σ H Q I hw) h1
theorem b8j{op:CmpOp}{t:TE}(h:PC X op a b t)(h1:L8 op b=false:=by first | exact nobehind _ (by decide) (by decide) | rfl):PT X (.Compare a [op] [b] pos) (tB t):=by
 intro pins s σ H Q I hw
 refine c4H (thn (h pins s σ H _ I hw) fun v s1 h1=>thn h1 fun u s2 h2=>thn h2 fun c s3 ⟨x,H1,I1,r1,q1⟩=>?_) h1
 obtain⟨d,rfl,q⟩:=q1
 cases r1
 exact G6 ⟨H1,I1,q⟩
theorem c3b{t:TE}(h:PE X e t)(he:∀whole,isTrue e X.env whole=(do let v <-whole;a7Q e.pos;a0U [v] (truthy v)):=by intro _;rfl):PT X e (tB t):=by
 intro pins s σ H Q I hw
 refine isTrue_plain (thn (h pins s σ H _ I hw) fun v s1 ⟨x,H1,I1,r1,q1⟩=>?_) (he _)
 obtain⟨d,rfl,q⟩:=q1
 cases r1
 exact G6 ⟨H1,I1,q⟩
variable {tA tB':TT}{a3V:List Expr}
def b0s(t u:TT):TT:=fun σ H Q=>t σ H fun c H1=>if c=true then u σ H1 Q else Q false H1
def tOr(t u:TT):TT:=fun σ H Q=>t σ H fun c H1=>if c=true then Q true H1 else u σ H1 Q
def a5P(t:TT):TT:=fun σ H Q=>t σ H fun c H1=>Q (!c) H1
theorem c0l(ha:PT X a tA):PW X (.BoolOp .And [a] pos) tA:=by
 intro wh pins s σ H Q I h
 refine isTrue_and (thn (ha pins s σ H Q I h) fun c s1 e=>?_)
 cases c with
 | true=>exact isTrue_and_nil e
 | false=>exact e
theorem c2Z(ha:PT X a tA):PW X (.BoolOp .Or [a] pos) tA:=by
 intro wh pins s σ H Q I h
 refine isTrue_or (thn (ha pins s σ H Q I h) fun c s1 e=>?_)
 cases c with
 | false=>exact isTrue_or_nil e
 | true=>exact e
theorem c3a(ha:PT X a tA)(hb:PW X (.BoolOp .And (b::a3V) pos) tB'):PW X (.BoolOp .And (a::b::a3V) pos) (b0s tA tB'):=by
 intro wh pins s σ H Q I h
 refine isTrue_and (thn (ha pins s σ H _ I h) fun c s1 ⟨H1,I1,q1⟩=>?_)
 cases c with
 | true=>exact hb wh pins s1 σ H1 Q I1 q1
 | false=>exact⟨H1,I1,q1⟩
theorem c5q(ha:PT X a tA)(hb:PW X (.BoolOp .Or (b::a3V) pos) tB'):PW X (.BoolOp .Or (a::b::a3V) pos) (tOr tA tB'):=by
 intro wh pins s σ H Q I h
 refine isTrue_or (thn (ha pins s σ H _ I h) fun c s1 ⟨H1,I1,q1⟩=>?_)
 cases c with
 | true=>exact⟨H1,I1,q1⟩
 | false=>exact hb wh pins s1 σ H1 Q I1 q1
theorem c3c(ha:PT X a tA):PT X (.UnaryOp .Not a pos) (a5P tA):=by
 intro pins s σ H Q I h
 exact isTrue_not (ha pins s σ H (fun c H1=>Q (!c) H1) I h)
def a0u(ta tb:TE):TE:=fun σ H Q=>ta σ H fun x H1=>∃c,x=.bl c/\if c=true then tb σ H1 Q else Q (.bl false) H1
def b9V(ta tb:TE):TE:=fun σ H Q=>ta σ H fun x H1=>∃c,x=.bl c/\if c=true then Q (.bl true) H1 else tb σ H1 Q
def b1Z(ta:TE):TE:=fun σ H Q=>ta σ H fun x H1=>∃c,x=.bl c/\Q (.bl (!c)) H1
theorem c3p{op}{t:TE}(h:PE X a t):PE X (.BoolOp op [a] pos) t:=fun pins s σ H Q I hw=>BoolOp_one (h pins s σ H Q I hw)
theorem c3y(ha:PE X a ta)(hb:PE X (.BoolOp .And (b::a3V) pos) tb):PE X (.BoolOp .And (a::b::a3V) pos) (a0u ta tb):=by
 intro pins s σ H Q I h
 refine BoolOp_and (thn (ha pins s σ H _ I h) fun v s1 ⟨x,H1,I1,r1,q1⟩=>?_)
 obtain⟨c,rfl,q1⟩:=q1
 cases r1
 refine G6 ?_
 cases c with
 | true=>exact hb pins s1 σ H1 Q I1 q1
 | false=>exact⟨.bl false,H1,I1,rfl,q1⟩
theorem c5w(ha:PE X a ta)(hb:PE X (.BoolOp .Or (b::a3V) pos) tb):PE X (.BoolOp .Or (a::b::a3V) pos) (b9V ta tb):=by
 intro pins s σ H Q I h
 refine BoolOp_or (thn (ha pins s σ H _ I h) fun v s1 ⟨x,H1,I1,r1,q1⟩=>?_)
 obtain⟨c,rfl,q1⟩:=q1
 cases r1
 refine G6 ?_
 cases c with
 | false=>exact hb pins s1 σ H1 Q I1 q1
 | true=>exact⟨.bl true,H1,I1,rfl,q1⟩
theorem c3q(ha:PE X a ta):PE X (.UnaryOp .Not a pos) (b1Z ta):=by
 intro pins s σ H Q I h
 refine UnaryOp_ (thn (ha pins s σ H _ I h) fun v s1 ⟨x,H1,I1,r1,q1⟩=>?_)
 obtain⟨c,rfl,q1⟩:=q1
 cases r1
 exact not_of (G6 ⟨.bl (!c),H1,I1,rfl,q1⟩)
def tIf(t:TT)(ta tb:TE):TE:=fun σ H Q=>t σ H fun c H1=>if c=true then ta σ H1 Q else tb σ H1 Q
theorem b8t(hc:PT X c tA)(ha:PE X a ta)(hb:PE X b tb):PE X (.IfExp c a b pos) (tIf tA ta tb):=by
 intro pins s σ H Q I h
 refine wpAny_IfExp (thn (hc pins s σ H _ I h) fun d s1 ⟨H1,I1,q1⟩=>?_)
 cases d with
 | true=>exact ha pins s1 σ H1 Q I1 q1
 | false=>exact hb pins s1 σ H1 Q I1 q1
end
def SqL(K:Fg)(H:Hp)(a:Addr)(xs:List V):Prop:=
 Rd H a (.lst xs) \/
  ∃(o:Obj) (its:Array Value) (n:Nat),K.lookup a=some o/\o.cls=.type "list" /\ o.dict=none/\o.data=.seq its n/\its.size<=j6/\D6 xs its.toList
def SqT(K:Fg)(H:Hp)(a:Addr)(xs:List V):Prop:=
 Rd H a (.tup xs) \/
  ∃(o:Obj) (its:Array Value) (n:Nat),K.lookup a=some o/\o.cls=.type "tuple" /\ o.data=.seq its n/\its.size<=j6/\D6 xs its.toList
def c6C:Value->Option V
 | .none=>some .non
 | .bool b=>some (.bl b)
 | .int i _=>some (.int i)
 | .str x _=>some (.str x)
 | .bytes b _=>some (.byt b)
 | .float b _=>some (.flt b)
 | .ref a=>some (.ref a)
 | .type n=>some (.ty n)
 | _=>none
theorem C7.abs{x:V}(r:C7 x u):c6C u=some x:=by
 cases x with
 | non=>cases r;rfl
 | bl _=>cases r;rfl
 | int _=>obtain⟨t,rfl⟩:=r;rfl
 | str _=>obtain⟨t,rfl⟩:=r;rfl
 | byt _=>obtain⟨t,rfl⟩:=r;rfl
 | flt _=>obtain⟨t,rfl⟩:=r;rfl
 | ref _=>cases r;rfl
 | ty _=>cases r;rfl
theorem C7.inj{x:V}(r:C7 x u)(q:C7 y u):x=y:=Option.some.inj (r.abs.symm.trans q.abs)
theorem D6.inj:∀ {xs ys:List V} {us:List Value},D6 xs us->D6 ys us->xs=ys
 | _,_,_,.nil,.nil=>rfl
 | _,_,_,.cons r t,.cons r' t'=>by rw[r.inj r',D6.inj t t']
section
variable {ys:List V}
theorem SqL.of{K:Fg}(h:H a=some (.lst xs)):SqL K H a xs:=.inl (.inl h)
theorem SqT.of{K:Fg}(h:H a=some (.tup xs)):SqT K H a xs:=.inl (.inl h)
theorem Inv.list(I:Inv X pins σ H s)(h:SqL X.K H a xs):∃its:List Value,D6 xs its/\PlainL s.heap a its.toArray/\xs.length<=j6:=by
 rcases h with h | ⟨o,its,n,hk,hc,hd,hs,hz,r⟩
 ·obtain⟨z,its,n,r,e⟩:=h.ok I.hok
  exact⟨its,r,⟨_,n,e,rfl,rfl,rfl⟩,z⟩
 ·refine⟨its.toList,r,⟨o,n,I.kIn a o hk,hc,hd,by simpa using hs⟩,?_⟩
  have e:=r.length
  simp only[z8]at e
  omega
theorem Inv.tuple(I:Inv X pins σ H s)(h:SqT X.K H a xs):∃its:List Value,D6 xs its/\IsTup s.heap a its.toArray/\xs.length<=j6:=by
 rcases h with h | ⟨o,its,n,hk,hc,hs,hz,r⟩
 ·obtain⟨z,its,r,p⟩:=h.ok I.hok
  exact⟨its,r,p,z⟩
 ·refine⟨its.toList,r,⟨o,I.kIn a o hk,hc,n,by simpa using hs⟩,?_⟩
  have e:=r.length
  simp only[z8]at e
  omega
theorem Inv.list_inj(I:Inv X pins σ H s)(h:SqL X.K H a xs)(h':SqL X.K H a ys):xs=ys:=by
 obtain⟨its,r,⟨o,n,e,_,_,d⟩,_⟩:=I.list h
 obtain⟨its',r',⟨o',n',e',_,_,d'⟩,_⟩:=I.list h'
 rw[e]at e';cases e'
 rw[d]at d'
 injection d' with d1 _
 have:its=its':=by simpa using congrArg Array.toList d1
 subst this
 exact r.inj r'
end
abbrev Cx.wish(X:Cx)(E:Value->d3->Prop):Cx:={ X with xe:=E }
abbrev Cx.nox(X:Cx):Cx:=X.wish fun _ _=>False
theorem Cx.Ok.wish(ok:X.Ok)(E:Value->d3->Prop):(X.wish E).Ok:=
 ⟨ok.mod,ok.kind,ok.glob,ok.blt,ok.above,ok.inj,ok.has,ok.cab,ok.hd,ok.frames,ok.stk,ok.exf,ok.bs,ok.bsz,ok.noex,ok.exfs,ok.funs,ok.frf⟩
theorem Cx.Ok.unwish{E:Value->d3->Prop}(ok:(X.wish E).Ok):X.Ok:=
 ⟨ok.mod,ok.kind,ok.glob,ok.blt,ok.above,ok.inj,ok.has,ok.cab,ok.hd,ok.frames,ok.stk,ok.exf,ok.bs,ok.bsz,ok.noex,ok.exfs,ok.funs,ok.frf⟩
section
variable {E:Value->d3->Prop}
theorem Inv.wish(I:Inv X pins σ H s)(E:Value->d3->Prop):Inv (X.wish E) pins σ H s:=⟨I.ok.wish E,I.os,I.bare,I.base,I.loc,I.cell,I.free,I.freeC,I.pin,I.hok,I.len⟩
theorem Inv.unwish(I:Inv (X.wish E) pins σ H s):Inv X pins σ H s:=⟨I.ok.unwish,I.os,I.bare,I.base,I.loc,I.cell,I.free,I.freeC,I.pin,I.hok,I.len⟩
theorem SP.unwish{D:a7c}{f:Flow}{s':d3}(h:SP (X.wish E) pins D f s'):SP X pins D f s':=by
 cases f with
 | next=>obtain⟨σ',H',I,q⟩:=h;exact⟨σ',H',I.unwish,q⟩
 | brk=>obtain⟨σ',H',I,q⟩:=h;exact⟨σ',H',I.unwish,q⟩
 | cont=>obtain⟨σ',H',I,q⟩:=h;exact⟨σ',H',I.unwish,q⟩
 | ret u=>obtain⟨v,σ',H',I,r,q⟩:=h;exact⟨v,σ',H',I.unwish,r,q⟩
theorem PSs.nox{st:List Stmt}{t:TS}(h:PSs X.nox st t):PSs X st t:=fun pins s σ H D I hw=>
 a0f (h pins s σ H D (I.wish _) hw) (fun _ _ q=>q.unwish) fun _ _ z=>False.elim z
end
section
variable {st:Stmt}{a3V:List Stmt}{t u:TS}
def C8:TS:=fun D σ H=>D.nx σ H
def u7(t u:TS):TS:=fun D σ H=>t { D with nx:=u D } σ H
theorem c0s:PSs X [] C8:=fun _ _ σ H _ I h=>a7P ⟨σ,H,I,h⟩
theorem b8l(h1:PS X st t)(h2:PSs X a3V u):PSs X (st::a3V) (u7 t u):=by
 intro pins s σ H D I h
 refine wpAny_execs_cons (thn (h1 pins s σ H { D with nx:=u D } I h) fun f s1 q=>?_)
 cases f with
 | next=>
  obtain⟨σ',H',I',q⟩:=q
  exact h2 pins s1 σ' H' D I' q
 | ret v=>exact q
 | brk=>exact q
 | cont=>exact q
theorem c0r(h1:PS X st t):PSs X [st] t:=by
 intro pins s σ H D I h
 refine wpAny_execs_cons (thn (h1 pins s σ H D I h) fun f s1 q=>?_)
 cases f with
 | next=>exact a7P q
 | ret v=>exact q
 | brk=>exact q
 | cont=>exact q
theorem Inv.quiet(I:Inv X pins σ H s):interactive X.env=false:=by simp[interactive,I.ok.kind]
def a0t(te:TE):TS:=fun D σ H=>te σ H fun _ H1=>D.nx σ H1
theorem c0t(he:PE X e te)(hs:a1z e none pos.line X.env=pure false:=by rfl):PS X (.Expr e pos) (a0t te):=by
 intro pins s σ H D I h
 exact wpAny_Expr_any (thn (he pins s σ H _ I h) fun v s1 ⟨x,H1,I1,r1,q1⟩=>⟨σ,H1,I1,q1⟩) I.quiet hs
def I0(te:TE):TS:=fun D σ H=>te σ H D.rt
theorem c3e(he:PE X e te):PS X (.Return (some e) pos) (I0 te):=by
 intro pins s σ H D I h
 exact wpAny_Return_some (thn (he pins s σ H _ I h) fun v s1 ⟨x,H1,I1,r1,q1⟩=>⟨x,σ,H1,I1,r1,q1⟩)
def K9(c:TT)(t u:TS):TS:=fun D σ H=>c σ H fun b H1=>if b=true then t D σ H1 else u D σ H1
theorem c5t{a b:List Stmt}{tc:TT}(hc:PT X c tc)(ha:PSs X a t)(hb:PSs X b u):PS X (.If c a b pos) (K9 tc t u):=by
 intro pins s σ H D I h
 refine wpAny_If (thn (hc pins s σ H _ I h) fun d s1 ⟨H1,I1,q1⟩=>?_)
 cases d with
 | true=>exact ha pins s1 σ H1 D I1 q1
 | false=>exact hb pins s1 σ H1 D I1 q1
end
abbrev TG:=V->St->Hp->(St->Hp->Prop)->Prop
variable{g:TG}
abbrev TGs:=List V->St->Hp->(St->Hp->Prop)->Prop
def PG(X:Cx)(target:Expr)(t:TG):Prop:=
 ∀(pins:List (Addr×Obj)) (s:d3) (σ:St) (H:Hp) (v:V) (u:Value) (Q:St->Hp->Prop),Inv X pins σ H s->C7 v u->t v σ H Q ->
  wpAny (model X.prog X.w) X.A (a9E target X.env u) (fun _ s'=>∃σ' H',Inv X pins σ' H' s'/\Q σ' H') X.xe s
def PGs(X:Cx)(ts:List Expr)(t:TGs):Prop:=
 ∀(pins:List (Addr×Obj)) (s:d3) (σ:St) (H:Hp) (vs:List V) (us:List Value) (Q:St->Hp->Prop),Inv X pins σ H s->D6 vs us->t vs σ H Q ->
  wpAny (model X.prog X.w) X.A (assignInOrder ((a0P ts X.env).map (·.2)) us) (fun _ s'=>∃σ' H',Inv X pins σ' H' s'/\Q σ' H') X.xe s
abbrev a9y:=V->V->V->Hp->(Hp->Prop)->Prop
def b9w(X:Cx)(t:a9y):Prop:=
 ∀(pins:List (Addr×Obj)) (s:d3) (σ:St) (H:Hp) (o i v:V) (ov iv u:Value) (Q:Hp->Prop),Inv X pins σ H s->C7 o ov->C7 i iv->C7 v u->t o i v H Q ->
  wpAny (model X.prog X.w) X.A (c2m ov iv u) (fun _ s'=>∃H',Inv X pins σ H' s'/\Q H') X.xe s
abbrev TIp:=V->V->Hp->VK->Prop
def PIp(X:Cx)(op:b6Z)(t:TIp):Prop:=
 ∀(pins:List (Addr×Obj)) (s:d3) (σ:St) (H:Hp) (x y:V) (v u:Value) (Q:VK),Inv X pins σ H s->C7 x v->C7 y u->t x y H Q ->
  wpAny (model X.prog X.w) X.A (inplaceOp op v u) (EP X pins σ Q) X.xe s
section
def o9(i:Nat):TG:=fun v σ H Q=>Q (σ.set i (some v)) H
theorem b0S{x:Str}(hN:X.N.Nodup)(hi:X.N[i]? = some x)(hx:Loc X.env.scope x)(hf:X.fn x=true\/X.env.scope.names.lookup x=some .local:=by first | exact .inl rfl | exact .inr rfl | assumption):PG X (.Name x pos) (o9 i):=by
 intro pins s σ H v u Q I r h
 exact b3r (a8f I hN hi hx r (fun s' I'=>⟨_,H,I',h⟩) hf)
def b1m:TGs:=fun vs σ H Q=>vs=[]/\Q σ H
def a1m(t:TG)(u:TGs):TGs:=fun vs σ H Q=>∃v r,vs=v::r/\t v σ H fun σ' H'=>u r σ' H' Q
theorem b4Z:PGs X [] b1m:=by
 intro pins s σ H vs us Q I r h
 obtain⟨e,h⟩:=h
 subst e
 cases r
 exact assignInOrder_nil ⟨σ,H,I,h⟩
theorem a8t{t:TG}{u:TGs}(h1:PG X e t)(h2:PGs X es u)
  (hs:(a0P (e::es) X.env).map (·.2)=a9E e X.env::(a0P es X.env).map (·.2):=by rfl):PGs X (e::es) (a1m t u):=by
 intro pins s σ H vs us Q I r h
 obtain⟨v,vr,e1,h⟩:=h
 subst e1
 cases r with
 | cons r rr=>
  rw[hs]
  refine assignInOrder_cons (thn (h1 pins s σ H _ _ _ I r h) fun _ s1 ⟨σ1,H1,I1,q1⟩=>?_)
  exact h2 pins s1 σ1 H1 _ _ Q I1 rr q1
def b1l(K:Fg)(n:Nat)(t:TGs):TG:=fun v σ H Q=>∃a xs,v=.ref a/\SqT K H a xs/\xs.length=n/\t xs σ H Q
theorem b8q{k:Nat}{t:TGs}{n:Nat}(hc:X.calm=true)(h:PGs X es t)
  (hn:(a0P es X.env).length=n:=by rfl) (hst:(a0P es X.env).findIdx? (·.1)=none:=by rfl):PG X (.Tuple es k pos) (b1l X.K n t):=by
 intro pins s σ H v u Q I r hw
 obtain⟨a,xs,e1,hq,hl,hw⟩:=hw
 subst e1
 cases r
 obtain⟨its,rv,ht,hz⟩:=I.tuple hq
 refine assign_Tuple_tuple (I.ok.hd hc) ht (by simp[hn,<-hl,rv.length]) hst fun h' hx=>?_
 have I1:Inv X pins σ H { s with heap:=h' }:=I.kept (t':=s.toks) fun b o e=>hx b o (o5 (d7 e)) e
 exact h pins _ σ H xs _ Q I1 (by simpa using rv) hw
def b6B(to ti:TE)(t:a9y):TG:=fun v σ H Q=>to σ H fun o H1=>ti σ H1 fun i H2=>t o i v H2 fun H3=>Q σ H3
theorem c3k{o i:Expr}{to ti:TE}{t:a9y}(ho:PE X o to)(hi:PE X i ti)(hs:b9w X t)
  (ha:∀v,a9E (.Subscript o i pos) X.env v=(do
   let ov <-a0U [v] (eval o X.env)
   let iv <-a0U [v,ov] (eval i X.env)
   a7Q pos
   a0U [v,ov,iv] (c2m ov iv v)
   release [v,ov,iv] []):=by intro _;rfl):PG X (.Subscript o i pos) (b6B to ti t):=by
 intro pins s σ H v u Q I r h
 rw[ha]
 refine a9 (V7 (thn (ho pins s σ H _ I h) fun ov s1 ⟨x,H1,I1,r1,q1⟩=>?_))
 refine a9 (V7 (thn (hi pins s1 σ H1 _ I1 q1) fun iv s2 ⟨y,H2,I2,r2,q2⟩=>?_))
 refine a9 (c2k (a9 (V7 (thn (hs pins s2 σ H2 x y v ov iv u _ I2 r1 r2 r q2) fun _ s3 ⟨H3,I3,q3⟩=>?_))))
 exact wpAny_release ⟨σ,H3,I3,q3⟩
def D5(te:TE)(g:TG):TS:=fun D σ H=>te σ H fun x H1=>g x σ H1 D.nx
theorem c3h(he:PE X e te)(hg:PG X tg g)(hs:swapsWithSole [tg] e pos.line X.env=pure false:=by rfl)(hw:swappedStores [tg] e X.env=pure none:=by rfl)
  (h1:(a0P [tg] X.env).map (·.2)=[a9E tg X.env]:=by rfl):PS X (.Assign [tg] e pos) (D5 te g):=by
 intro pins s σ H D I h
 refine wpAny_Assign_stores (thn (he pins s σ H _ I h) fun v s1 ⟨x,H1,I1,r1,q1⟩=>?_) hs hw
 rw[h1]
 exact thn (hg pins s1 σ H1 x v _ I1 r1 q1) fun _ s2 q=>q
theorem c3d{x:Str}{pos':Pos}(hN:X.N.Nodup)(hi:X.N[i]? = some x)(hx:Loc X.env.scope x)(he:PE X e te)(hs:a1z e (some (.Name x pos')) pos.line X.env=pure false:=by rfl)(hf:X.fn x=true\/X.env.scope.names.lookup x=some .local:=by first | exact .inl rfl | exact .inr rfl | assumption) :
  PS X (.Assign [.Name x pos'] e pos) (D5 te (o9 i)):=by
 intro pins s σ H D I h
 refine wpAny_Assign_Name (thn (he pins s σ H _ I h) fun v s1 ⟨y,H1,I1,r1,q1⟩=>?_) hs
 exact a8f I1 hN hi hx r1 (fun s2 I2=>⟨_,H1,I2,q1⟩) hf
def b4O(to ti te:TE)(tget:V->V->Hp->VK->Prop)(tip:TIp)(tset:a9y):TS:=fun D σ H=>to σ H fun o H1=>ti σ H1 fun i H2=>tget o i H2 fun x H3=>te σ H3 fun y H4=>tip x y H4 fun z H5=>tset o i z H5 fun H6=>D.nx σ H6
def c4t(X:Cx)(t:V->V->Hp->VK->Prop):Prop:=
 ∀(pins:List (Addr×Obj)) (s:d3) (σ:St) (H:Hp) (o i:V) (ov iv:Value) (Q:VK),Inv X pins σ H s->C7 o ov->C7 i iv->t o i H Q ->
  wpAny (model X.prog X.w) X.A (c2n ov iv) (EP X pins σ Q) X.xe s
theorem c0v{o i:Expr}{to ti:TE}{tget:V->V->Hp->VK->Prop}{tip:TIp}{tset:a9y}{op:b6Z}{tpos:Pos}(ho:PE X o to)(hi:PE X i ti)(hg:c4t X tget)(he:PE X e te)(hp:PIp X op tip)(hs:b9w X tset)
  (ha:∀ov iv new,augStore i ov iv new=(do a0U [new,ov,iv] (c2m ov iv new);release [new,ov,iv] [];pure .next):=by intros;rfl):PS X (.AugAssign (.Subscript o i tpos) op e pos) (b4O to ti te tget tip tset):=by
 intro pins s σ H D I h
 refine wpAny_AugAssign_SubscriptAny (thn (ho pins s σ H _ I h) fun ov s1 ⟨x1,H1,I1,r1,q1⟩=>?_) ha
 refine thn (hi pins s1 σ H1 _ I1 q1) fun iv s2 ⟨x2,H2,I2,r2,q2⟩=>?_
 refine thn (hg pins s2 σ H2 x1 x2 ov iv _ I2 r1 r2 q2) fun old s3 ⟨x3,H3,I3,r3,q3⟩=>?_
 refine thn (he pins s3 σ H3 _ I3 q3) fun v s4 ⟨x4,H4,I4,r4,q4⟩=>?_
 refine thn (hp pins s4 σ H4 x3 x4 old v _ I4 r3 r4 q4) fun new s5 ⟨x5,H5,I5,r5,q5⟩=>?_
 exact thn (hs pins s5 σ H5 x1 x2 x5 ov iv new _ I5 r1 r2 r5 q5) fun _ s6 ⟨H6,I6,q6⟩=>⟨σ,H6,I6,q6⟩
def ipI(f:Int->Int->Int):TIp:=fun x y H Q=>∃i j,x=.int i/\y=.int j/\Q (.int (f i j)) H
theorem c4h:PIp X .Add (ipI fun i j=>i+j):=by
 intro pins s σ H x y v u Q I r1 r2 h
 obtain⟨i,j,e1,e2,q⟩:=h
 subst e1;subst e2
 obtain⟨t,rfl⟩:=r1
 obtain⟨t',rfl⟩:=r2
 exact iadd_int ⟨.int _,H,I.tok _,⟨_,rfl⟩,q⟩
end
section
def b0q(c:TT)(tb:TS):TS:=fun D σ H=>∃W:Nat->St->Hp->Prop,(∃m,W m σ H)/\∀m σ H,W m σ H ->
 c σ H fun b H1=>if b=true then ∃N:St->Hp->Prop,(∀σ' H',N σ' H'->∃m',m'<m/\W m' σ' H')/\tb { D with nx:=N,ct:=N,bk:=D.nx } σ H1 else D.nx σ H1
theorem b8m{body:List Stmt}{tc:TT}(hp:c4M (model X.prog X.w) X.A X.env X.xe)(hc:PT X c tc)(hb:PSs X body tb):PS X (.While c body [] pos) (b0q tc tb):=by
 intro pins s σ H D I h
 obtain⟨W,⟨m0,w0⟩,turn⟩:=h
 refine wpAny_While (codeAny_whileLoop (fun n s'=>∃σ' H',Inv X pins σ' H' s'/\W n σ' H') ?_ m0 ⟨σ,H,I,w0⟩)
 rintro n s1 ⟨σ1,H1,I1,w1⟩
 refine a0r hp (thn (hc pins s1 σ1 H1 _ I1 (turn n σ1 H1 w1)) fun b s2 ⟨H2,I2,q2⟩=>?_)
 cases b with
 | true=>
  obtain⟨N,hN,q2⟩:=q2
  rw[if_pos rfl]
  refine a0r hp (thn (hb pins s2 σ1 H2 _ I2 q2) fun f s3 q3=>?_)
  cases f with
  | next=>
   obtain⟨σ3,H3,I3,n3⟩:=q3
   obtain⟨m',hm,w3⟩:=hN σ3 H3 n3
   exact⟨m',hm,σ3,H3,I3,w3⟩
  | cont=>
   obtain⟨σ3,H3,I3,n3⟩:=q3
   obtain⟨m',hm,w3⟩:=hN σ3 H3 n3
   exact⟨m',hm,σ3,H3,I3,w3⟩
  | brk=>exact q3
  | ret v=>exact q3
 | false=>
  rw[if_neg l9]
  exact a7P ⟨σ1,H2,I2,q2⟩
end
structure It where
 go:Nat->Hp->Prop
 yld:Nat->Hp->V->Hp->Prop
 stop:Nat->Hp->Prop
def a4J(X:Cx)(pins:List (Addr×Obj))(H:Hp)(b:Addr):Prop:=
 H b=none/\b≠X.env.locals/\b∉X.fs/\(b∈X.ex\/X.s₀.heap.objs.size<=b)/\(∀x c,X.env.cells.lookup x=some c->c≠b)/\∀p∈X.pn++pins,p.1≠b
theorem Inv.fpOk(I:Inv X pins σ H s)(hb:s.heap.objs.size<=b)(hn:H' b=none):a4J X pins H' b:=by
 refine⟨hn,a8Z (v5 I.lt hb),I.nofs hb,.inr (E3 I.sz hb),fun x c e z=>?_,fun p hp z=>?_⟩
 ·obtain⟨v,q⟩:=I.cell x c e
  exact absurd (v5 q.lt (by rw[z];exact hb)) (E8 _)
 ·exact absurd (v5 (d7 (I.pin p hp).1) (by rw[z];exact hb)) (E8 _)
structure b3g(P:u6)(w:World)(K:Fg)(tg:Expr)(J:It)(fp:List Addr)(it:Addr)(tn:Nat->Heap->Prop):Prop where
 mem:it∈fp
 obj:∀i h,tn i h->∀b∈fp,∃o,h.get? b=some o/\∀v,o.data≠.cell v
 keep:∀i h h',tn i h->(∀b∈fp,∀o,h.get? b=some o->h'.get? b=some o)->tn i h'
 item:∀(X:Cx),X.prog=P->X.w=w->X.K=K->X.calm=true->∀(i:Nat) (pins:List (Addr×Obj)) (s:d3) (σ:St) (H:Hp) (E:Value->d3->Prop),Inv X pins σ H s->(∀b∈fp,a4J X pins H b)->tn i s.heap->J.go i H ->
  wpAny (model P w) X.A (a3G (.ref it)) (fun r s1=>∃u,r=some u /\
   wpAny (model P w) X.A (a3H tg (.ref it) u) (fun _ s2=>∃x H',Inv X pins σ H' s2/\C7 x u/\J.yld i H x H'/\tn (i+1) s2.heap/\∀b∈fp,H' b=none) E s1) E s
 done:∀(X:Cx),X.prog=P->X.w=w->X.K=K->X.calm=true->∀(i:Nat) (pins:List (Addr×Obj)) (s:d3) (σ:St) (H:Hp) (E:Value->d3->Prop),Inv X pins σ H s->(∀b∈fp,a4J X pins H b)->tn i s.heap->J.stop i H ->
  wpAny (model P w) X.A (a3G (.ref it)) (fun r s1=>r=none/\Inv X pins σ H s1) E s
 self:∀(A:E9) (i:Nat) (s:d3) (Q:Value->d3->Prop) (E:Value->d3->Prop),tn i s.heap->Q (.ref it) s->wpAny (model P w) A (pyIter (.ref it)) Q E s
abbrev TI:=St->Hp->(It->Hp->Prop)->Prop
def PIE(X:Cx)(pins:List (Addr×Obj))(σ:St)(tg:Expr)(R:It->Hp->Prop)(itv:Value)(s2:d3):Prop:=
 ∃(it:Addr) (fp:List Addr) (tn:Nat->Heap->Prop) (J:It) (H':Hp),itv=.ref it/\Inv X pins σ H' s2/\b3g X.prog X.w X.K tg J fp it tn/\tn 0 s2.heap/\(∀b∈fp,a4J X pins H' b)/\R J H'
def PI(X:Cx)(tg iter:Expr)(wi:TI):Prop:=
 ∀(pins:List (Addr×Obj)) (s:d3) (σ:St) (H:Hp) (R:It->Hp->Prop),Inv X pins σ H s->wi σ H R ->
  wpAny (model X.prog X.w) X.A (eval iter X.env) (fun v s1=>wpAny (model X.prog X.w) X.A (pyIter v) (PIE X pins σ tg R) X.xe s1) X.xe s
theorem b9b{M:Model}{A:E9}{E:Value->d3->Prop}{it:Addr}{o:Obj}{n:String}{vs:Array Value}{Q:Unit->d3->Prop}(ho:s.heap.get? it=some o)(hc:o.cls=.type n)(hd:o.data=.fields vs)
  (hn:["enumerate","zip","dict_itemiterator","dict_reverseitemiterator","odict_iterator","itertools.zip_longest","itertools.pairwise"].contains n=false) (hQ:Q () s):wpAny M A (a3H tg (.ref it) u) Q E s:=by
 unfold a3H
 cases tg <;> first
  | exact c8 hQ
  | (cases u <;> first
    | exact c8 hQ
    | (refine a9 (wpAny_load ho ?_)
       rw[hc,hd]
       show wpAny M A (if(["enumerate","zip","dict_itemiterator","dict_reverseitemiterator","odict_iterator","itertools.zip_longest","itertools.pairwise"].contains n&&vs[0]? == some (rawInt _))=true then _ else _) Q E s
       rw[if_neg (by intro h;rw[hn,Bool.false_and]at h;cases h)]
       exact c8 hQ))
def Itl(K:Fg)(a:Addr):It:=
 ⟨fun i H=>∃xs x,SqL K H a xs/\xs[i]? = some x,fun i H x H'=>H'=H/\∀xs,SqL K H a xs->xs[i]? = some x,fun i H=>∃xs,SqL K H a xs/\xs.length<=i⟩
def Itr(lo:Int)(n:Nat):It:=⟨fun i _=>i<n,fun i H x H'=>H'=H/\x=.int (lo+i),fun i _=>n<=i⟩
theorem b5I{P:u6}{K:Fg}(a it:Addr):b3g P w K tg (Itl K a) [it] it (fun i h=>h.IsListIter it a i) where
 mem:=by simp
 obj:=fun i h st b hb=>by
  have e:b=it:=by simpa using hb
  subst e
  obtain⟨o,e,c,d⟩:=st
  exact⟨o,e,fun v z=>by rw[d]at z;cases z⟩
 keep:=fun i h h' st k=>st.at fun o e=>k it (by simp) o e
 item:=by
  intro X hP hw hK hc i pins s σ H E I hf st hg
  subst hP hw hK
  obtain⟨xs,x,hq,hx⟩:=hg
  obtain⟨its,rv,p,hz⟩:=I.list hq
  obtain⟨u,hu,ru⟩:=rv.get hx
  obtain⟨f0,f1,f2,f3,f4,f5⟩:=hf it (by simp)
  refine wpAny_pyNext_list_item st p.isList (x:=u) (by simpa using hu) fun h' st' sb=>?_
  have I1:Inv X pins σ H { s with heap:=h' }:=I.turned (t':=s.toks) (fun b o hb e=>(sb.2 b hb).trans e) f0 f1 f3 f4 f5
  obtain⟨o,e,c,d⟩:=id st'
  exact⟨u,rfl,b9b (s:={ s with heap:=h' }) e c d (by decide) ⟨x,H,I1,ru,⟨rfl,fun ys hy=>by rw[I.list_inj hy hq];exact hx⟩,st',fun b hb=>(hf b hb).1⟩⟩
 done:=by
  intro X hP hw hK hc i pins s σ H E I hf st hg
  subst hP hw hK
  obtain⟨xs,hq,hx⟩:=hg
  obtain⟨its,rv,p,hz⟩:=I.list hq
  obtain⟨f0,f1,f2,f3,f4,f5⟩:=hf it (by simp)
  have hl:=rv.length
  exact wpAny_pyNext_list_end (I.ok.hd hc) st p.isList (by simp;omega) fun h' eb=>⟨rfl,I.turned (t':=s.toks) (fun b o hb e=>eb b o hb e) f0 f1 f3 f4 f5⟩
 self:=fun _ _ _ _ _ st h=>wpAny_pyIter_listiter st h
theorem b3A{P:u6}{K:Fg}(it:Addr)(lo:Int)(n:Nat):b3g P w K tg (Itr lo n) [it] it (fun i h=>IsRangeIter h it (lo+(i:Nat) * 1) ((n:Int) - (i:Nat)) 1) where
 mem:=by simp
 obj:=fun i h st b hb=>by
  have e:b=it:=by simpa using hb
  subst e
  exact⟨_,st,fun v z=>by
   have z':Data.fields _=Data.cell v:=z
   cases z'⟩
 keep:=fun i h h' st k=>k it (by simp) _ st
 item:=by
  intro X hP hw hK hc i pins s σ H E I hf st hg
  subst hP hw hK
  obtain⟨f0,f1,f2,f3,f4,f5⟩:=hf it (by simp)
  have W:=Walks.range (prog:=X.prog) (w:=X.w) (I.ok.hd hc) it lo 1 n
  refine W.item i s _ _ hg st fun v h' tk hv st' kk=>?_
  obtain⟨t,rfl⟩:=hv
  have I1:Inv X pins σ H { s with heap:=h',toks:=tk }:=I.turned (fun b o hb e=>kk b o (by simpa using hb) e) f0 f1 f3 f4 f5
  refine⟨_,rfl,b9b (s:={ s with heap:=h',toks:=tk }) (n := "range_iterator") st' rfl rfl (by decide) ⟨.int (lo+i),H,I1,⟨t,?_⟩,⟨rfl,rfl⟩,st',fun b hb=>(hf b hb).1⟩⟩
  rw[Int.mul_one]
 done:=by
  intro X hP hw hK hc i pins s σ H E I hf st hg
  subst hP hw hK
  obtain⟨f0,f1,f2,f3,f4,f5⟩:=hf it (by simp)
  exact wpAny_pyNext_range_end (I.ok.hd hc) st (by have:n<=i:=hg;omega) fun h' eb=>⟨rfl,I.turned (t':=s.toks) (fun b o hb e=>eb b o hb e) f0 f1 f3 f4 f5⟩
 self:=fun _ _ _ _ _ st h=>wpAny_pyIter_rangeiter st h
section
def W0(K:Fg)(tl:TE):TI:=fun σ H R=>tl σ H fun x H1=>∃a,x=.ref a/\(∃xs,SqL K H1 a xs)/\R (Itl K a) H1
theorem c0z{l:Expr}{tl:TE}(hl:PE X l tl):PI X tg l (W0 X.K tl):=by
 intro pins s σ H R I h
 refine thn (hl pins s σ H _ I h) fun v s1 ⟨x,H1,I1,r1,q1⟩=>?_
 obtain⟨a,e,⟨xs,hq⟩,q⟩:=q1
 subst e
 cases r1
 obtain⟨its,rv,p,hz⟩:=I1.list hq
 refine a5A p.isList ?_
 refine⟨s1.heap.objs.size,[s1.heap.objs.size],_,_,H1,rfl,I1.kept (t':=s1.toks) fun b o e=>c5 _ e,b5I a _,⟨_,h9 _ rfl,rfl,rfl⟩,fun b hb=>?_,q⟩
 have e:b=s1.heap.objs.size:=by simpa using hb
 subst e
 exact I1.fpOk (d5 _) (I1.hok.fresh (d5 _))
theorem b8f{R:It->Hp->Prop}{E:Value->d3->Prop}{lo hi:Int}{t u v:Tok}{tk:Nat}(I:Inv X pins σ H s)(h1 : -(2 ^ 62)<=lo)(h2:lo<2 ^ 62)(h3 : -(2 ^ 62)<=hi)(h4:hi<2 ^ 62)
  (q:R (Itr lo (hi - lo).toNat) H):wpAny (model X.prog X.w) X.A (pyIter (.ref s.heap.objs.size)) (PIE X pins σ tg R) E { s with heap:=s.heap.push { cls:=.type "range",data:=.fields #[.int lo t,.int hi u,.int 1 v] },toks:=tk }:=by
 refine wpAny_pyIter_range (IsRange.new ..) (small_one h1 h2 h3 h4) ?_
 have I1:Inv X pins σ H { s with heap:=s.heap.push { cls:=.type "range",data:=.fields #[.int lo t,.int hi u,.int 1 v] },toks:=tk }:=I.kept fun b o e=>c5 _ e
 refine⟨(s.heap.push { cls:=.type "range",data:=.fields #[.int lo t,.int hi u,.int 1 v] }).objs.size,[(s.heap.push { cls:=.type "range",data:=.fields #[.int lo t,.int hi u,.int 1 v] }).objs.size],_,_,H,rfl,
  I1.kept (t':=tk) fun b o e=>c5 _ e,b3A _ lo (hi - lo).toNat,?_,fun b hb=>?_,q⟩
 ·have e1:lo+((0:Nat):Int) * 1=lo:=by simp
  have e2:(((hi - lo).toNat:Nat):Int) - ((0:Nat):Int)=Builtin.Range.rangeSize lo hi 1:=by rw[rangeSize_one];split <;> omega
  show IsRangeIter _ _ (lo+((0:Nat):Int) * 1) ((((hi - lo).toNat:Nat):Int) - ((0:Nat):Int)) 1
  rw[e1,e2]
  exact h9 _ rfl
 ·have e:b=(s.heap.push { cls:=.type "range",data:=.fields #[.int lo t,.int hi u,.int 1 v] }).objs.size:=by simpa using hb
  subst e
  exact I1.fpOk (d5 _) (I1.hok.fresh (d5 _))
def a0S(ta:TA):TI:=fun σ H R=>ta σ H fun vs H1=>∃j:Int,vs=[.int j] /\ -(2 ^ 62)<=j/\j<2 ^ 62/\R (Itr 0 j.toNat) H1
theorem b6c{a:Expr}{ta:TA}(hg:Gl X "range")(hm:X.mg "range" = none)(ha:PA X [a] ta)(hs:d9 [a] X.env=[(false,eval a X.env)]:=by rfl):PI X tg (.Call (.Name "range" p) [a] [] pos) (a0S ta):=by
 intro pins s σ H R I h
 refine Call_ (a4g I hg hm boot_range (N3 (thn (ha pos pins s σ H _ I h) fun us s1 ⟨vs,H1,I1,r1,q1⟩=>?_) hs rfl))
 obtain⟨j,e,q1,q2,q⟩:=q1
 subst e
 cases r1 with
 | cons r rr=>
  cases rr
  obtain⟨t,rfl⟩:=r
  exact call_range_1 (b8f I1 (by omega) (by omega) q1 q2 (by simpa using q))
def a1o(wi:TI)(g:TG)(tb:TS):TS:=fun D σ H=>wi σ H fun J H1=>∃W:Nat->Nat->St->Hp->Prop,(∃m,W 0 m σ H1)/\∀i m σ H,W i m σ H ->
 (J.stop i H/\D.nx σ H)\/(J.go i H/\∃N:St->Hp->Prop,(∀σ' H',N σ' H'->∃m',m'<m/\W (i+1) m' σ' H')/\∀x H',J.yld i H x H'->g x σ H' fun σ2 H2=>tb { D with nx:=N,ct:=N,bk:=D.nx } σ2 H2)
def a5k(fp:List Addr)(h:Heap):List (Addr×Obj):=fp.filterMap fun b=>(h.get? b).map fun o=>(b,o)
theorem a0W{fp:List Addr}{o:Obj}(hb:b∈fp)(e:h.get? b=some o):(b,o)∈a5k fp h:=b9K.mpr ⟨b,hb,by rw[e];rfl⟩
theorem b6m{fp:List Addr}{p:Addr×Obj}(hp:p∈a5k fp h):p.1∈fp/\h.get? p.1=some p.2:=by
 obtain⟨b,hb,e⟩:=b9K.mp hp
 cases q:h.get? b with
 | none=>rw[q]at e;cases e
 | some o=>
  rw[q]at e
  have e':(b,o)=p:=Option.some.inj e
  subst e'
  exact⟨hb,q⟩
theorem Inv.pinned{fp:List Addr}(I:Inv X pins σ H s)(hf:∀b∈fp,a4J X pins H b)(ho:∀b∈fp,∃o,s.heap.get? b=some o/\∀v,o.data≠.cell v):Inv X (pins++a5k fp s.heap) σ H s:=
 I.pins_of fun p hp=>(i8.mp hp).elim (fun z=>I.pin p (p8 _ z)) fun z=>by
  obtain⟨hb,e⟩:=b6m z
  obtain⟨f0,f1,f2,_⟩:=hf p.1 hb
  obtain⟨o,e',d⟩:=ho p.1 hb
  rw[e]at e';cases e'
  exact⟨e,f0,f1,f2,d⟩
theorem Inv.unpinned{pl:List (Addr×Obj)}(I:Inv X (pins++pl) σ H s):Inv X pins σ H s:=I.pins_of fun p hp=>I.pin p (p8 _ (D8 _ hp))
theorem c3f{iter:Expr}{body:List Stmt}{wi:TI}(hp:c4M (model X.prog X.w) X.A X.env X.xe)(hc:X.calm=true)(hi:PI X tg iter wi)(hg:PG X tg g)(hb:PSs X body tb)
  (hs:∀x,R9 iter X.env x=pure x:=by intro _;rfl):PS X (.For tg iter body [] pos) (a1o wi g tb):=by
 intro pins s σ H D I h
 refine wpAny_For (thn (hi pins s σ H _ I h) fun v s1 h1=>thn h1 fun itv s2 h2=>?_) hs
 obtain⟨it,fp,tn,J,H2,e,I2,T,st2,f2,W,⟨m0,w0⟩,turn⟩:=h2
 subst e
 have stat:∀ {H':Hp},(∀b∈fp,H' b=none)->∀b∈fp,a4J X pins H' b:=fun hn b hb=>⟨hn b hb,(f2 b hb).2⟩
 refine codeAny_forLoop_any (fun n s'=>∃i σ' H',Inv X pins σ' H' s'/\tn i s'.heap/\(∀b∈fp,H' b=none)/\W i n σ' H') ?_ m0 ⟨0,σ,H2,I2,st2,fun b hb=>(f2 b hb).1,w0⟩
 rintro n s3 ⟨i,σ3,H3,I3,st3,fr3,w3⟩
 rcases turn i n σ3 H3 w3 with ⟨stop,qn⟩ | ⟨go,N,hN,step⟩
 ·refine a0r hp (thn (T.done X rfl rfl rfl hc i pins s3 σ3 H3 X.xe I3 (stat fr3) st3 stop) fun r s4 ⟨hr,I4⟩=>?_)
  subst hr
  exact a7P ⟨σ3,H3,I4,qn⟩
 ·refine a0r hp (thn (T.item X rfl rfl rfl hc i pins s3 σ3 H3 X.xe I3 (stat fr3) st3 go) fun r s4 ⟨u,hr,h4⟩=>?_)
  subst hr
  refine a0r hp (thn h4 fun _ s5 ⟨x,H5,I5,r5,y5,st5,fr5⟩=>?_)
  have I5':=I5.pinned (stat fr5) (T.obj _ _ st5)
  refine a0r hp (thn (hg _ s5 σ3 H5 x u _ I5' r5 (step x H5 y5)) fun _ s6 ⟨σ6,H6,I6,q6⟩=>?_)
  refine a0r hp (thn (hb _ s6 σ6 H6 _ I6 q6) fun f s7 q7=>?_)
  have again:∀ {σ7:St} {H7:Hp},Inv X (pins++a5k fp s5.heap) σ7 H7 s7->N σ7 H7->∃m,m<n/\∃i σ' H',Inv X pins σ' H' s7/\tn i s7.heap/\(∀b∈fp,H' b=none)/\W i m σ' H':=fun {σ7 H7} I7 n7=>by
   obtain⟨m',hm,w7⟩:=hN σ7 H7 n7
   refine⟨m',hm,i+1,σ7,H7,I7.unpinned,T.keep _ _ _ st5 fun b hb o e=>(I7.pin (b,o) (p8 _ (p8 _ (a0W hb e)))).1,fun b hb=>?_,w7⟩
   obtain⟨o,e,d⟩:=T.obj _ _ st5 b hb
   exact(I7.pin (b,o) (p8 _ (p8 _ (a0W hb e)))).2.1
  cases f with
  | next=>obtain⟨σ7,H7,I7,n7⟩:=q7;exact again I7 n7
  | cont=>obtain⟨σ7,H7,I7,n7⟩:=q7;exact again I7 n7
  | brk=>obtain⟨σ7,H7,I7,q7⟩:=q7;exact⟨σ7,H7,I7.unpinned,q7⟩
  | ret v=>obtain⟨x7,σ7,H7,I7,r7,q7⟩:=q7;exact⟨x7,σ7,H7,I7.unpinned,r7,q7⟩
end
theorem a0D{K:Fg}{D:a7c}(Pv:Nat->St->Hp->Prop)(h0:Pv 0 σ H)(hl:∀i σ H,i<=xs.length->Pv i σ H->SqL K H a xs)
  (hs:∀i x σ H,xs[i]? = some x->Pv i σ H->g x σ H fun σ2 H2=>tb { D with nx:=Pv (i+1),ct:=Pv (i+1),bk:=D.nx } σ2 H2) (hd:∀σ H,Pv xs.length σ H->D.nx σ H) :
  ∃W:Nat->Nat->St->Hp->Prop,(∃m,W 0 m σ H)/\∀i m σ H,W i m σ H ->
   ((Itl K a).stop i H/\D.nx σ H)\/((Itl K a).go i H/\∃N:St->Hp->Prop,(∀σ' H',N σ' H'->∃m',m'<m/\W (i+1) m' σ' H')/\∀x H',(Itl K a).yld i H x H'->g x σ H' fun σ2 H2=>tb { D with nx:=N,ct:=N,bk:=D.nx } σ2 H2):=by
 refine⟨fun i m σ H=>m=xs.length - i/\i<=xs.length/\Pv i σ H,⟨xs.length,by simp,F5 _,h0⟩,?_⟩
 rintro i m σ H ⟨rfl,hi,p⟩
 have q:=hl i σ H hi p
 by_cases hlt:i<xs.length
 ·refine .inr ⟨⟨xs,xs[i],q,by simp[hlt]⟩,Pv (i+1),fun σ' H' p'=>⟨xs.length - (i+1),by omega,rfl,hlt,p'⟩,fun x H' y=>?_⟩
  obtain⟨e,y⟩:=y
  subst e
  exact hs i x σ _ (y xs q) p
 ·have e:i=xs.length:=by omega
  subst e
  exact .inl ⟨⟨xs,q,d5 _⟩,hd σ H p⟩
theorem a0p{lo:Int}{n:Nat}{D:a7c}(Pv:Nat->St->Hp->Prop)(h0:Pv 0 σ H)
  (hs:∀i σ H,i<n->Pv i σ H->g (.int (lo+i)) σ H fun σ2 H2=>tb { D with nx:=Pv (i+1),ct:=Pv (i+1),bk:=D.nx } σ2 H2) (hd:∀σ H,Pv n σ H->D.nx σ H) :
  ∃W:Nat->Nat->St->Hp->Prop,(∃m,W 0 m σ H)/\∀i m σ H,W i m σ H ->
   ((Itr lo n).stop i H/\D.nx σ H)\/((Itr lo n).go i H/\∃N:St->Hp->Prop,(∀σ' H',N σ' H'->∃m',m'<m/\W (i+1) m' σ' H')/\∀x H',(Itr lo n).yld i H x H'->g x σ H' fun σ2 H2=>tb { D with nx:=N,ct:=N,bk:=D.nx } σ2 H2):=by
 refine⟨fun i m σ H=>m=n - i/\i<=n/\Pv i σ H,⟨n,by simp,F5 _,h0⟩,?_⟩
 rintro i m σ H ⟨rfl,hi,p⟩
 by_cases hlt:i<n
 ·refine .inr ⟨hlt,Pv (i+1),fun σ' H' p'=>⟨n - (i+1),by omega,rfl,hlt,p'⟩,fun x H' y=>?_⟩
  obtain⟨e,y⟩:=y
  subst e y
  exact hs i σ _ hlt p
 ·have e:i=n:=by omega
  subst e
  exact .inl ⟨d5 _,hd σ H p⟩
abbrev R2:=V->V->Hp->VK->Prop
variable{r:R2}
def OpR(X:Cx)(f:Value->Value->Sem Value)(r:R2):Prop:=
 ∀(pins:List (Addr×Obj)) (s:d3) (σ:St) (H:Hp) (x y:V) (v u:Value) (Q:VK),Inv X pins σ H s->C7 x v->C7 y u->r x y H Q ->
  wpAny (model X.prog X.w) X.A (f v u) (EP X pins σ Q) X.xe s
def UnR(X:Cx)(f:Value->Sem Value)(r:V->Hp->VK->Prop):Prop:=
 ∀(pins:List (Addr×Obj)) (s:d3) (σ:St) (H:Hp) (x:V) (v:Value) (Q:VK),Inv X pins σ H s->C7 x v->r x H Q ->
  wpAny (model X.prog X.w) X.A (f v) (EP X pins σ Q) X.xe s
def U3(X:Cx)(f:Value)(r:List V->Hp->VK->Prop):Prop:=
 ∀(pins:List (Addr×Obj)) (s:d3) (σ:St) (H:Hp) (xs:List V) (us:List Value) (Q:VK),Inv X pins σ H s->D6 xs us->r xs H Q ->
  wpAny (model X.prog X.w) X.A (call f us) (EP X pins σ Q) X.xe s
def tOp(r:R2)(ta tb:TE):TE:=fun σ H Q=>ta σ H fun x H1=>tb σ H1 fun y H2=>r x y H2 Q
def rI(C:Int->Int->Prop)(g:Int->Int->V):R2:=fun x y H Q=>∃i j,x=.int i/\y=.int j/\C i j/\Q (g i j) H
def rI0(g:Int->Int->V):R2:=fun x y H Q=>∃i j,x=.int i/\y=.int j/\Q (g i j) H
section
variable {a b:Expr}{tb tc:TE}
theorem c4l(ha:PE X a ta)(hb:PE X b tb){R:V->V->Hp->Prop}(I:Inv X pins σ H s)
  (h:ta σ H fun x H1=>tb σ H1 fun y H2=>R x y H2) {Q:Value->d3->Prop} {f:Value->Value->Sem Value}
  (hf:∀v u s2 x y H2,Inv X pins σ H2 s2->C7 x v->C7 y u->R x y H2->wpAny (model X.prog X.w) X.A (f v u) Q X.xe s2) :
  wpAny (model X.prog X.w) X.A (eval a X.env) (fun v s₁=>wpAny (model X.prog X.w) X.A (eval b X.env) (fun u s₂=>wpAny (model X.prog X.w) X.A (f v u) Q X.xe s₂) X.xe s₁) X.xe s:=by
 refine thn (ha pins s σ H _ I h) fun v s1 ⟨x,H1,I1,r1,q1⟩=>?_
 refine thn (hb pins s1 σ H1 _ I1 q1) fun u s2 ⟨y,H2,I2,r2,q2⟩=>?_
 exact hf v u s2 x y H2 I2 r1 r2 q2
theorem c5x{op:b6Z}(ho:OpR X (R0 op) r)(ha:PE X a ta)(hb:PE X b tb):PE X (.BinOp a op b pos) (tOp r ta tb):=by
 intro pins s σ H Q I h
 exact wpAny_BinOp (c4l ha hb I h fun v u s2 x y H2 I2 rx ry q=>ho pins s2 σ H2 x y v u Q I2 rx ry q)
theorem opI{f:Value->Value->Sem Value}{C:Int->Int->Prop}{g:Int->Int->Int}
  (rule:∀(i j:Int) (t u:Tok) (s:d3) (Q:Value->d3->Prop) (E:Value->d3->Prop),C i j->Q (.int (g i j) s.toks) { s with toks:=s.toks+1 }->wpAny (model X.prog X.w) X.A (f (.int i t) (.int j u)) Q E s) :
  OpR X f (rI C fun i j=>.int (g i j)):=by
 intro pins s σ H x y v u Q I rx ry h
 obtain⟨i,j,rfl,rfl,hc,q⟩:=h
 obtain⟨t,rfl⟩:=rx
 obtain⟨t',rfl⟩:=ry
 exact rule i j t t' s _ _ hc ⟨.int (g i j),H,I.tok _,⟨_,rfl⟩,q⟩
theorem c5J{f:Value->Value->Sem Value}{g:Int->Int->Int}
  (rule:∀(i j:Int) (t u:Tok) (s:d3) (Q:Value->d3->Prop) (E:Value->d3->Prop),Q (.int (g i j) s.toks) { s with toks:=s.toks+1 }->wpAny (model X.prog X.w) X.A (f (.int i t) (.int j u)) Q E s) :
  OpR X f (rI0 fun i j=>.int (g i j)):=by
 intro pins s σ H x y v u Q I rx ry h
 obtain⟨i,j,rfl,rfl,q⟩:=h
 obtain⟨t,rfl⟩:=rx
 obtain⟨t',rfl⟩:=ry
 exact rule i j t t' s _ _ ⟨.int (g i j),H,I.tok _,⟨_,rfl⟩,q⟩
theorem c0W{f:Value->Value->Sem Value}{g:Int->Int->Bool}
  (rule:∀(i j:Int) (t u:Tok) (s:d3) (Q:Value->d3->Prop) (E:Value->d3->Prop),Q (.bool (g i j)) s->wpAny (model X.prog X.w) X.A (f (.int i t) (.int j u)) Q E s) :
  OpR X f (rI0 fun i j=>.bl (g i j)):=by
 intro pins s σ H x y v u Q I rx ry h
 obtain⟨i,j,rfl,rfl,q⟩:=h
 obtain⟨t,rfl⟩:=rx
 obtain⟨t',rfl⟩:=ry
 exact rule i j t t' s _ _ ⟨.bl (g i j),H,I,rfl,q⟩
def c5T(i j:Int):Prop:=0<=j/\j<=1000000/\i.natAbs<2 ^ 64
def c1K(i j:Int):Prop:=(-(2 ^ 64)<i/\i<2 ^ 64)\/(-(2 ^ 64)<j/\j<2 ^ 64)
theorem c1K.ok{i j:Int}(h:c1K i j):IntMulOk i j:=by
 rcases h with ⟨h1,h2⟩ | ⟨h1,h2⟩
 ·exact .of_left (intBits_le_64 h1 h2)
 ·exact .of_right (intBits_le_64 h1 h2)
theorem c3N:OpR X (R0 .Add) (rI0 fun i j=>.int (i+j)):=c5J fun _ _ _ _ _ _ _ q=>add_int q
theorem c3A:OpR X (R0 .Sub) (rI0 fun i j=>.int (i - j)):=c5J fun _ _ _ _ _ _ _ q=>sub_int q
theorem c3J:OpR X (R0 .Mult) (rI c1K fun i j=>.int (i * j)):=opI fun _ _ _ _ _ _ _ hc q=>mul_int q hc.ok
theorem c3K:OpR X (R0 .Mod) (rI (fun _ j=>0<j) fun i j=>.int (i % j)):=opI fun i j _ _ _ _ _ hc q=>by
 have h1:(0:Int)<j:=hc
 exact mod_int' (by omega) (by rw[Int.fmod_eq_emod_of_nonneg i (by omega)];exact q)
theorem c3I:OpR X (R0 .Pow) (rI c5T fun i j=>.int (i ^ j.toNat)):=opI fun _ _ _ _ _ _ _ hc q=>pow_int_small hc.1 hc.2.1 hc.2.2 q
end
def b2i:V->V->Bool
 | .non,.non=>true | .non,.int _=>true | .int _,.non=>true | .non,.bl _=>true | .bl _,.non=>true | .non,.str _=>true | .str _,.non=>true
 | .int _,.int _=>true | .bl _,.bl _=>true | .str _,.str _=>true | .byt _,.byt _=>true
 | .int _,.str _=>true | .str _,.int _=>true | .bl _,.str _=>true | .str _,.bl _=>true
 | _,_=>false
def rEq:R2:=fun x y H Q=>b2i x y=true/\Q (.bl (decide (x=y))) H
def rNe:R2:=fun x y H Q=>b2i x y=true/\Q (.bl (!decide (x=y))) H
theorem b5k{i j:Int}:decide (V.int i=V.int j)=(i == j):=by
 rw[X9]
 simp
theorem b9m{i j:Bool}:decide (V.bl i=V.bl j)=(i == j):=by
 rw[X9]
 simp
theorem b5j{i j:Str}:decide (V.str i=V.str j)=(i == j):=by
 rw[X9]
 simp
theorem b5l{i j:Array UInt8}:decide (V.byt i=V.byt j)=(i.toList == j.toList):=by
 rw[X9]
 cases i
 cases j
 simp
section
variable {a b:Expr}{tb tc:TE}
theorem G0{Q:VK}{k k':Bool}(I:Inv X pins σ H s)(q:Q (.bl k) H)(e:k=k'):EP X pins σ Q (.bool k') s:=by
 subst e
 exact⟨.bl k,H,I,rfl,q⟩
theorem c5I:OpR X (p5 .Eq) rEq:=by
 intro pins s σ H x y v u Q I rx ry h
 obtain⟨hs,q⟩:=h
 cases x with
 | non=>
  cases rx
  cases y with
  | non=>cases ry;exact PySem.EqNone.eq_none_none (G0 I q (by simp))
  | bl j=>cases ry;exact PySem.EqNone.eq_none_bool (G0 I q (by simp))
  | int j=>obtain⟨t',rfl⟩:=ry;exact PySem.EqNone.eq_none_int (G0 I q (by simp))
  | str j=>obtain⟨t',rfl⟩:=ry;exact PySem.EqNone.eq_none_str (G0 I q (by simp))
  | _=>exact absurd (show false=true from hs) l9
 | bl i=>
  cases rx
  cases y with
  | non=>cases ry;exact PySem.EqNone.eq_bool_none (G0 I q (by simp))
  | bl j=>cases ry;exact eq_bool (G0 I q b9m)
  | str j=>obtain⟨t',rfl⟩:=ry;exact PySem.EqMixed.eq_bool_str (G0 I q (by simp))
  | _=>exact absurd (show false=true from hs) l9
 | int i=>
  obtain⟨t,rfl⟩:=rx
  cases y with
  | non=>cases ry;exact PySem.EqNone.eq_int_none (G0 I q (by simp))
  | int j=>obtain⟨t',rfl⟩:=ry;exact eq_int (G0 I q b5k)
  | str j=>obtain⟨t',rfl⟩:=ry;exact PySem.EqMixed.eq_int_str (G0 I q (by simp))
  | _=>exact absurd (show false=true from hs) l9
 | str i=>
  obtain⟨t,rfl⟩:=rx
  cases y with
  | non=>cases ry;exact PySem.EqNone.eq_str_none (G0 I q (by simp))
  | bl j=>cases ry;exact PySem.EqMixed.eq_str_bool (G0 I q (by simp))
  | int j=>obtain⟨t',rfl⟩:=ry;exact PySem.EqMixed.eq_str_int (G0 I q (by simp))
  | str j=>obtain⟨t',rfl⟩:=ry;exact eq_str (G0 I q b5j)
  | _=>exact absurd (show false=true from hs) l9
 | byt i=>
  obtain⟨t,rfl⟩:=rx
  cases y with
  | byt j=>obtain⟨t',rfl⟩:=ry;exact PySem.W.eq_bytes (G0 I q b5l)
  | _=>exact absurd (show false=true from hs) l9
 | _=>cases y <;> exact absurd (show false=true from hs) l9
theorem c5D:OpR X (p5 .NotEq) rNe:=by
 intro pins s σ H x y v u Q I rx ry h
 obtain⟨hs,q⟩:=h
 cases x with
 | non=>
  cases rx
  cases y with
  | non=>cases ry;exact PySem.EqNone.ne_none_none (G0 I q (by simp))
  | bl j=>cases ry;exact PySem.EqNone.ne_none_bool (G0 I q (by simp))
  | int j=>obtain⟨t',rfl⟩:=ry;exact PySem.EqNone.ne_none_int (G0 I q (by simp))
  | str j=>obtain⟨t',rfl⟩:=ry;exact PySem.EqNone.ne_none_str (G0 I q (by simp))
  | _=>exact absurd (show false=true from hs) l9
 | bl i=>
  cases rx
  cases y with
  | non=>cases ry;exact PySem.EqNone.ne_bool_none (G0 I q (by simp))
  | bl j=>cases ry;exact ne_bool (G0 I q (congrArg not b9m))
  | str j=>obtain⟨t',rfl⟩:=ry;exact PySem.EqMixed.ne_bool_str (G0 I q (by simp))
  | _=>exact absurd (show false=true from hs) l9
 | int i=>
  obtain⟨t,rfl⟩:=rx
  cases y with
  | non=>cases ry;exact PySem.EqNone.ne_int_none (G0 I q (by simp))
  | int j=>obtain⟨t',rfl⟩:=ry;exact ne_int (G0 I q (congrArg not b5k))
  | str j=>obtain⟨t',rfl⟩:=ry;exact PySem.EqMixed.ne_int_str (G0 I q (by simp))
  | _=>exact absurd (show false=true from hs) l9
 | str i=>
  obtain⟨t,rfl⟩:=rx
  cases y with
  | non=>cases ry;exact PySem.EqNone.ne_str_none (G0 I q (by simp))
  | bl j=>cases ry;exact PySem.EqMixed.ne_str_bool (G0 I q (by simp))
  | int j=>obtain⟨t',rfl⟩:=ry;exact PySem.EqMixed.ne_str_int (G0 I q (by simp))
  | str j=>obtain⟨t',rfl⟩:=ry;exact ne_str (G0 I q (congrArg not b5j))
  | _=>exact absurd (show false=true from hs) l9
 | byt i=>
  obtain⟨t,rfl⟩:=rx
  cases y with
  | byt j=>obtain⟨t',rfl⟩:=ry;exact PySem.W.ne_bytes (G0 I q (congrArg not b5l))
  | _=>exact absurd (show false=true from hs) l9
 | _=>cases y <;> exact absurd (show false=true from hs) l9
theorem c5E:OpR X (p5 .Lt) (rI0 fun i j=>.bl (decide (i<j))):=c0W fun _ _ _ _ _ _ _ q=>lt_int q
theorem c5F:OpR X (p5 .LtE) (rI0 fun i j=>.bl (decide (i<=j))):=c0W fun _ _ _ _ _ _ _ q=>le_int q
theorem c5G:OpR X (p5 .Gt) (rI0 fun i j=>.bl (decide (j<i))):=c0W fun _ _ _ _ _ _ _ q=>gt_int q
theorem c5H:OpR X (p5 .GtE) (rI0 fun i j=>.bl (decide (j<=i))):=c0W fun _ _ _ _ _ _ _ q=>ge_int q
theorem b6h:OpR X (p5 .In) (fun x y H Q=>∃i j,x=.str i/\y=.str j/\Q (.bl (!(Builtin.Str.occurrences j i 0 j.length 1).isEmpty)) H):=by
 intro pins s σ H x y v u Q I rx ry h
 obtain⟨i,j,rfl,rfl,q⟩:=h
 obtain⟨t,rfl⟩:=rx
 obtain⟨t',rfl⟩:=ry
 exact in_str (G0 I q rfl)
theorem c0V:OpR X (p5 .IsNot) (fun x y H Q=>y=.non/\Q (.bl (!decide (x=.non))) H):=by
 intro pins s σ H x y v u Q I rx ry h
 obtain⟨rfl,q⟩:=h
 cases ry
 refine isnot_none_gen (G0 I q ?_)
 cases x <;> first
  | (cases rx;rfl)
  | (obtain⟨t,rfl⟩:=rx;rfl)
theorem OpR.or{f:Value->Value->Sem Value}{r':R2}(h:OpR X f r)(h':OpR X f r'):OpR X f (fun x y H Q=>r x y H Q\/r' x y H Q):=by
 intro pins s σ H x y v u Q I rx ry q
 rcases q with q | q
 ·exact h pins s σ H x y v u Q I rx ry q
 ·exact h' pins s σ H x y v u Q I rx ry q
theorem a4d(b:Expr){op:CmpOp}(h:op≠.In:=by decide)(h2:op≠.NotIn:=by decide):L8 op b=false:=by
 have e1:(op == CmpOp.In)=false:=by cases op <;> first | rfl | exact absurd rfl h
 have e2:(op == CmpOp.NotIn)=false:=by cases op <;> first | rfl | exact absurd rfl h2
 cases b <;> simp[L8,e1,e2]
theorem c0H{op:CmpOp}(ho:OpR X (p5 op) r)(ha:PE X a ta)(hb:PE X b tb)(hm:L8 op b=false):PE X (.Compare a [op] [b] pos) (tOp r ta tb):=by
 intro pins s σ H Q I h
 exact wpAny_Compare1 (c4l ha hb I h fun v u s2 x y H2 I2 rx ry q=>ho pins s2 σ H2 x y v u Q I2 rx ry q) hm
def C0(t:TE):TT:=fun σ H Q=>t σ H fun x H'=>∃k,x=.bl k/\Q k H'
theorem c0q{op:CmpOp}(ho:OpR X (p5 op) r)(ha:PE X a ta)(hb:PE X b tb)(hm:L8 op b=false):PT X (.Compare a [op] [b] pos) (C0 (tOp r ta tb)):=by
 intro pins s σ H Q I h
 refine c4H (thn (ha pins s σ H _ I h) fun v s1 ⟨x,H1,I1,r1,q1⟩=>thn (hb pins s1 σ H1 _ I1 q1) fun u s2 ⟨y,H2,I2,r2,q2⟩=>
  thn (ho pins s2 σ H2 x y v u _ I2 r1 r2 q2) fun c s3 ⟨z,H3,I3,r3,k,e,q3⟩=>?_) hm
 subst e
 cases r3
 exact G6 ⟨H3,I3,q3⟩
def a3O(r r':R2)(ta tb tc:TE):TE:=fun σ H Q=>ta σ H fun x H1=>tb σ H1 fun y H2=>r x y H2 fun z H3=>∃k,z=.bl k /\
 (if k=true then tc σ H3 fun w' H4=>r' y w' H4 Q else Q (.bl false) H3)
theorem b8x{op op':CmpOp}{r':R2}(ho:OpR X (p5 op) r)(ho':OpR X (p5 op') r')(ha:PE X a ta)(hb:PE X b tb)(hc:PE X c tc)
  (hm:c4K [op,op'] [b,c]=false:=by with_unfolding_all rfl):PE X (.Compare a [op,op'] [b,c] pos) (a3O r r' ta tb tc):=by
 intro pins s σ H Q I h
 refine Compare_chain (thn (ha pins s σ H _ I h) fun v s1 ⟨x,H1,I1,r1,q1⟩=>chain_link (thn (hb pins s1 σ H1 _ I1 q1) fun u s2 ⟨y,H2,I2,r2,q2⟩=>
  thn (ho pins s2 σ H2 x y v u _ I2 r1 r2 q2) fun d s3 ⟨z,H3,I3,r3,k,e,q3⟩=>?_)) hm
 subst e
 cases r3
 refine G6 ?_
 cases k with
 | false=>exact ite_ff ⟨.bl false,H3,I3,rfl,q3⟩
 | true=>exact ite_tt (chain_last (thn (hc pins s3 σ H3 _ I3 q3) fun w' s4 ⟨z',H4,I4,r4,q4⟩=>ho' pins s4 σ H4 y z' u w' Q I4 r2 r4 q4))
theorem b8k{op op':CmpOp}{r':R2}(ho:OpR X (p5 op) r)(ho':OpR X (p5 op') r')(ha:PE X a ta)(hb:PE X b tb)(hc:PE X c tc)
  (hm:c4K [op,op'] [b,c]=false:=by with_unfolding_all rfl):PT X (.Compare a [op,op'] [b,c] pos) (C0 (a3O r r' ta tb tc)):=by
 intro pins s σ H Q I h
 refine isTrue_chain (thn (ha pins s σ H _ I h) fun v s1 ⟨x,H1,I1,r1,q1⟩=>test_link (thn (hb pins s1 σ H1 _ I1 q1) fun u s2 ⟨y,H2,I2,r2,q2⟩=>
  thn (ho pins s2 σ H2 x y v u _ I2 r1 r2 q2) fun d s3 ⟨z,H3,I3,r3,k,e,q3⟩=>?_)) hm
 subst e
 cases r3
 refine G6 ?_
 cases k with
 | false=>
  obtain⟨k',e',q'⟩:=q3
  cases e'
  exact ite_ff ⟨H3,I3,q'⟩
 | true=>
  refine ite_tt (test_last (thn (hc pins s3 σ H3 _ I3 q3) fun w' s4 ⟨z',H4,I4,r4,q4⟩=>thn (ho' pins s4 σ H4 y z' u w' _ I4 r2 r4 q4) fun d' s5 ⟨z2,H5,I5,r5,k2,e2,q5⟩=>?_))
  subst e2
  cases r5
  exact G6 ⟨H5,I5,q5⟩
theorem a5r:(j6:Nat)<2 ^ 63:=by rw[sizeLine_eq];decide
theorem b4f:OpR X (R0 .Add) (fun x y H Q=>∃i j,x=.str i/\y=.str j/\i.length+j.length<=j6/\Q (.str (i++j)) H):=by
 intro pins s σ H x y v u Q I rx ry h
 obtain⟨i,j,rfl,rfl,hz,q⟩:=h
 obtain⟨t,rfl⟩:=rx
 obtain⟨t',rfl⟩:=ry
 exact add_str (fun t' tk=>⟨.str (i++j),H,I.tok _,⟨_,rfl⟩,q⟩) hz
theorem a4Q{x:V}(r:D6 [x] us):∃u,us=[u]/\C7 x u:=by
 cases r with
 | cons r1 r2=>cases r2;exact⟨_,rfl,r1⟩
theorem c1U{x:V}(r:D6 [x,y] us):∃u w',us=[u,w']/\C7 x u/\C7 y w':=by
 cases r with
 | cons r1 r2=>
  cases r2 with
  | cons r3 r4=>cases r4;exact⟨_,_,rfl,r1,r3⟩
theorem b9s:U3 X (.builtin "abs") (fun xs H Q=>∃i,xs=[.int i]/\Q (.int (if i<0 then -i else i)) H):=by
 intro pins s σ H xs us Q I r h
 obtain⟨i,rfl,q⟩:=h
 obtain⟨u,rfl,t,rfl⟩:=a4Q r
 exact call_abs_int fun u tk=>⟨.int (if i<0 then -i else i),H,I.tok _,⟨_,rfl⟩,q⟩
theorem b6Q(hc:X.calm=true):U3 X (.builtin "min") (fun xs H Q=>∃i j,xs=[.int i,.int j]/\Q (.int (if j<i then j else i)) H):=by
 intro pins s σ H xs us Q I r h
 obtain⟨i,j,rfl,q⟩:=h
 obtain⟨u,w',rfl,⟨t,rfl⟩,⟨t',rfl⟩⟩:=c1U r
 refine min_two_ints (I.ok.hd hc) fun h' tk k=>⟨_,H,I.kept k,?_,q⟩
 by_cases hj:j<i
 ·rw[if_pos hj,if_pos hj];exact⟨_,rfl⟩
 ·rw[if_neg hj,if_neg hj];exact⟨_,rfl⟩
end
structure b4F(h:Heap)(x dx C:Addr)(mA:Str->Option Value):Prop where
 obj:h.get? x=some (Q9 C dx)
 ns:h.Ns1 dx mA
 ne:dx≠x
theorem b6r{mA:Str->Option Value}(n:h.Ns1 dx mA):∃od,h.get? dx=some od/\∀name,a4K name od=some (mA name):=by
 obtain⟨o,es,ep,ho,hd,hk,_,hm⟩:=n
 refine⟨o,ho,fun name=>?_⟩
 have e:=hm name
 unfold nsFind findBy at e
 rw[<-Array.find?_toList]at e
 unfold a4K
 rw[hd]
 dsimp only
 split
 ·rename_i y q
  rw[q]at e
  exact congrArg some e
 ·rename_i q
  rw[q]at e
  have a:es.toList.any (·.refKey)=false:=by
   rw[List.any_eq_false]
   intro y hy
   obtain⟨z,t,hkey⟩:=hk y (Array.mem_toList_iff.mp hy)
   simp[DictEntry.refKey,hkey]
  have a':¬es.toList.any (·.refKey)=true:=by rw[a];exact l9
  rw[if_neg a']
  exact congrArg some e
theorem b4F.look{x:Addr}{mA:Str->Option Value}(I:b4F h x dx C mA):∃od,PySem.W.InstAt h x (Q9 C dx) C (some od)/\∀name,a4K name od=some (mA name):=
 let⟨od,ho,hl⟩:=b6r I.ns
 ⟨od,⟨I.obj,rfl,rfl,ho⟩,hl⟩
section
variable {prog:u6}{A:E9}{E:Value->d3->Prop}{K:Fg}{x:Addr}{mA:Str->Option Value}{name:Str}{v:Value}
theorem c1t{expr:Bool}(X:K.In s.heap)(I:b4F s.heap x dx C mA)(hg:a1g K C name=true)(hh:a2v K C=true)
  (ha:A9 K (.ref C) name=some none) (hv:mA name=some v) (hv':b9D v=true) (h:Q v { s with toks:=s.toks+1 }) :
  wpAny (model prog w) A (getAttr (.ref x) name expr) Q E s:=by
 obtain⟨od,J,hl⟩:=I.look
 exact PySem.W.get_value X J (a5x hg).1 (PySem.W.findObj_own hh ha rfl (by rw[hl,hv])) hv' h
theorem b9c{pl:Sem Bool}{Q:Value×List Value->d3->Prop}(X:K.In s.heap)(I:b4F s.heap x dx C mA)(hg:a1g K C name=true)
  (hf:A9 K (.ref C) name=some (some (.ref f))) (ht:a7i K (.ref f)=true) (hv:mA name=none) (h:Q (.ref f,[.ref x]) s) :
  wpAny (model prog w) A (a5C (.ref x) name pl) Q E s:=by
 obtain⟨od,J,hl⟩:=I.look
 exact PySem.W.method_fn X J (a5x hg).1 (a5x hg).2 hf (beq_iff_eq.mp ht) (by show(a4K name od).map (·.isSome)=some false;rw[hl,hv];rfl) h
theorem c0a{ns:List Str}{Q:Unit->d3->Prop}(X:K.In s.heap)(I:b4F s.heap x dx C mA)
  (hs:A9 K (.ref C) "__setattr__" = some (some (.builtin "object.__setattr__"))) (hp:a7g K C=true) (ht:a8X K C name=some none) (hh:a2v K C=true)
  (hw:PySem.Within mA ns) (hsz:ns.length<=j6)
  (h:∀h',b4F h' x dx C (fun y=>if y=name then some v else mA y)->Heap.SameBut dx s.heap h'->Q () { s with heap:=h',toks:=s.toks+2 }) :
  wpAny (model prog w) A (setAttr (.ref x) name v) Q E s:=by
 obtain⟨od,J,hl⟩:=I.look
 refine PySem.W.set_plain X J hs (PySem.W.osa_open (s:={ s with toks:=s.toks+1 }) (r:=none) X J hp ht fun b=>?_)
 obtain⟨cd,hc,hd'⟩:=PySem.W.any_some hh
 have hx:s.heap.get? x=some ⟨.ref C,some dx,.plain,#[]⟩:=I.obj
 refine a9 (c8 (a9 (a9 (wpAny_loadPart hx (a9 (PySem.W.Looks.here (s:={ s with toks:=s.toks+1 }) (PySem.W.looks_clsIn X hc) ?_))))))
 rw[hd']
 refine c8 (a:=some dx) (a9 (c8 (a9 ?_)))
 refine wpAny_nsSet1 (s:={ s with toks:=s.toks+1 }) I.ns fun h' hn2 hs2=>?_
 obtain⟨oD,esD,epD,hoD,hdD,hcD⟩:=hn2.count (PySem.Within.cons name v hw)
 refine a9 (wpAny_lookBehind hoD (by rw[hdD];exact pastItsLine_dict (E3 hcD (by rw[v7];omega))) ?_)
 exact c8 (h _ ⟨(hs2.2 _ (Ne.symm I.ne)).trans I.obj,hn2,I.ne⟩ hs2)
theorem b8R{R:b4H->d3->Prop}{vs:List Value}{kw:List (Str×Value)}(X:K.In s.heap)(hm:a3C K C=true)
  (hi:A9 K (.ref C) "__init__" = some (some (.ref f))) (hf:PySem.W.typeIn K (.ref f)=some (.type "function"))
  (h:a2o (model prog w) (A.under (.builtin "type.__call__" ⟨.ref C::vs,kw⟩)) (.call (.ref f) ⟨.ref (s.heap.objs.size+1)::vs,kw⟩) (PySem.W.InitBack (s.heap.objs.size+1) R)
   { s with heap:=(s.heap.push K6).push (Q9 C s.heap.objs.size) }) :
  a2o (model prog w) A (.call (.ref C) ⟨vs,kw⟩) R s:=by
 obtain⟨hh,g,d,t,os⟩:=s
 exact PySem.W.make_core (PySem.W.makes_of X hm) (PySem.W.looks_findIn X hi) (fun self=>PySem.W.bind_fn X self hf) (.inl rfl) h
end
def a1T(f:Str)(v:V):List (Str×V)->List (Str×V)
 | []=>[(f,v)]
 | (g,x)::r=>if g=f then (g,v)::r else (g,x)::a1T f v r
theorem a7q(f g:Str)(v:V):∀fs:List (Str×V),(a1T f v fs).lookup g=if g=f then some v else fs.lookup g
 | []=>by
  show a1y g [(f,v)]=_
  by_cases h:g=f
  ·have hb:(g == f)=true:=beq_iff_eq.mpr h
   simp only[a1y,hb,if_pos h]
  ·have hb:(g == f)=false:=beq_eq_false_iff_ne.mpr h
   simp only[a1y,hb,if_neg h]
 | (k,x)::r=>by
  have ih:=a7q f g v r
  rw[show a1T f v ((k,x)::r)=(if k=f then (k,v)::r else (k,x)::a1T f v r)from rfl]
  by_cases hk:k=f
  ·rw[if_pos hk]
   by_cases h:g=k
   ·have hb:(g == k)=true:=beq_iff_eq.mpr h
    simp only[a1y,hb,if_pos (h.trans hk)]
   ·have hb:(g == k)=false:=beq_eq_false_iff_ne.mpr h
    simp only[a1y,hb,if_neg (fun e:g=f=>h (e.trans hk.symm))]
  ·rw[if_neg hk]
   by_cases h:g=k
   ·have hb:(g == k)=true:=beq_iff_eq.mpr h
    simp only[a1y,hb,if_neg (fun e:g=f=>hk (h.symm.trans e))]
   ·have hb:(g == k)=false:=beq_eq_false_iff_ne.mpr h
    simp only[a1y,hb]
    exact ih
theorem a6X(f:Str)(v:V):∀fs:List (Str×V),f∈(a1T f v fs).map (·.1)/\∀g,g∈fs.map (·.1)->g∈(a1T f v fs).map (·.1)
 | []=>⟨by simp[a1T],fun g h=>by simp at h⟩
 | (k,x)::r=>by
  obtain⟨i1,i2⟩:=a6X f v r
  rw[show a1T f v ((k,x)::r)=(if k=f then (k,v)::r else (k,x)::a1T f v r)from rfl]
  by_cases hk:k=f
  ·rw[if_pos hk]
   subst hk
   exact⟨by simp,fun g h=>by simpa using h⟩
  ·rw[if_neg hk]
   refine⟨?_,fun g h=>?_⟩
   ·rw[E7]
    exact C6 _ i1
   ·rw[E7]at h ⊢
    rcases g6.mp h with e | e
    ·exact g6.mpr (.inl e)
    ·exact C6 _ (i2 g e)
theorem a7r(f:Str)(v:V):∀fs:List (Str×V),(a1T f v fs).length<=fs.length+1
 | []=>by simp[a1T]
 | (k,x)::r=>by
  have ih:=a7r f v r
  rw[show a1T f v ((k,x)::r)=(if k=f then (k,v)::r else (k,x)::a1T f v r)from rfl]
  by_cases hk:k=f
  ·rw[if_pos hk,v7,v7];omega
  ·rw[if_neg hk,v7,v7];omega
theorem a6p.some_of{o:Option Value}(r:a6p (some v) o):∃u,o=some u/\C7 v u:=by
 cases o with
 | none=>exact(show False from r).elim
 | some u=>exact⟨u,rfl,r⟩
theorem a6p.none_of{o:Option Value}(r:a6p none o):o=none:=by
 cases o with
 | none=>rfl
 | some u=>exact(show False from r).elim
theorem b6A(r:C7 v u):b9D u=true:=by
 cases v with
 | non=>cases (show u=Value.none from r);rfl
 | bl b=>cases (show u=Value.bool b from r);rfl
 | int i=>obtain⟨t,e⟩:=(show ∃t,u=Value.int i t from r);cases e;rfl
 | str x=>obtain⟨t,e⟩:=(show ∃t,u=Value.str x t from r);cases e;rfl
 | byt b=>obtain⟨t,e⟩:=(show ∃t,u=Value.bytes b t from r);cases e;rfl
 | flt b=>obtain⟨t,e⟩:=(show ∃t,u=Value.float b t from r);cases e;rfl
 | ref a=>cases (show u=Value.ref a from r);rfl
 | ty n=>cases (show u=Value.type n from r);rfl
section
variable {P:u6}{fs fs':List (Str×V)}
theorem a7L(hok:HOk P w H h)(e:H a=some (.ins C dx fs)):∃mA,b4F h a dx C mA/\(∀f,a6p (fs.lookup f) (mA f))/\PySem.Within mA (fs.map (·.1))/\fs.length<=1000/\H dx=some (.own a):=by
 obtain⟨d,z,ne,ob,mA,n,r,q⟩:=(show U0 P w H h a (.ins C dx fs)from hok a _ e)
 exact⟨mA,⟨ob,n,ne⟩,r,q,z,d⟩
end
structure Cls(K:Fg)(C:Addr):Prop where
 pg:a1g K C Str.empty=true
 hd:a2v K C=true
 po:a7g K C=true
 sa:A9 K (.ref C) "__setattr__" = some (some (.builtin "object.__setattr__"))
theorem Cls.get{K:Fg}(c:Cls K C)(f:Str):a1g K C f=true:=c.pg
def a1P(K:Fg)(C:Addr)(f:Str):Prop:=A9 K (.ref C) f=some none
theorem a1P.taker{K:Fg}{f:Str}(n:a1P K C f):a8X K C f=some none:=by
 unfold a8X
 rw[show A9 K (.ref C) f=some none from n]
 rfl
structure Con(K:Fg)(C:Addr)(f:Str)(v:V)(u:Value):Prop where
 at_:A9 K (.ref C) f=some (some u)
 rel:C7 v u
 get:a7f K u "__get__" = some none
 cp:PySem.W.copiedNames.contains f=false
structure c1G(K:Fg)(C:Addr)(m:Str)(f:Addr):Prop where
 at_:A9 K (.ref C) m=some (some (.ref f))
 fn:a7i K (.ref f)=true
 kp:M5 K (.ref f)=true
section
variable {fs:List (Str×V)}{f:Str}{A:E9}{E:Value->d3->Prop}
theorem b4u{b:Bool}(I:Inv X pins σ H s)(e:H a=some (.ins C dx fs))(c:Cls X.K C)(n:a1P X.K C f)(l:fs.lookup f=some v)
  (h:∀u s',Inv X pins σ H s'->C7 v u->Q u s'):wpAny (model X.prog X.w) A (getAttr (.ref a) f b) Q E s:=by
 obtain⟨mA,O,r,_,_,_⟩:=a7L I.hok e
 obtain⟨u,hu,ru⟩:=a6p.some_of (v:=v) (o:=mA f) (by rw[<-l];exact r f)
 exact c1t I.kIn O (c.get f) c.hd n hu (b6A ru) (h u _ (I.tok _) ru)
theorem a8H{m:Str}{g:Addr}{pl:Sem Bool}{Q:Value×List Value->d3->Prop}(I:Inv X pins σ H s)(e:H a=some (.ins C dx fs))(c:Cls X.K C)(k:c1G X.K C m g)(l:fs.lookup m=none)
  (h:Q (.ref g,[.ref a]) s):wpAny (model X.prog X.w) A (a5C (.ref a) m pl) Q E s:=by
 obtain⟨mA,O,r,_,_,_⟩:=a7L I.hok e
 have hn:mA m=none:=a6p.none_of (by rw[<-l];exact r m)
 exact b9c I.kIn O (c.get m) k.at_ k.fn hn h
theorem b3I{Q:Unit->d3->Prop}(I:Inv X pins σ H s)(e:H a=some (.ins C dx fs))(c:Cls X.K C)(n:a1P X.K C f)(hl:fs.length<1000)(ry:C7 y u)
  (h:∀s',Inv X pins σ (upd H a (.ins C dx (a1T f y fs))) s'->Q () s'):wpAny (model X.prog X.w) A (setAttr (.ref a) f u) Q E s:=by
 obtain⟨mA,O,r,wi,_,ho⟩:=a7L I.hok e
 have hz:(fs.map (·.1)).length<=j6:=by rw[a8,sizeLine_eq];omega
 refine c0a I.kIn O c.sa c.po n.taker c.hd wi hz fun h' O' sb=>h _ ?_
 have hd:∃o,h'.get? dx=some o:=let⟨o,_,_,e',_⟩:=O'.ns; ⟨o,e'⟩
 refine I.write (x:=a) (e:=dx) (by rw[e];exact True.intro) (.inr ho) (fun b q hb z=>(sb.2 b hb).trans z) hd ?_
 refine⟨by rw[j5 O.ne];exact ho,?_,O.ne,O'.obj,_,O'.ns,fun g=>?_,fun g hg=>?_⟩
 ·have:=a7r f y fs;omega
 ·show a6p ((a1T f y fs).lookup g) (if g=f then some u else mA g)
  rw[a7q]
  by_cases q:g=f
  ·rw[if_pos q,if_pos q];exact ry
  ·rw[if_neg q,if_neg q];exact r g
 ·by_cases q:g=f
  ·rw[q];exact(a6X f y fs).1
  ·refine(a6X f y fs).2 g (wi g fun z=>hg ?_)
   show(if g=f then some u else mA g)=none
   rw[if_neg q];exact z
theorem Inv.made(I:Inv X pins σ H s):Inv X pins σ (upd (upd H s.heap.objs.size (.own (s.heap.objs.size+1))) (s.heap.objs.size+1) (.ins C s.heap.objs.size []))
  { s with heap:=(s.heap.push K6).push (Q9 C s.heap.objs.size) }:=by
 have e1:(s.heap.push K6).get? s.heap.objs.size=some K6:=h9 s.heap rfl
 have e2:((s.heap.push K6).push (Q9 C s.heap.objs.size)).get? (s.heap.objs.size+1)=some (Q9 C s.heap.objs.size):=by
  have:=h9 (s.heap.push K6) (o:=Q9 C s.heap.objs.size) rfl
  rwa [V6]at this
 have e3:(s.heap.push K6).Ns s.heap.objs.size (fun _=>none):=⟨K6,#[],_,e1,rfl,(fun e he=>absurd he (by simp)),fun _=>rfl⟩
 have I1:=I.laid (a:=s.heap.objs.size) (o:=.own (s.heap.objs.size+1)) (h':=s.heap.push K6) (t':=s.toks) (fun b u q=>c5 _ q) (d5 _) ⟨_,e1⟩
 refine I1.laid (a:=s.heap.objs.size+1) (o:=.ins C s.heap.objs.size []) (t':=s.toks) (fun b u q=>c5 _ q) (b6V (V6 _ _)) ?_
 have ne:s.heap.objs.size≠s.heap.objs.size+1:=o5 (a4n _)
 refine⟨by rw[j5 ne,d8],F5 _,ne,e2,fun _=>none,(Heap.Ns1.of_empty e3).at fun o q=>c5 _ q,fun _=>True.intro,fun y hy=>absurd rfl hy⟩
theorem c1z{prog:u6}{env:Env}(hb:Z6 e f env (eval e env)=eval e env)
  (h:wpAny (model prog w) A (eval e env) (fun o s₁=>wpAny (model prog w) A (getAttr o f true) Q E s₁) E s):wpAny (model prog w) A (eval (.Attribute e f pos) env) Q E s:=
 Attribute_any_ h (by rw[arm_eval_Attribute,hb])
end
def b2a(K:Fg)(ta:TE)(f:Str):TE:=fun σ H Q=>ta σ H fun x H1=>∃a C dx fs v,x=.ref a/\H1 a=some (.ins C dx fs)/\Cls K C/\a1P K C f/\fs.lookup f=some v/\Q v H1
def b5V(K:Fg)(ta tv:TE)(f:Str):TS:=fun D σ H=>tv σ H fun y H1=>ta σ H1 fun x H2=>∃a C dx fs,x=.ref a/\H2 a=some (.ins C dx fs)/\Cls K C/\a1P K C f/\fs.length<1000 /\
 D.nx σ (upd H2 a (.ins C dx (a1T f y fs)))
section
variable {o value:Expr}{f:Str}{pos' tpos:Pos}{tv:TE}
theorem c3v(he:PE X e ta)(hb:Z6 e f X.env (eval e X.env)=eval e X.env):PE X (.Attribute e f pos) (b2a X.K ta f):=by
 intro pins s σ H Q I h
 refine c1z hb (thn (he pins s σ H _ I h) fun u s1 ⟨x,H1,I1,rx,a,C,dx,fs,v,ex,ea,c,n,l,q⟩=>?_)
 subst ex
 obtain rfl:u=Value.ref a:=rx
 exact b4u I1 ea c n l fun u' s2 I2 ru=>⟨v,H1,I2,ru,q⟩
theorem c3g(ha:PE X o ta)(hv:PE X value tv)(hs:a1z value (some (.Attribute o f pos')) pos.line X.env=pure false):PS X (.Assign [.Attribute o f pos'] value pos) (b5V X.K ta tv f):=by
 intro pins s σ H D I h
 refine plainObj_wpAny_Assign_Attribute (thn (hv pins s σ H _ I h) fun u s1 ⟨y,H1,I1,ry,q⟩=>thn (ha pins s1 σ H1 _ I1 q) fun ov s2 ⟨x,H2,I2,rx,a,C,dx,fs,ex,ea,c,n,l,q2⟩=>?_) hs
 subst ex
 obtain rfl:ov=Value.ref a:=rx
 exact b3I I2 ea c n l ry fun s3 I3=>⟨σ,_,I3,q2⟩
end
section
variable {A:E9}{E:Value->d3->Prop}{c:Value}{b:Bool}
inductive a7b(K:Fg)(H:Hp):V->Value->Prop where
 | non:a7b K H .non (.type "NoneType")
 | bl (x:Bool):a7b K H (.bl x) (.type "bool")
 | int (i:Int):a7b K H (.int i) (.type "int")
 | str (x:Str):a7b K H (.str x) (.type "str")
 | flt (x:UInt64):a7b K H (.flt x) (.type "float")
 | lst {a:Addr} {xs:List V} (e:H a=some (.lst xs)):a7b K H (.ref a) (.type "list")
 | frz {a:Addr} {o:Obj} {xs:List V} (e:H a=some (.frz o (.lst xs))):a7b K H (.ref a) (.type "list")
 | tup {a:Addr} {xs:List V} (e:H a=some (.tup xs)):a7b K H (.ref a) (.type "tuple")
 | dK {a:Addr} {kvs:List (Key×V)} (e:H a=some (.dK kvs)):a7b K H (.ref a) (.type "dict")
 | dT {a:Addr} {kvs:List (List Key×V)} (e:H a=some (.dT kvs)):a7b K H (.ref a) (.type "dict")
 | ins {a C dx:Addr} {fs:List (Str×V)} (e:H a=some (.ins C dx fs)) (cl:Cls K C) (ha:A9 K (.ref C) "__class__" = some (some (.builtin "object.__class__")))
   (hn:a7f K (.builtin "object.__class__") "__get__" = some (some (.builtin "getset_descriptor.__get__"))) (htk:b9H K (.builtin "object.__class__")=some true)
   (hm:c2i K C (.type "object")=some true):a7b K H (.ref a) (.ref C)
theorem b6v{x:V}{t:Value}(I:Inv X pins σ H s)(rx:C7 x u)(ty:a7b X.K H x t)(e:c1L X.K t c=some b)(h:∀tk,Q (.bool b) { s with toks:=tk }) :
  wpAny (model X.prog X.w) A (call (.builtin "isinstance") [u,c]) Q E s:=by
 cases ty with
 | non=>cases (show u=Value.none from rx);exact G7 PySem.W.kitx_none I.kIn True.intro e (fun z=>nomatch z) h
 | bl y=>cases (show u=Value.bool y from rx);exact G7 PySem.W.kitx_bool I.kIn True.intro e (fun z=>nomatch z) h
 | int i=>obtain⟨t,q⟩:=(show ∃t,u=Value.int i t from rx);cases q;exact G7 PySem.W.kitx_int I.kIn True.intro e (fun z=>nomatch z) h
 | str y=>obtain⟨t,q⟩:=(show ∃t,u=Value.str y t from rx);cases q;exact G7 PySem.W.kitx_str I.kIn True.intro e (fun z=>nomatch z) h
 | flt y=>obtain⟨t,q⟩:=(show ∃t,u=Value.float y t from rx);cases q;exact G7 PySem.W.kitx_float I.kIn True.intro e (fun z=>nomatch z) h
 | @lst a xs ea=>
  cases (show u=Value.ref a from rx)
  obtain⟨_,_,n,_,h1⟩:=(show U0 X.prog X.w H s.heap a (.lst xs)from I.hok a _ ea)
  exact G7 b7a I.kIn ⟨_,h1,rfl⟩ e (fun z=>nomatch z) h
 | @frz a ob xs ea=>
  cases (show u=Value.ref a from rx)
  obtain⟨_,_,_,n,_,h1⟩:=(show U0 X.prog X.w H s.heap a (.frz ob (.lst xs))from I.hok a _ ea)
  exact G7 b7a I.kIn ⟨_,h1,rfl⟩ e (fun z=>nomatch z) h
 | @tup a xs ea=>
  cases (show u=Value.ref a from rx)
  obtain⟨_,_,_,p⟩:=(show U0 X.prog X.w H s.heap a (.tup xs)from I.hok a _ ea)
  obtain⟨o,h1,h2,_⟩:=p
  exact G7 PySem.W.kitx_tuple I.kIn ⟨o,h1,h2⟩ e (fun z=>nomatch z) h
 | @dK a kvs ea=>
  cases (show u=Value.ref a from rx)
  obtain⟨_,_,vs,_,p⟩:=(show U0 X.prog X.w H s.heap a (.dK kvs)from I.hok a _ ea)
  obtain⟨o,es,ep,h1,h2,_⟩:=p
  exact G7 b7b I.kIn ⟨o,h1,h2.1⟩ e (fun z=>nomatch z) h
 | @dT a kvs ea=>
  cases (show u=Value.ref a from rx)
  obtain⟨_,_,xs,_,o,es,ep,h1,h2,_⟩:=(show U0 X.prog X.w H s.heap a (.dT kvs)from I.hok a _ ea)
  exact G7 b7b I.kIn ⟨o,h1,h2.1⟩ e (fun z=>nomatch z) h
 | @ins a C dx fs ea cl ha hn htk hm=>
  cases (show u=Value.ref a from rx)
  obtain⟨mA,O,_⟩:=a7L I.hok ea
  obtain⟨od,J,_⟩:=O.look
  exact G7 (PySem.W.kitx_own (cl.get _) cl.hd ha hn htk hm) I.kIn J e (fun z=>nomatch z) h
end
structure L3(k:Nat)(A:E9):Prop where
 hd:A.handled=none
 dp:A.depth+3 * k+5<recursionLimit
 un:A.units+16 * k+200<cLine
theorem L3.mono{j k:Nat}{A:E9}(r:L3 k A)(h:j<=k):L3 j A:=⟨r.hd,by have:=r.dp;omega,by have:=r.un;omega⟩
theorem L3.deeper{k:Nat}{A:E9}(r:L3 (k+1) A)(env:Env):L3 k (A.deeper env):=
 ⟨r.hd,by have:=r.dp;show A.depth+1+3 * k+5<_;omega,by have:=r.un;show A.units+3+16 * k+200<_;omega⟩
theorem b4p{A:E9}{kw:List (Str×Value)}:(A.under (.builtin "type.__call__" ⟨.ref C::us,kw⟩)).depth=A.depth+1:=by
 first | rfl | simp[Around.under,Code.weight,Code.isCreation,Code.isGuard,Code.isCaller,Code.frames,Code.isFrame,guardIds]
theorem b4o{A:E9}{kw:List (Str×Value)}:(A.under (.builtin "type.__call__" ⟨.ref C::us,kw⟩)).units=A.units+1:=by
 first | rfl | simp[Around.under,Code.cUnits,Code.frames,Code.isFrame]
theorem L3.make{k:Nat}{A:E9}(r:L3 (k+1) A)(C:Addr)(us:List Value)(kw:List (Str×Value)):L3 k (A.under (.builtin "type.__call__" ⟨.ref C::us,kw⟩)):=
 ⟨r.hd,by have:=r.dp;rw[b4p];omega,by have:=r.un;rw[b4o];omega⟩
theorem L3.depth{k:Nat}{A:E9}(r:L3 k A):A.depth<recursionLimit:=by have:=r.dp;omega
theorem L3.units{k:Nat}{A:E9}(r:L3 k A):A.units+64<cLine:=by have:=r.un;omega
theorem L3.units0{k:Nat}{A:E9}(r:L3 k A):A.units<cLine:=by have:=r.un;omega
def g7:TA:=fun _ H Q=>Q [] H
def b4(ta:TE)(tr:TA):TA:=fun σ H Q=>ta σ H fun x H1=>tr σ H1 fun xs H2=>Q (x::xs) H2
section
variable {t:TA}
theorem c3z:PA X [] g7:=fun _ _ _ _ H Q I h=>Calls.spliced_nil ⟨[],H,I,.nil,h⟩
theorem c0K(ha:PE X e te)(hr:PA X es t)(hs:d9 (e::es) X.env=(false,eval e X.env)::d9 es X.env:=by rfl):PA X (e::es) (b4 te t):=by
 intro pos pins s σ H Q I h
 rw[hs]
 show wpAny _ _ (spliced ((false,eval e X.env)::U1 pos (d9 es X.env))) _ _ s
 refine Calls.spliced_cons (thn (ha pins s σ H _ I h) fun u s1 ⟨x,H1,I1,r1,q1⟩=>?_)
 exact thn (hr pos pins s1 σ H1 _ I1 q1) fun us s2 ⟨xs,H2,I2,r2,q2⟩=>⟨x::xs,H2,I2,.cons r1 r2,q2⟩
def a1S(t:TA):TE:=fun σ H Q=>t σ H fun xs H1=>xs.length<=j6/\∀p,H1 p=none->Q (.ref p) (upd H1 p (.tup xs))
def P3(t:TA):TE:=fun σ H Q=>t σ H fun xs H1=>xs.length<=j6/\∀p,H1 p=none->Q (.ref p) (upd H1 p (.lst xs))
theorem c3m{x1}(h:PA X es t):PE X (.Tuple es x1 pos) (a1S t):=by
 intro pins s σ H Q I hq
 refine wpAny_Tuple_spliced (thn (h pos pins s σ H _ I hq) fun us s1 ⟨xs,H1,I1,r,z,q⟩=>⟨by rw[<-r.length];exact z,?_⟩)
 have hf:H1 s1.heap.objs.size=none:=I1.hok.fresh (d5 _)
 refine⟨.ref s1.heap.objs.size,upd H1 s1.heap.objs.size (.tup xs),I1.laid (t':=s1.toks) (fun b u e=>c5 _ e) (d5 _) ?_,rfl,q _ hf⟩
 exact⟨z,us,r,⟨_,h9 _ rfl,rfl,_,rfl⟩⟩
theorem c3t(h:PA X es t):PE X (.List es pos) (P3 t):=by
 intro pins s σ H Q I hq
 refine wpAny_List_spliced (thn (h pos pins s σ H _ I hq) fun us s1 ⟨xs,H1,I1,r,z,q⟩=>⟨by rw[<-r.length];exact z,?_⟩)
 have hf:H1 s1.heap.objs.size=none:=I1.hok.fresh (d5 _)
 refine⟨.ref s1.heap.objs.size,upd H1 s1.heap.objs.size (.lst xs),I1.laid (t':=s1.toks) (fun b u e=>c5 _ e) (d5 _) ?_,rfl,q _ hf⟩
 exact⟨z,us,0,r,h9 _ rfl⟩
end
abbrev Sp:=List V->Hp->VK->XK->Prop
abbrev CXT:=List Env->Hp->d3->XK->Value->d3->Prop
variable{CX:CXT}
structure b4G(P:u6)(w:World)(K:Fg)(mg:Str->Option Value)(base:Heap)(A:E9)(outer:List Env)(s:d3)(H:Hp):Prop where
 frames:A.frames=some outer
 mod:Mod K mg base
 bs:∀b o,base.get? b=some o->s.heap.get? b=some o/\H b=none
 bsz:base.objs.size<=s.heap.objs.size
 funs:s.heap.FunFrames base outer
 frf:∀b∈frs outer,H b=none
 hok:HOk P w H s.heap
 bare:b0m s.gens
def CE(outer:List Env)(P:u6)(w:World)(H:Hp)(s:d3)(Q:VK)(u:Value)(s':d3):Prop:=
 ∃v H',s'.os=s.os/\b0m s'.gens/\Un (frs outer) [] H H' s.heap s'.heap/\HOk P w H' s'.heap/\C7 v u/\Q v H'
def CR(CX:CXT)(outer:List Env)(P:u6)(w:World)(H:Hp)(s:d3)(Q:VK)(E:XK)(r:b4H)(s':d3):Prop:=
 match r with
 | .ok (.ret u)=>CE outer P w H s Q u s'
 | .ok _=>False
 | .error e=>CX outer H s E e s'
structure J1(P:u6)(w:World)(K:Fg)(mg:Str->Option Value)(base:Heap)(CX:CXT)(k:Nat)(f:Addr)(fd:X6)(ps:List Str)(sp:Sp):Prop where
 len:∀vs H Q E,sp vs H Q E->vs.length=ps.length
 run:∀(A:E9) (outer:List Env) (s:d3) (H:Hp) (args:Args) (us:List Value) (vs:List V) (Q:VK) (E:XK),L3 k A->b4G P w K mg base A outer s H->b7j s fd args (ps.zip us)->D6 vs us->sp vs H Q E ->
  a2o (model P w) A (.call (.ref f) args) (CR CX outer P w H s Q E) s
theorem b4G.make{P:u6}{K:Fg}{mg:Str->Option Value}{base:Heap}{A:E9}{outer:List Env}(e:b4G P w K mg base A outer s H)(C:Addr)(us:List Value)(kw:List (Str×Value)) :
  b4G P w K mg base (A.under (.builtin "type.__call__" ⟨.ref C::us,kw⟩)) outer s H:=⟨by first | exact e.frames | (simpa[Around.under,Code.envs,Code.isFrame,pushEnvs]using e.frames),e.mod,e.bs,e.bsz,e.funs,e.frf,e.hok,e.bare⟩
section
variable {s':d3}
theorem Inv.env0(I:Inv X pins σ H s):b4G X.prog X.w X.K X.mg X.base X.A X.stack s H:=
 ⟨I.ok.frames,I.ok.mod,I.bs,E3 I.ok.bsz I.sz,I.stack,I.stkFree,I.hok,I.bare⟩
theorem Inv.after{Q:VK}(I:Inv X pins σ H s)(h:CE X.stack X.prog X.w H s Q u s'):EP X pins σ Q u s':=by
 obtain⟨v,H',os,bare,un,hok,r,q⟩:=h
 obtain⟨hh,g,d,t,os'⟩:=s'
 obtain rfl:os'=s.os:=os
 exact⟨v,H',I.call (h':=hh) (g':=g) (d':=d) (t':=t) (ch:=[]) un hok bare (fun b z=>absurd z (by simp)),r,q⟩
end
def u0(sp:Sp)(dvs:List V)(E:XK)(t:TA):TE:=fun σ H Q=>t σ H fun vs H1=>sp (vs++dvs) H1 Q E
def a1W(C:Addr)(m:Str)(sp:Sp)(dvs:List V)(E:XK)(ta:TE)(t:TA):TE:=fun σ H Q=>ta σ H fun x H1=>∃a dx fs,x=.ref a/\H1 a=some (.ins C dx fs)/\fs.lookup m=none /\
 t σ H1 fun vs H2=>sp (x::(vs++dvs)) H2 Q E
def a5Q(C:Addr)(sp:Sp)(dvs:List V)(E:XK)(t:TA):TE:=fun σ H Q=>t σ H fun vs H1=>∀x dx,H1 x=none->H1 dx=none->dx≠x ->
 sp (.ref x::(vs++dvs)) (upd (upd H1 dx (.own x)) x (.ins C dx [])) (fun v H2=>v=.non/\Q (.ref x) H2) E
def a2l(K:Fg)(fd:X6)(ps:List Str)(ds:List Value):Prop:=
 ∀(s:d3) (us:List Value),K.In s.heap->(us++ds).length=ps.length->b7j s fd ⟨us,[]⟩ (ps.zip (us++ds))
theorem a2l.all{K:Fg}{fd:X6}(h:∀us:List Value,us.length=ps.length->bindArgs fd ⟨us,[]⟩=pure (ps.zip us)):a2l K fd ps []:=fun s us _ hl=>by
 rw[b0j]at hl ⊢
 exact .of_eq (h us hl)
def a4m(CX:CXT)(X:Cx)(E:XK):Prop:=∀(pins:List (Addr×Obj)) (σ:St) (H:Hp) (s:d3) (e:Value) (s':d3),Inv X pins σ H s->CX X.stack H s E e s'->X.xe e s'
section
variable {k:Nat}{fd:X6}{sp:Sp}{dvs:List V}{ds:List Value}{E:XK}{x m:Str}{apos:Pos}{o:Expr}{t:TA}
theorem b0L{Q:VK}{vs:List V}(F:J1 X.prog X.w X.K X.mg X.base CX k f fd ps sp)(hr:L3 k X.A)(hb:a2l X.K fd ps ds)(hd:D6 dvs ds)(hx:a4m CX X E)
  (I:Inv X pins σ H s) (r:D6 vs us) (h:sp (vs++dvs) H Q E):wpAny (model X.prog X.w) X.A (call (.ref f) us) (EP X pins σ Q) X.xe s:=by
 have r2:D6 (vs++dvs) (us++ds):=r.append hd
 have hl:(us++ds).length=ps.length:=by rw[<-r2.length];exact F.len _ _ _ _ h
 refine wpAny_call (a2x (F.run X.A X.stack s H ⟨us,[]⟩ (us++ds) (vs++dvs) Q E hr I.env0 (hb s us I.kIn hl) r2 h) fun r s' hq=>?_)
 cases r with
 | error e=>exact hx pins σ H s e s' I hq
 | ok fl=>
  cases fl with
  | ret u=>exact I.after hq
  | next=>exact False.elim hq
  | brk=>exact False.elim hq
  | cont=>exact False.elim hq
theorem c0I(F:J1 X.prog X.w X.K X.mg X.base CX k f fd ps sp)(hr:L3 k X.A)(hg:Gl X x)(hm:X.mg x=some (.ref f))(hk:M5 X.K (.ref f)=true)(hb:a2l X.K fd ps ds)(hd:D6 dvs ds)(hx:a4m CX X E)
  (ha:PA X (e::es) t) (hdb:(x == ("__debug__" : Str))=false:=by decide) (he:d9 (e::es) X.env=(false,eval e X.env)::d9 es X.env:=by rfl) (hpl:(U1 pos (d9 es X.env)).any (·.1)=false:=by rfl) :
  PE X (.Call (.Name x p) (e::es) [] pos) (u0 sp dvs E t):=by
 intro pins s σ H Q I h
 refine V8 (a7K I hg hm ?_ hdb)
 refine a6q (h₀:=X.base) I.ok.mod.kin hk (thn (ha pos pins s σ H _ I h) fun us s1 ⟨vs,H1,I1,r,q⟩=>⟨I1.kIn,?_⟩) he hpl
 exact b0L F hr hb hd hx I1 r q
theorem b8z(F:J1 X.prog X.w X.K X.mg X.base CX k f fd ps sp)(hr:L3 k X.A)(hg:Gl X x)(hm:X.mg x=some (.ref f))(hk:M5 X.K (.ref f)=true)(hb:a2l X.K fd ps ds)(hd:D6 dvs ds)(hx:a4m CX X E)
  (hdb:(x == ("__debug__" : Str))=false:=by decide):PE X (.Call (.Name x p) [] [] pos) (u0 sp dvs E g7):=by
 intro pins s σ H Q I h
 refine V8 (a7K I hg hm ?_ hdb)
 exact b5q I.kIn hk (b0L (us:=[]) F hr hb hd hx I .nil h)
theorem c0C{pl:Sem Bool}(he:PE X o ta)(c:Cls X.K C)(hm:c1G X.K C m f)(F:J1 X.prog X.w X.K X.mg X.base CX k f fd ps sp)(hr:L3 k X.A)(hb:a2l X.K fd ps ds)(hd:D6 dvs ds)(hx:a4m CX X E)(ha:PA X (e::es) t)
  (hst:d9 (e::es) X.env=(false,eval e X.env)::d9 es X.env:=by rfl) (hpl:(U1 pos (d9 es X.env)).any (·.1)=false:=by rfl)
  (ht:eval (.Call (.Attribute o m apos) (e::es) [] pos) X.env=(do
   let ov <-eval o X.env
   a7Q apos.atName
   let(f,first) <-a0U [ov] (a5C ov m pl)
   b6Y pos f first (U1 pos (d9 (e::es) X.env)) (a4O pos (a0s [] X.env))):=by rfl) :
  PE X (.Call (.Attribute o m apos) (e::es) [] pos) (a1W C m sp dvs E ta t):=by
 intro pins s σ H Q I h
 refine b3k (pl:=pl) (thn (he pins s σ H _ I h) fun u s1 ⟨x,H1,I1,rx,a,dx,fs,ex,ea,l,q⟩=>?_) ht
 subst ex
 obtain rfl:u=Value.ref a:=rx
 refine a8H I1 ea c hm l ?_
 refine a6q (first:=[.ref a]) (h₀:=X.base) I.ok.mod.kin hm.kp (thn (ha pos pins s1 σ H1 _ I1 q) fun us s2 ⟨vs,H2,I2,r,q2⟩=>⟨I2.kIn,?_⟩) hst hpl
 exact b0L (us:=.ref a::us) (vs:=.ref a::vs) F hr hb hd hx I2 (.cons rfl r) q2
theorem b8s{pl:Sem Bool}(he:PE X o ta)(c:Cls X.K C)(hm:c1G X.K C m f)(F:J1 X.prog X.w X.K X.mg X.base CX k f fd ps sp)(hr:L3 k X.A)(hb:a2l X.K fd ps ds)(hd:D6 dvs ds)(hx:a4m CX X E)
  (ht:eval (.Call (.Attribute o m apos) [] [] pos) X.env=(do
   let ov <-eval o X.env
   a7Q apos.atName
   let(f,first) <-a0U [ov] (a5C ov m pl)
   b6Y pos f first (U1 pos (d9 [] X.env)) (a4O pos (a0s [] X.env))):=by rfl) :
  PE X (.Call (.Attribute o m apos) [] [] pos) (a1W C m sp dvs E ta g7):=by
 intro pins s σ H Q I h
 refine b3k (pl:=pl) (thn (he pins s σ H _ I h) fun u s1 ⟨x,H1,I1,rx,a,dx,fs,ex,ea,l,q⟩=>?_) ht
 subst ex
 obtain rfl:u=Value.ref a:=rx
 refine a8H I1 ea c hm l ?_
 exact b5q (first:=[.ref a]) I1.kIn hm.kp (b0L (us:=[.ref a]) (vs:=[.ref a]) F hr hb hd hx I1 (.cons rfl .nil) q)
structure Mk(K:Fg)(C f:Addr):Prop where
 makes:a3C K C=true
 init:A9 K (.ref C) "__init__" = some (some (.ref f))
 fn:a7i K (.ref f)=true
 kp:M5 K (.ref C)=true
theorem b8b{Q:VK}{vs:List V}(M:Mk X.K C f)(F:J1 X.prog X.w X.K X.mg X.base CX k f fd ps sp)(hr:L3 (k+1) X.A)(hb:a2l X.K fd ps ds)(hd:D6 dvs ds)
  (hx:a4m CX X E) (I:Inv X pins σ H s) (r:D6 vs us)
  (h:∀x dx,H x=none->H dx=none->dx≠x->sp (.ref x::(vs++dvs)) (upd (upd H dx (.own x)) x (.ins C dx [])) (fun v H2=>v=.non/\Q (.ref x) H2) E) :
  wpAny (model X.prog X.w) X.A (call (.ref C) us) (EP X pins σ Q) X.xe s:=by
 have hq:=h (s.heap.objs.size+1) s.heap.objs.size (I.hok.fresh (a1Q _)) (I.hok.fresh (d5 _)) (o5 (a4n _))
 have I2:=Inv.made (C:=C) I
 have r2:D6 (V.ref (s.heap.objs.size+1)::(vs++dvs)) (Value.ref (s.heap.objs.size+1)::(us++ds)):=.cons rfl (r.append hd)
 have hl:(Value.ref (s.heap.objs.size+1)::us++ds).length=ps.length:=by
  have e:=r2.length
  rw[F.len _ _ _ _ hq]at e
  exact e.symm
 refine wpAny_call (b8R (f:=f) I.kIn M.makes M.init (beq_iff_eq.mp M.fn) (a2x (F.run _ X.stack _ _ ⟨Value.ref (s.heap.objs.size+1)::us,[]⟩ (Value.ref (s.heap.objs.size+1)::(us++ds)) _ _ E (hr.make C us [])
  (I2.env0.make C us []) (hb _ (Value.ref (s.heap.objs.size+1)::us) I2.kIn hl) r2 hq) fun r s' hq'=>?_))
 cases r with
 | error e=>exact hx pins σ _ _ e s' I2 hq'
 | ok fl=>
  cases fl with
  | ret u=>
   obtain⟨v,H',I3,rv,ev,q3⟩:=I2.after hq'
   subst ev
   exact⟨rv,⟨V.ref (s.heap.objs.size+1),H',I3,rfl,q3⟩⟩
  | next=>exact False.elim hq'
  | brk=>exact False.elim hq'
  | cont=>exact False.elim hq'
theorem c0D(M:Mk X.K C f)(F:J1 X.prog X.w X.K X.mg X.base CX k f fd ps sp)(hr:L3 (k+1) X.A)(hg:Gl X x)(hm:X.mg x=some (.ref C))(hb:a2l X.K fd ps ds)(hd:D6 dvs ds)(hx:a4m CX X E)
  (ha:PA X (e::es) t) (hdb:(x == ("__debug__" : Str))=false:=by decide) (he:d9 (e::es) X.env=(false,eval e X.env)::d9 es X.env:=by rfl) (hpl:(U1 pos (d9 es X.env)).any (·.1)=false:=by rfl) :
  PE X (.Call (.Name x p) (e::es) [] pos) (a5Q C sp dvs E t):=by
 intro pins s σ H Q I h
 refine V8 (a7K I hg hm ?_ hdb)
 refine a6q (h₀:=X.base) I.ok.mod.kin M.kp (thn (ha pos pins s σ H _ I h) fun us s1 ⟨vs,H1,I1,r,q⟩=>⟨I1.kIn,?_⟩) he hpl
 exact b8b M F hr hb hd hx I1 r q
end
section
variable {k:Nat}{fd:X6}{ks:List Str}{sp:Sp}{E:XK}{x m:Str}{apos kpos:Pos}{o:Expr}{kws:List b0l}{t tk:TA}{nm:Option Str}
structure c6F(K:Fg)(fd:X6)(ps ks:List Str)(g:List Value->List Value->List Value)(gV:List V->List V->List V):Prop where
 to:∀(s:d3) (us ws:List Value),K.In s.heap->(g us ws).length=ps.length->b7j s fd ⟨us,ks.zip ws⟩ (ps.zip (g us ws))
 rel:∀ {vs:List V} {us:List Value} {zs:List V} {ws:List Value},D6 vs us->D6 zs ws->D6 (gV vs zs) (g us ws)
variable {g:List Value->List Value->List Value}{gV:List V->List V->List V}
end
structure y7(N P:List Str)(sc:Scope):Prop where
 kind:sc.kind=.function
 co:sc.isCoroutine=false
 gen:sc.isGenerator=false
 nd:N.Nodup
 pre:N.take P.length=P
 par:∀x∈P,sc.names.lookup x=some .local\/sc.names.lookup x=some .cell
 nofree:∀y∈sc.names,y.2≠.free
theorem b0a{kindOf:Str->Option a4P}{x:Str}:∀ {binds:List (Str×Value)} {m:Str->Option Value},(∀v,(x,v)∉binds)->bindL kindOf binds m x=m x
 | [],_,_=>rfl
 | (n,v)::r,m,h=>by
  unfold bindL
  rw[b0a fun w hw=>h w (C6 _ hw)]
  split
  ·have:x≠n:=by rintro rfl;exact h v C2
   simp[this]
  ·rfl
theorem b0c{kindOf:Str->Option a4P}{x:Str}:∀ {binds:List (Str×Value)} {m:Str->Option Value},(∀v,(x,v)∉binds)->bindC kindOf binds m x=m x
 | [],_,_=>rfl
 | (n,v)::r,m,h=>by
  unfold bindC
  rw[b0c fun w hw=>h w (C6 _ hw)]
  split
  ·rfl
  ·have:x≠n:=by rintro rfl;exact h v C2
   simp[this]
theorem b0b{kindOf:Str->Option a4P}{x:Str}{v:Value}:∀ {P:List Str} {vs:List Value} {i:Nat} {m:Str->Option Value},P.Nodup->P[i]? = some x->vs[i]? = some v->kindOf x=some .local ->
  bindL kindOf (P.zip vs) m x=some v
 | [],_,_,_,_,h,_,_=>by simp at h
 | _::_,[],_,_,_,_,h,_=>by simp at h
 | p::P,w::vs,0,m,nd,h1,h2,hk=>by
  simp at h1 h2;subst h1;subst h2
  show bindL kindOf ((p,w)::P.zip vs) m p=_
  unfold bindL
  rw[b0a fun v hv=>(S0.mp nd).1 (b0i hv).1,if_pos hk]
  simp
 | p::P,w::vs,i+1,m,nd,h1,h2,hk=>by
  show bindL kindOf ((p,w)::P.zip vs) m x=_
  unfold bindL
  exact b0b (i:=i) (S0.mp nd).2 (by simpa using h1) (by simpa using h2) hk
theorem b0d{kindOf:Str->Option a4P}{x:Str}{v:Value}:∀ {P:List Str} {vs:List Value} {i:Nat} {m:Str->Option Value},P.Nodup->P[i]? = some x->vs[i]? = some v->kindOf x≠some .local ->
  bindC kindOf (P.zip vs) m x=some v
 | [],_,_,_,_,h,_,_=>by simp at h
 | _::_,[],_,_,_,_,h,_=>by simp at h
 | p::P,w::vs,0,m,nd,h1,h2,hk=>by
  simp at h1 h2;subst h1;subst h2
  show bindC kindOf ((p,w)::P.zip vs) m p=_
  unfold bindC
  rw[b0c fun v hv=>(S0.mp nd).1 (b0i hv).1,if_neg hk]
  simp
 | p::P,w::vs,i+1,m,nd,h1,h2,hk=>by
  show bindC kindOf ((p,w)::P.zip vs) m x=_
  unfold bindC
  exact b0d (i:=i) (S0.mp nd).2 (by simpa using h1) (by simpa using h2) hk
def a5R(N:List Str)(vs:List V):St:=vs.map some++z4 (N.length - vs.length) none
def b2S(CX:CXT)(P:u6)(w:World)(K:Fg)(mg:Str->Option Value)(base:Heap)(N:List Str)(qual:Str)(scope:Scope)(f:Addr)(cd:Value)(A:E9)(outer:List Env)(s:d3)(H:Hp)(E:XK):Cx where
 prog:=P
 w:=w
 K:=K
 mg:=mg
 base:=base
 A:=A.deeper (b1N qual scope s.heap.objs.size f cd)
 N:=N
 s₀:=s
 H₀:=H
 env:=b1N qual scope s.heap.objs.size f cd
 outer:=outer
 stack:=b1N qual scope s.heap.objs.size f cd::outer
 ex:=[]
 calm:=true
 fn:=fun _=>true
 pn:=[]
 xe:=fun e s'=>wpAny (model P w) (A.deeper (b1N qual scope s.heap.objs.size f cd)) (leaving (b1N qual scope s.heap.objs.size f cd) e) (fun _ s''=>CX outer H s E e s'') (fun e' s''=>CX outer H s E e' s'') s'
theorem b2W{sc:Scope}{n:Nat}{x:Str}(h:sc.names.lookup x=some .cell):∃c,(cellsFrom n sc.names []).lookup x=some c:=by
 have q:=b3j sc.names n [] (.inl h)
 exact T1.mp q
theorem b6y{P:u6}{K:Fg}{mg:Str->Option Value}{base:Heap}{N:List Str}{qual:Str}{scope:Scope}{cd:Value}{A:E9}{outer:List Env}{s1:d3}{E:XK}{vs:List V}
  (S:y7 N ps scope) (hd:A.handled=none) (e0:b4G P w K mg base A outer s H) (hl:vs.length=ps.length) (r:D6 vs us)
  (x:InCallC s s.heap.objs.size (bindL (b1N qual scope s.heap.objs.size f cd).kindOf (ps.zip us) fun _=>none) (cellsFrom (s.heap.objs.size+1) scope.names []) (bindC (b1N qual scope s.heap.objs.size f cd).kindOf (ps.zip us) fun _=>none) s1) :
  Inv (b2S CX P w K mg base N qual scope f cd A outer s H E) [] (a5R N vs) H s1:=by
 have hpl:ps.length<=N.length:=by have:=congrArg a9D S.pre;rw[P5]at this;omega
 obtain⟨h1,tk,rfl,hk⟩:=x.done
 have noA:∀b:Addr,b∉(b2S CX P w K mg base N qual scope f cd A outer s H E).ex:=fun b z=>absurd (show b∈([]:List Addr)from z) (by simp)
 refine⟨⟨e0.mod,S.kind,rfl,rfl,d5 _,fun y z c h1 h2=>?_,fun y hy=>?_,fun y c _ h=>?_,fun _=>hd,Around.frames_deeper e0.frames,.inr ⟨rfl,rfl⟩,fun b z=>absurd z (noA b),e0.bs,e0.bsz,fun b _ _=>noA b,fun b z=>absurd z (noA b),e0.funs,e0.frf⟩,
  rfl,e0.bare,Un.kept hk,⟨_,x.toInCall.ns,fun i y v h1 h2 h3=>?_⟩,fun y c h=>⟨_,x.cell y c h⟩,e0.hok.fresh (d5 _),fun y c h=>?_,fun p hp=>absurd (show p∈([]:List (Addr×Obj))from hp) (by simp),e0.hok.kept hk,?_⟩
 ·exact name_of_addr x.apart (w6 h1) (w6 h2)
 ·have hy:scope.names.lookup y=some .cell\/scope.names.lookup y=some .free:=hy
  rcases hy with hy | hy
  ·exact b2W hy
  ·exact absurd rfl (S.nofree _ (w6 hy))
 ·exact a1h (x.above y c (w6 h))
 ·have hi:i<vs.length:=by
   unfold a5R at h2
   by_cases hi:i<vs.length
   ·exact hi
   ·rw[K8 (by simpa using hi)]at h2
    rw[J4]at h2
    split at h2 <;> cases h2
  have ha:vs[i]? = some v:=by
   unfold a5R at h2
   rw[L5 (by simpa using hi),b7]at h2
   cases e:vs[i]? with
   | none=>rw[e]at h2;cases h2
   | some a=>rw[e]at h2;cases h2;rfl
  obtain⟨u,hu,rv⟩:=r.get ha
  have hp:ps[i]? = some y:=by
   rw[<-S.pre,List.getElem?_take_of_lt (by omega)];exact h1
  have ndP:ps.Nodup:=by rw[<-S.pre];exact S.nd.sublist (List.take_sublist _ _)
  refine⟨u,rv,?_⟩
  rcases S.par y (N9 hp)with k | k
  ·exact .inl ⟨k,b0b ndP hp hu k⟩
  ·obtain⟨c,e⟩:=b2W (n:=s.heap.objs.size+1) k
   refine .inr ⟨.inl k,c,e,?_⟩
   have q:=x.cell y c e
   rw[b0d ndP hp hu (by show scope.names.lookup y≠_;rw[k];decide)]at q
   exact q
 ·exact e0.hok.fresh (a1h (x.above y c (w6 h)))
 ·unfold a5R
  show _=N.length
  rw[c9,a8,D0]
  omega
theorem c5O{P:u6}{K:Fg}{mg:Str->Option Value}{base:Heap}{k:Nat}{name qual:Str}{params:Arguments}{body:List Stmt}{scope:Scope}{dV kV doc pm cdv ct oc:Value}{an od:Option Addr}
  {osl:Array (Option Value)} {N ps:List Str} {sp:Sp} (lk:K.lookup f=some ⟨oc,od,.func (Z7 name qual params body scope dV kV doc pm an cdv ct),osl⟩) (hcd:a4L K cdv qual=true) (S:y7 N ps scope)
  (len:∀vs H Q E,sp vs H Q E->vs.length=ps.length)
  (hbody:∀(A:E9) (outer:List Env) (s:d3) (H:Hp) (vs:List V) (Q:VK) (E:XK),L3 k (A.deeper (b1N qual scope s.heap.objs.size f cdv))->sp vs H Q E ->
   ∃t,PSs (b2S CX P w K mg base N qual scope f cdv A outer s H E) body t/\t { nx:=fun _ H'=>Q .non H',rt:=Q } (a5R N vs) H) :
  J1 P w K mg base CX (k+1) f (Z7 name qual params body scope dV kV doc pm an cdv ct) ps sp:=by
 refine⟨len,fun A outer s H args us vs Q E hr e0 hb r hsp=>?_⟩
 have hl:=len _ _ _ _ hsp
 have KX:K.In s.heap:=e0.mod.kin.keeps fun b o e=>(e0.bs b o e).1
 have lim:s.heap.NoLimit:=e0.mod.nolimit.keeps fun b o e=>(e0.bs b o e).1
 have hkind:∀y∈ps.zip us,scope.names.lookup y.1=some .local\/(scope.names.lookup y.1=some .cell/\((cellsFrom (s.heap.objs.size+1) scope.names []).lookup y.1).isSome=true):=fun⟨n,v⟩ hy=>by
  rcases S.par n (b0i hy).1 with q | q
  ·exact .inl q
  ·exact .inr ⟨q,b3j _ _ _ (.inl q)⟩
 refine codeAny_call_function hr.depth (KX _ _ lk) rfl S.co S.gen rfl (PySem.W.codeRec_of KX hcd) (hb _ _ _ _ ?_)
 refine wpAny_newFunctionEnv_cells S.kind hkind fun env he s1 x=>?_
 subst he
 refine⟨lim.keeps x.toInCall.keep,codeAny_func ?_⟩
 obtain⟨t,ht,hq⟩:=hbody A outer s H vs Q E (hr.deeper _) hsp
 have I:Inv (b2S CX P w K mg base N qual scope f cdv A outer s H E) [] (a5R N vs) H s1:=b6y S hr.hd e0 hl r x
 refine a0f (ht [] s1 (a5R N vs) H _ I hq) (fun fl s' hs=>?_) fun e s' hs=>hs
 have fin:∀ {σ':St} {H':Hp} {v:V} {u:Value},Inv (b2S CX P w K mg base N qual scope f cdv A outer s H E) [] σ' H' s'->C7 v u->Q v H'->CE outer P w H s Q u s':=
  fun {σ' H' v u} J rv q=>⟨v,H',J.os,J.bare,J.base,J.hok,rv,q⟩
 cases fl with
 | ret u=>
  obtain⟨v,σ',H',J,rv,q⟩:=hs
  exact fin J rv q
 | next=>
  obtain⟨σ',H',J,q⟩:=hs
  exact fin (v:=V.non) (u:=Value.none) J rfl q
 | brk=>
  obtain⟨_,_,_,q⟩:=hs
  exact False.elim q
 | cont=>
  obtain⟨_,_,_,q⟩:=hs
  exact False.elim q
section
variable {x:Str}{t:TA}{id T:String}{r:List V->Hp->VK->Prop}
def tCB(r:List V->Hp->VK->Prop)(t:TA):TE:=fun σ H Q=>t σ H fun vs H1=>r vs H1 Q
theorem b8y(hc:U3 X (.builtin id) r)(hg:Gl X x)(hm:X.mg x=none)(hv:O9 x=some (.builtin id))(ha:PA X (e::es) t)(hn:x ≠ "__name__" := by decide)(hdb:(x == ("__debug__" : Str))=false:=by decide)
  (he:d9 (e::es) X.env=(false,eval e X.env)::d9 es X.env:=by rfl) (hpl:(U1 pos (d9 es X.env)).any (·.1)=false:=by rfl):PE X (.Call (.Name x p) (e::es) [] pos) (tCB r t):=by
 intro pins s σ H Q I h
 refine V8 (a4g I hg hm hv ?_ hn hdb)
 exact a5y (thn (ha pos pins s σ H _ I h) fun us s1 ⟨vs,H1,I1,r1,q1⟩=>hc pins s1 σ H1 vs us Q I1 r1 q1) he hpl
theorem b6d(hc:U3 X (.type T) r)(hg:Gl X x)(hm:X.mg x=none)(hv:O9 x=some (.type T))(ha:PA X (e::es) t)(hn:x ≠ "__name__" := by decide)(hdb:(x == ("__debug__" : Str))=false:=by decide)
  (he:d9 (e::es) X.env=(false,eval e X.env)::d9 es X.env:=by rfl) (hpl:(U1 pos (d9 es X.env)).any (·.1)=false:=by rfl):PE X (.Call (.Name x p) (e::es) [] pos) (tCB r t):=by
 intro pins s σ H Q I h
 refine V8 (a4g I hg hm hv ?_ hn hdb)
 exact N3 (thn (ha pos pins s σ H _ I h) fun us s1 ⟨vs,H1,I1,r1,q1⟩=>hc pins s1 σ H1 vs us Q I1 r1 q1) he hpl
end
section
variable {κ:Type}[DecidableEq κ]
def a5J(kvs:List (κ×V))(k:κ):Option V:=(kvs.find? fun kv=>decide (kv.1=k)).map (·.2)
def a1r(kvs:List (κ×V))(k:κ)(v:V):List (κ×V):=
 if(kvs.any fun kv=>decide (kv.1=k))=true then kvs.map (fun kv=>if kv.1=k then (kv.1,v)else kv)else kvs++[(k,v)]
theorem a5G{p:κ×V}{r:List (κ×V)}{k:κ}(e:p.1=k):a5J (p::r) k=some p.2:=by simp[a5J,X8,e]
theorem a5H{p:κ×V}{r:List (κ×V)}{k:κ}(e:¬p.1=k):a5J (p::r) k=a5J r k:=by simp[a5J,X8,e]
theorem a5I(k:κ):∀kvs:List (κ×V),(kvs.any fun kv=>decide (kv.1=k))=(a5J kvs k).isSome
 | []=>rfl
 | p::r=>by
  rw[Y5]
  by_cases e:p.1=k
  ·simp only[a5G e,c7I e,Bool.true_or,Option.isSome_some]
  ·rw[a5H e,c7H e,c5W];exact a5I k r
theorem a4f(kvs:List (κ×V))(k:κ)(v:V):(a1r kvs k v).length<=kvs.length+1:=by
 unfold a1r
 split
 ·rw[a8];omega
 ·rw[c9,v7,a4N];omega
theorem a6p.isSome_eq{o:Option V}{u:Option Value}(r:a6p o u):o.isSome=u.isSome:=by
 cases o with
 | none=>cases u with
  | none=>rfl
  | some _=>exact(show False from r).elim
 | some _=>cases u with
  | none=>exact(show False from r).elim
  | some _=>rfl
theorem KV.val{kvs:List (κ×V)}{vs:List (κ×Value)}(r:KV kvs vs)(k:κ):a6p (a5J kvs k) (c2l vs k):=by
 unfold KV at r
 induction r with
 | nil=>exact True.intro
 | @cons p q ps qs h t ih=>
  obtain⟨h1,h2⟩:=h
  by_cases e:p.1=k
  ·have e':q.1=k:=h1.symm.trans e
   have b:c2l (q::qs) k=some q.2:=by simp[c2l,X8,e']
   rw[a5G e,b];exact h2
  ·have e':¬q.1=k:=fun z=>e (h1.trans z)
   have b:c2l (q::qs) k=c2l qs k:=by simp[c2l,X8,e']
   rw[a5H e,b];exact ih
theorem KV.any{kvs:List (κ×V)}{vs:List (κ×Value)}(r:KV kvs vs)(k:κ):(kvs.any fun kv=>decide (kv.1=k))=vs.any fun kv=>decide (kv.1=k):=by
 unfold KV at r
 induction r with
 | nil=>rfl
 | cons h t ih=>rw[Y5,Y5,ih,h.1]
theorem KV.repl{kvs:List (κ×V)}{vs:List (κ×Value)}(r:KV kvs vs)(k:κ)(ry:C7 y u) :
  KV (kvs.map fun kv=>if kv.1=k then (kv.1,y)else kv) (vs.map fun kv=>if kv.1=k then (kv.1,u)else kv):=by
 unfold KV at r ⊢
 induction r with
 | nil=>exact .nil
 | @cons p q ps qs h t ih=>
  rw[E7,E7]
  refine .cons ?_ ih
  obtain⟨h1,h2⟩:=h
  by_cases e:p.1=k
  ·rw[if_pos e,if_pos (h1.symm.trans e)];exact⟨h1,ry⟩
  ·rw[if_neg e,if_neg (fun z=>e (h1.trans z))];exact⟨h1,h2⟩
theorem KV.put{kvs:List (κ×V)}{vs:List (κ×Value)}(r:KV kvs vs)(k:κ)(ry:C7 y u):KV (a1r kvs k y) (stored vs k u):=by
 unfold a1r stored
 rw[r.any k]
 by_cases e:(vs.any fun kv=>decide (kv.1=k))=true
 ·rw[if_pos e,if_pos e];exact r.repl k ry
 ·rw[if_neg e,if_neg e];exact Paired.snoc r ⟨rfl,ry⟩
theorem KV.length{kvs:List (κ×V)}{vs:List (κ×Value)}(r:KV kvs vs):kvs.length=vs.length:=Paired.length r
end
theorem b2J{P:u6}{k:Key}(r:C7 (kV k) u):(M6 P w).is k u=true:=by
 cases k with
 | inl i=>obtain⟨t,e⟩:=(show ∃t,u=Value.int i t from r);subst e;exact b2G P w i t
 | inr x=>obtain⟨t,e⟩:=(show ∃t,u=Value.str x t from r);subst e;exact b2F P w x t
theorem a9X{P:u6}:∀ {ks:List Key} {us:List Value},D6 (ks.map kV) us->ItemsAre (M6 P w) ks us
 | [],_,r=>by rw[b5r]at r;cases r;exact .nil
 | k::ks,_,r=>by
  rw[E7]at r
  cases r with
  | cons h t=>exact .cons (b2J h) (a9X t)
abbrev KT(H:Hp):List (List Key×V)->List (List Key×Addr×Value)->Prop:=Paired fun p q=>p.1=q.1/\H q.2.1=some (.tup (p.1.map kV))/\C7 p.2 q.2.2
theorem KT.val{kvs:List (List Key×V)}{xs:List (List Key×Addr×Value)}(r:KT H kvs xs)(k:List Key):a6p (a5J kvs k) ((atKey xs k).map (·.2)):=by
 induction r with
 | nil=>exact True.intro
 | @cons p q ps qs h t ih=>
  obtain⟨h1,_,h2⟩:=h
  by_cases e:p.1=k
  ·have e':q.1=k:=h1.symm.trans e
   have b:atKey (q::qs) k=some q.2:=by simp[atKey,X8,e']
   rw[a5G e,b];exact h2
  ·have e':¬q.1=k:=fun z=>e (h1.trans z)
   have b:atKey (q::qs) k=atKey qs k:=by simp[atKey,X8,e']
   rw[a5H e,b];exact ih
theorem KT.repl{kvs:List (List Key×V)}{xs:List (List Key×Addr×Value)}(r:KT H kvs xs)(k:List Key)(ry:C7 y u) :
  KT H (kvs.map fun kv=>if kv.1=k then (kv.1,y)else kv) (xs.map (putAt k u)):=by
 induction r with
 | nil=>exact .nil
 | @cons p q ps qs h t ih=>
  rw[E7,E7]
  refine .cons ?_ ih
  obtain⟨h1,h2,h3⟩:=h
  unfold putAt
  by_cases e:p.1=k
  ·rw[if_pos e,if_pos (h1.symm.trans e)];exact⟨h1,h2,ry⟩
  ·rw[if_neg e,if_neg (fun z=>e (h1.trans z))];exact⟨h1,h2,h3⟩
theorem KT.put{kvs:List (List Key×V)}{xs:List (List Key×Addr×Value)}(r:KT H kvs xs)(k:List Key)(hb:H b=some (.tup (k.map kV)))(ry:C7 y u) :
  KT H (a1r kvs k y) (storedH xs k b u):=by
 have e:(kvs.any fun kv=>decide (kv.1=k))=(atKey xs k).isSome:=by
  rw[a5I,(r.val k).isSome_eq,a7u]
 unfold a1r storedH
 rw[e]
 by_cases q:(atKey xs k).isSome=true
 ·rw[if_pos q,if_pos q];exact r.repl k ry
 ·rw[if_neg q,if_neg q];exact Paired.snoc r ⟨rfl,hb,ry⟩
theorem KT.keeps{kvs:List (List Key×V)}{xs:List (List Key×Addr×Value)}(r:KT H kvs xs)(ht:∀b ys,H b=some (.tup ys)->H' b=some (.tup ys)):KT H' kvs xs:=
 Paired.mapP r fun _ _ z=>⟨z.1,ht _ _ z.2.1,z.2.2⟩
section
variable {P:u6}
theorem c2a{u:HO}(ok:HOk P w H h)(e:Rd H a u):U0 P w H h a u:=e.ok ok
theorem b9k(ok:HOk P w H h)(e:Rd H a (.dK kvs)):kvs.length<=j6/\(a == V4)=false/\∃vs,KV kvs vs/\h.DictOf (M6 P w) a vs:=
 show U0 P w H h a (.dK kvs)from c2a ok e
theorem b5h(ok:HOk P w H h)(e:H a=some (.dK kvs)):kvs.length<=j6/\(a == V4)=false/\∃vs,KV kvs vs/\h.DictOf (M6 P w) a vs:=b9k ok (.inl e)
theorem b1g{ks:List Key}(ok:HOk P w H h)(e:H a=some (.tup (ks.map kV))):(b7h (M6 P w)).is h ks a:=by
 obtain⟨_,its,r,o,h1,h2,n,h3⟩:=(show U0 P w H h a (.tup (ks.map kV))from ok a _ e)
 exact⟨o,its.toArray,n,h1,h2,h3,by simpa using a9X r⟩
theorem b9h{kvs:List (List Key×V)}(ok:HOk P w H h)(e:Rd H a (.dT kvs)):kvs.length<=j6/\(a == V4)=false /\
  ∃xs,KT H kvs xs/\h.DictOfH (b7h (M6 P w)) a xs:=by
 obtain⟨z,y,xs,r,o,es,ep,h1,h2,h3,h4,h5⟩:=(show U0 P w H h a (.dT kvs)from c2a ok e)
 refine⟨z,y,xs,r,o,es,ep,h1,h2,h3,h4,fun x hx=>?_,h5⟩
 have all:∀ {l:List (List Key×V)} {m:List (List Key×Addr×Value)},KT H l m->∀x∈m,(b7h (M6 P w)).is h x.1 x.2.1:=by
  intro l m q
  induction q with
  | nil=>intro x hx;exact nomatch hx
  | @cons p q ps qs hq t ih=>
   intro x hx
   rcases g6.mp hx with e | hx
   ·subst e
    exact b1g ok (by rw[<-hq.1];exact hq.2.1)
   ·exact ih x hx
 exact all r x hx
theorem b9i{kvs:List (List Key×V)}(ok:HOk P w H h)(e:H a=some (.dT kvs)):kvs.length<=j6/\(a == V4)=false /\
  ∃xs,KT H kvs xs/\h.DictOfH (b7h (M6 P w)) a xs:=b9h ok (.inl e)
end
def a9A(H:Hp)(a:Addr)(y:V)(r:Option V):Prop:=
 (∃kvs k,Rd H a (.dK kvs)/\y=kV k/\r=a5J kvs k)\/∃kvs k b,Rd H a (.dT kvs)/\y=.ref b/\H b=some (.tup (k.map kV))/\r=a5J kvs k
def a8V(H:Hp)(a:Addr)(y v:V)(H':Hp):Prop:=
 (∃kvs k,H a=some (.dK kvs)/\y=kV k/\kvs.length<j6/\H'=upd H a (.dK (a1r kvs k v))) \/
 ∃kvs k b,H a=some (.dT kvs)/\y=.ref b/\H b=some (.tup (k.map kV))/\kvs.length<j6/\H'=upd H a (.dT (a1r kvs k v))
theorem a9A.k{k:Key}(e:H a=some (.dK kvs)):a9A H a (kV k) (a5J kvs k):=.inl ⟨kvs,k,.inl e,rfl,rfl⟩
theorem a8V.k{k:Key}(e:H a=some (.dK kvs))(hl:kvs.length<j6):a8V H a (kV k) v (upd H a (.dK (a1r kvs k v))):=.inl ⟨kvs,k,e,rfl,hl,rfl⟩
theorem a8V.t{kvs:List (List Key×V)}{k:List Key}(e:H a=some (.dT kvs))(eb:H b=some (.tup (k.map kV)))(hl:kvs.length<j6) :
  a8V H a (.ref b) v (upd H a (.dT (a1r kvs k v))):=.inr ⟨kvs,k,b,e,rfl,eb,hl,rfl⟩
section
variable {r:Value}{o:Option V}{A:E9}{E:Value->d3->Prop}
theorem Inv.big(I:Inv X pins σ H s):V4<s.heap.objs.size:=by
 have h:q9<s.heap.objs.size:=(I.mod.glob.keeps I.bk).lt
 exact Nat.lt_trans (by decide) h
theorem c6B(hu:A.units+1<cLine)(I:Inv X pins σ H s)(g:a9A H a y o)(ry:C7 y u)(h:∀s',Inv X pins σ H s'->Q (.bool o.isSome) s') :
  wpAny (model X.prog X.w) A (p5 .In u (.ref a)) Q E s:=by
 rcases g with ⟨kvs,k,e,ey,l⟩ | ⟨kvs,k,b,e,ey,eb,l⟩
 ·subst ey
  obtain⟨z,hd,vs,rel,dd⟩:=b9k I.hok e
  refine wpAny_in_of (b2J ry) hd dd.mapOf ?_
  rw[<-(rel.val k).isSome_eq,<-l]
  exact h _ (I.tok _)
 ·subst ey
  cases (show u=Value.ref b from ry)
  obtain⟨z,hd,xs,rel,dd⟩:=b9h I.hok e
  refine wpAny_in_heap (b1M hu) (b1g I.hok eb) hd dd ?_
  have q:=(rel.val k).isSome_eq
  rw[a7u]at q
  rw[<-q,<-l]
  exact h _ (I.tok _)
theorem c1x(hu:A.units+1<cLine)(I:Inv X pins σ H s)(g:a9A H a y o)(ry:C7 y u)(h:∀s',Inv X pins σ H s'->Q (.bool (!o.isSome)) s') :
  wpAny (model X.prog X.w) A (p5 .NotIn u (.ref a)) Q E s:=by
 rcases g with ⟨kvs,k,e,ey,l⟩ | ⟨kvs,k,b,e,ey,eb,l⟩
 ·subst ey
  obtain⟨z,hd,vs,rel,dd⟩:=b9k I.hok e
  refine wpAny_notIn_of (b2J ry) hd dd.mapOf ?_
  rw[<-(rel.val k).isSome_eq,<-l]
  exact h _ (I.tok _)
 ·subst ey
  cases (show u=Value.ref b from ry)
  obtain⟨z,hd,xs,rel,dd⟩:=b9h I.hok e
  refine wpAny_notIn_heap (b1M hu) (b1g I.hok eb) hd dd ?_
  have q:=(rel.val k).isSome_eq
  rw[a7u]at q
  rw[<-q,<-l]
  exact h _ (I.tok _)
theorem b1r{ob:HO}(I:Inv X pins σ H s)(mu:Mut (H a))(hs:Heap.SameBut a s.heap h')(he:∃q,h'.get? a=some q)(new:U0 X.prog X.w (upd H a ob) h' a ob) :
  Inv X pins σ (upd H a ob) { s with heap:=h',toks:=t' }:=
 I.write (x:=a) (e:=a) mu (.inl rfl) (fun b q hb z=>(hs.2 b hb).trans z) he new
theorem b9l{P:u6}{vs:List (Key×Value)}(z:kvs.length<=j6)(hd:(a == V4)=false)(rel:KV kvs vs)(dd:h'.DictOf (M6 P w) a vs) :
  U0 P w H' h' a (.dK kvs):=⟨z,hd,vs,rel,dd⟩
theorem b6C{Q:Unit->d3->Prop}(hu:A.units+1<cLine)(I:Inv X pins σ H s)(g:a8V H a y v H')(ry:C7 y u)(rv:C7 v r)(h:∀s',Inv X pins σ H' s'->Q () s') :
  wpAny (model X.prog X.w) A (c2m (.ref a) u r) Q E s:=by
 rcases g with ⟨kvs,k,e,ey,l,eH⟩ | ⟨kvs,k,b,e,ey,eb,l,eH⟩
 ·subst ey eH
  obtain⟨z,hd,vs,rel,dd⟩:=b5h I.hok e
  have hz:vs.length<=j6:=by rw[<-rel.length];exact z
  have hl:(a1r kvs k v).length<=j6:=by have:=a4f kvs k v;omega
  refine wpAny_setItem_pairs (hsz:=hz) (b2J ry) dd fun h' dd' hs=>h _ ?_
  have he:∃q,h'.get? a=some q:=let⟨q,_,_,hq,_⟩:=dd'; ⟨q,hq⟩
  exact b1r I (by rw[e];exact True.intro) hs he (b9l hl hd (rel.put k rv) dd')
 ·subst ey eH
  cases (show u=Value.ref b from ry)
  obtain⟨z,hd,xs,rel,dd⟩:=b9i I.hok e
  have hz:xs.length<=j6:=by rw[<-Paired.length rel];exact z
  have hl:(a1r kvs k v).length<=j6:=by have:=a4f kvs k v;omega
  refine wpAny_setItem_heap (hsz:=hz) (b1M hu) (b1g I.hok eb) dd fun h' dd' hs=>h _ ?_
  obtain⟨q,es,ep,hq,h2,h3,h4,_,h5⟩:=dd'
  refine b1r I (by rw[e];exact True.intro) hs ⟨q,hq⟩ ⟨hl,hd,_,(rel.put k eb rv).keeps fun c ys ec=>?_,q,es,ep,hq,h2,h3,h4,h5⟩
  rw[j5 (O0 ec e (fun z=>nomatch z))]
  exact ec
end
section
variable {k:Key}{A:E9}{E:Value->d3->Prop}
end
def b0r(ty td:TE):TE:=fun σ H Q=>ty σ H fun y H1=>td σ H1 fun x H2=>∃a o,x=.ref a/\a9A H2 a y o/\Q (.bl o.isSome) H2
def a4t(ty td:TE):TE:=fun σ H Q=>ty σ H fun y H1=>td σ H1 fun x H2=>∃a o,x=.ref a/\a9A H2 a y o/\Q (.bl (!o.isSome)) H2
def a3U(td ty tv:TE):TS:=fun D σ H=>tv σ H fun v H1=>td σ H1 fun x H2=>ty σ H2 fun y H3=>∃a H4,x=.ref a/\a8V H3 a y v H4/\D.nx σ H4
section
variable {o i value:Expr}{pos' tpos:Pos}{td ty tv:TE}
theorem b8A(hu:X.A.units+1<cLine)(hi:PE X i ty)(ho:PE X o td):PC X .In i o (b0r ty td):=by
 intro pins s σ H Q I h
 refine thn (hi pins s σ H _ I h) fun iv s1 ⟨y,H1,I1,ry,q1⟩=>thn (ho pins s1 σ H1 _ I1 q1) fun u s2 ⟨x,H2,I2,rx,a,ov,ex,g,q2⟩=>?_
 subst ex
 obtain rfl:u=Value.ref a:=rx
 exact c6B hu I2 g ry fun s3 I3=>⟨.bl ov.isSome,H2,I3,rfl,q2⟩
theorem b6e(hu:X.A.units+1<cLine)(hi:PE X i ty)(ho:PE X o td):PC X .NotIn i o (a4t ty td):=by
 intro pins s σ H Q I h
 refine thn (hi pins s σ H _ I h) fun iv s1 ⟨y,H1,I1,ry,q1⟩=>thn (ho pins s1 σ H1 _ I1 q1) fun u s2 ⟨x,H2,I2,rx,a,ov,ex,g,q2⟩=>?_
 subst ex
 obtain rfl:u=Value.ref a:=rx
 exact c1x hu I2 g ry fun s3 I3=>⟨.bl (!ov.isSome),H2,I3,rfl,q2⟩
theorem c0u(hu:X.A.units+1<cLine)(ho:PE X o td)(hi:PE X i ty)(hv:PE X value tv)(hs:a1z value (some (.Subscript o i pos')) pos.line X.env=pure false) :
  PS X (.Assign [.Subscript o i pos'] value pos) (a3U td ty tv):=by
 intro pins s σ H D I h
 refine wpAny_Assign_Subscript (thn (hv pins s σ H _ I h) fun r s1 ⟨v,H1,I1,rv,q1⟩=>thn (ho pins s1 σ H1 _ I1 q1) fun u s2 ⟨x,H2,I2,rx,q2⟩=>thn (hi pins s2 σ H2 _ I2 q2) fun iv s3 ⟨y,H3,I3,ry,a,H4,ex,g,q3⟩=>?_) hs
 subst ex
 obtain rfl:u=Value.ref a:=rx
 exact b6C hu I3 g ry rv fun s4 I4=>⟨σ,H4,I4,q3⟩
end
theorem b2Q{P:u6}(h:Heap)(hb:V4<h.objs.size):U0 P w H (h.push { cls:=.type "dict",data:=.dict #[] }) h.objs.size (.dK []):=
 ⟨F5 _,beq_eq_false_iff_ne.mpr (Ne.symm (o5 hb)),[],.nil,Heap.DictOf.new h⟩
theorem b9j{P:u6}(h:Heap)(hb:V4<h.objs.size):U0 P w H (h.push { cls:=.type "dict",data:=.dict #[] }) h.objs.size (.dT []):=
 ⟨F5 _,beq_eq_false_iff_ne.mpr (Ne.symm (o5 hb)),[],.nil,_,#[],0,h9 _ rfl,⟨rfl,rfl,rfl⟩,rfl,rfl,b1K⟩
def a6B:TE:=fun _ H Q=>∀p,H p=none->Q (.ref p) (upd H p (.dK []))
def b3D:TE:=fun _ H Q=>∀p,H p=none->Q (.ref p) (upd H p (.dT []))
section
theorem b8v:PE X (.Dict [] [] pos) a6B:=fun pins s σ H Q I h=>
 wpAny_Dict_empty ⟨.ref s.heap.objs.size,_,I.laid (a:=s.heap.objs.size) (o:=.dK []) (t':=s.toks) (fun _ _ q=>c5 _ q) (d5 _) (b2Q s.heap I.big),rfl,h _ (I.hok.fresh (d5 _))⟩
theorem b8u:PE X (.Dict [] [] pos) b3D:=fun pins s σ H Q I h=>
 wpAny_Dict_empty ⟨.ref s.heap.objs.size,_,I.laid (a:=s.heap.objs.size) (o:=.dT []) (t':=s.toks) (fun _ _ q=>c5 _ q) (d5 _) (b9j s.heap I.big),rfl,h _ (I.hok.fresh (d5 _))⟩
end
def b3C:List (TE×TE)->St->Hp->(List (V×V)->Hp->Prop)->Prop
 | [],_,H,Q=>Q [] H
 | (tk,tv)::r,σ,H,Q=>tk σ H fun x H1=>tv σ H1 fun y H2=>b3C r σ H2 fun ps H3=>Q ((x,y)::ps) H3
abbrev VV:List (V×V)->List (Value×Value)->Prop:=Paired fun p q=>C7 p.1 q.1/\C7 p.2 q.2
def PPs(X:Cx)(pos:Pos)(keys:List (Option Expr))(values:List Expr)(trs:List (TE×TE)):Prop:=
 ∀(pins:List (Addr×Obj)) (s:d3) (σ:St) (H:Hp) (Q:List (V×V)->Hp->Prop),Inv X pins σ H s->b3C trs σ H Q ->
  wpAny (model X.prog X.w) X.A (evalPairs (pairTrees keys values X.env pos)) (fun vs s'=>∃ps H',Inv X pins σ H' s'/\VV ps vs/\Q ps H') X.xe s
theorem c0w:PPs X pos [] [] []:=fun pins s σ H Q I h=>pairTrees_nil_walk ⟨[],H,I,.nil,h⟩
theorem b8o{k v:Expr}{ks:List (Option Expr)}{vs:List Expr}{tk tv:TE}{trs:List (TE×TE)}(hk:PE X k tk)(hv:PE X v tv)(hr:PPs X pos ks vs trs) :
  PPs X pos (some k::ks) (v::vs) ((tk,tv)::trs):=fun pins s σ H Q I h=>
 pairTrees_cons_walk (thn (hk pins s σ H _ I h) fun u s1 ⟨x,H1,I1,rx,q1⟩=>thn (hv pins s1 σ H1 _ I1 q1) fun w2 s2 ⟨y,H2,I2,ry,q2⟩=>
  thn (hr pins s2 σ H2 _ I2 q2) fun ws s3 ⟨ps,H3,I3,rel,q3⟩=>⟨(x,y)::ps,H3,I3,.cons ⟨rx,ry⟩ rel,q3⟩)
def a6V(kvs more:List (Key×V)):List (Key×V):=more.foldl (fun acc kv=>a1r acc kv.1 kv.2) kvs
theorem KV.merge:∀ {more:List (Key×V)} {rs:List (Key×Value)} {kvs:List (Key×V)} {vs:List (Key×Value)},KV more rs->KV kvs vs->KV (a6V kvs more) (merged vs rs):=by
 intro more rs kvs vs r
 unfold KV at r
 induction r generalizing kvs vs with
 | nil=>intro q;exact q
 | @cons p q ps qs h t ih=>
  intro r0
  have e:KV (a1r kvs p.1 p.2) (stored vs q.1 q.2):=by
   have:=r0.put p.1 h.2
   rw[<-h.1];exact this
  exact ih e
theorem a4U:∀(more kvs:List (Key×V)),(a6V kvs more).length<=kvs.length+more.length
 | [],kvs=>by show kvs.length<=kvs.length+0;omega
 | p::r,kvs=>by
  have h1:=a4U r (a1r kvs p.1 p.2)
  have h2:=a4f kvs p.1 p.2
  show(a6V (a1r kvs p.1 p.2) r).length<=_
  rw[v7];omega
theorem a8R{P:u6}{w:World}:∀ {kvs:List (Key×V)} {ws:List (Value×Value)},VV (kvs.map fun kv=>(kV kv.1,kv.2)) ws->∃rs,Carries (M6 P w) ws rs/\KV kvs rs
 | [],_,r=>by rw[b5r]at r;cases r;exact⟨[],True.intro,.nil⟩
 | p::kvs,_,r=>by
  rw[E7]at r
  cases r with
  | @cons a b as bs h t=>
   obtain⟨rs,c,q⟩:=a8R (P:=P) (w:=w) t
   obtain⟨b1,b2⟩:=b
   exact⟨(p.1,b2)::rs,⟨b2J h.1,rfl,c⟩,.cons ⟨rfl,h.2⟩ q⟩
def b7I(trs:List (TE×TE)):TE:=fun σ H Q=>∀p,H p=none->b3C trs σ (upd H p (.dK [])) fun ps H2=>H2 p=some (.dK [])/\∃kvs:List (Key×V),ps=kvs.map (fun kv=>(kV kv.1,kv.2))/\kvs.length<=15/\Q (.ref p) (upd H2 p (.dK (a6V [] kvs)))
theorem c0F{keys:List (Option Expr)}{values:List Expr}{trs:List (TE×TE)}(h:PPs X pos keys values trs)(hall:keys.all (·.isSome)=true)(hl:keys.length=values.length)(h0:keys≠[])
  (h15:keys.length<=15):PE X (.Dict keys values pos) (b7I trs):=by
 intro pins s σ H Q I q
 have hn:=I.hok.fresh (d5 s.heap.objs.size)
 have I1:=I.laid (a:=s.heap.objs.size) (o:=.dK []) (h':=s.heap.push { cls:=.type "dict",data:=.dict #[] }) (t':=s.toks) (fun _ _ q=>c5 _ q) (d5 _) (b2Q s.heap I.big)
 refine wpAny_Dict_walk (knd:=M6 X.prog X.w) hall hl h0 h15 (thn (h pins _ σ _ _ I1 (q _ hn)) fun ws s2 ⟨ps,H2,I2,rel,e,kvs,ep,lk,q2⟩=>?_)
 subst ep
 obtain⟨rs,c,rk⟩:=a8R (P:=X.prog) (w:=X.w) rel
 obtain⟨z,hd,vs0,r0,dd⟩:=b5h I2.hok e
 cases r0
 refine⟨rs,c,dd,fun h' dd' hs=>⟨.ref s.heap.objs.size,_,?_,rfl,q2⟩⟩
 have hz:(a6V [] kvs).length<=j6:=by
  have h1:=a4U kvs []
  rw[a4N]at h1
  rw[sizeLine_eq];omega
 have he:∃q,h'.get? s.heap.objs.size=some q:=let⟨q,_,_,hq,_⟩:=dd'; ⟨q,hq⟩
 exact b1r I2 (by rw[e];exact True.intro) hs he (b9l hz hd (rk.merge .nil) dd')
structure M1(X:Cx)(o:Expr)(m:Str)(apos:Pos)(e:Expr)(cpos:Pos):Prop where
 base:Z6 o m X.env (eval o X.env)=eval o X.env
 few:((U1 cpos (d9 [e] X.env)).all (fun x => !x.1)&&(a4O cpos (a0s [] X.env)).all (fun x=>x.1.isSome)
  && decide (([e]:List Expr).length+([]:List b0l).length+(if([]:List b0l).isEmpty then 0 else 1)<30))=true
 line:(apos.endLine == cpos.line)=true
 trees:U1 cpos (d9 [e] X.env)=[(false,eval e X.env)]
structure M2(X:Cx)(o:Expr)(m:Str)(apos:Pos)(e f:Expr)(cpos:Pos):Prop where
 base:Z6 o m X.env (eval o X.env)=eval o X.env
 few:((U1 cpos (d9 [e,f] X.env)).all (fun x => !x.1)&&(a4O cpos (a0s [] X.env)).all (fun x=>x.1.isSome)
  && decide (([e,f]:List Expr).length+([]:List b0l).length+(if([]:List b0l).isEmpty then 0 else 1)<30))=true
 line:(apos.endLine == cpos.line)=true
 trees:U1 cpos (d9 [e,f] X.env)=[(false,eval e X.env),(false,eval f X.env)]
section
variable {d:V}{r:Value}{o:Option V}{A:E9}{E:Value->d3->Prop}
end
section
variable {o f:Expr}{apos cpos:Pos}{td ty tx:TE}
end
section
variable {A:E9}{E:Value->d3->Prop}
end
section
variable {A:E9}{E:Value->d3->Prop}
end
end L2
namespace HT
open PySem PyProof.Rows
section
open PySem.SeqAt
open PySem.AutoSeq1 (wpAny_loadPart')
open PySem.MeetsSeq PySem.MeetsSeq2 PySem.MeetsSeq3
end
section
variable {prog:u6}{w:World}{A:E9}{E:Value->d3->Prop}{s:d3}
def sIx(n d:Nat):Option Int->Nat
 | none=>d
 | some v=>if v<0 then (v+(n:Int)).toNat else min v.toNat n
theorem b0K(n d k:Nat):sIx n d (some (k:Int))=min k n:=by
 show(if(k:Int)<0 then ((k:Int)+(n:Int)).toNat else min (k:Int).toNat n)=min k n
 rw[if_neg (by omega),l5]
theorem c2K(n d:Nat)(hd:d<=n)(o:Option Int):sIx n d o<=n:=by
 cases o with
 | none=>exact hd
 | some v=>
  show(if v<0 then (v+(n:Int)).toNat else min v.toNat n)<=n
  by_cases hv:v<0
  ·rw[if_pos hv];omega
  ·rw[if_neg hv];exact Nat.min_le_right _ _
theorem b5m(v:Int)(n d:Nat):(if v<0 then max (v+(n:Int)) 0 else min v (n:Int))=((sIx n d (some v):Nat):Int):=by
 show(if v<0 then max (v+(n:Int)) 0 else min v (n:Int))=(((if v<0 then (v+(n:Int)).toNat else min v.toNat n):Nat):Int)
 by_cases hv:v<0
 ·simp only[if_pos hv];omega
 ·simp only[if_neg hv];omega
theorem b4E(lo hi:Option Int)(n:Nat):Builtin.Slice.sliceAdjust lo hi 1 (n:Int)=(((sIx n 0 lo:Nat):Int),((sIx n n hi:Nat):Int)):=by
 have h1:¬((1:Int)<0):=by omega
 unfold Builtin.Slice.sliceAdjust
 simp only[h1,if_false]
 refine Prod.ext ?_ ?_
 ·cases lo with
  | none=>rfl
  | some v=>exact b5m v n 0
 ·cases hi with
  | none=>rfl
  | some v=>exact b5m v n n
theorem b4a(i j:Nat):Builtin.Slice.slicePlaces (i:Int) (j:Int) 1=j - i:=by
 unfold Builtin.Slice.slicePlaces
 have h1:(1:Int) > 0:=by omega
 simp only[h1,if_true,Int.ediv_one]
 split <;> omega
theorem a8i{v:Value}{o:Option Int}{Q:Option Int->d3->Prop}(p:c1R v o)(h:Q o s):wpAny (model prog w) A (Builtin.Slice.slicePartIndex v) Q E s:=by
 cases p with
 | none=>exact slicePart_none h
 | int i t=>exact slicePart_int h
theorem a6C{sl:Addr}{vl vu:Value}{lo hi:Option Int}{n:Nat}{Q:Int×Int×Nat->d3->Prop}(hs:s.heap.IsSliceOf sl vl vu .none)(pl:c1R vl lo)(pu:c1R vu hi)
  (h:Q (((sIx n 0 lo:Nat):Int),1,sIx n n hi - sIx n 0 lo) s):wpAny (model prog w) A (Builtin.Slice.sliceApplied (.ref sl) (pure (n:Int))) Q E s:=by
 obtain⟨os,hos,hcs,hds⟩:=id hs
 unfold Builtin.Slice.sliceApplied Builtin.Slice.sliceFields
 refine a9 (a9 (c6g hos hds (x:=vl) rfl (a9 (c6g hos hds (x:=vu) rfl (a9 (c6g hos hds (x:=.none) rfl (c8 ?_)))))))
 refine a9 (slicePart_none ?_)
 show wpAny _ _ (if((1:Int) == 0)=true then _ else _) _ _ s
 rw[if_neg (by decide)]
 refine a9 (a8i pl (a9 (a8i pu (a9 (c8 ?_)))))
 show wpAny _ _ (match Builtin.Slice.sliceAdjust lo hi 1 (n:Int)with | (lo,hi)=>pure (lo,(1:Int),Builtin.Slice.slicePlaces lo hi 1)) _ _ s
 rw[b4E lo hi n]
 show wpAny _ _ (pure (((sIx n 0 lo:Nat):Int),(1:Int),Builtin.Slice.slicePlaces ((sIx n 0 lo:Nat):Int) ((sIx n n hi:Nat):Int) 1)) _ _ s
 rw[b4a]
 exact c8 h
theorem b8p(xs:Array Value)(i k:Nat):((A0 k).filterMap fun(m:Nat)=>xs[((i:Int)+(m:Int) * 1).toNat]?).toArray=((xs.toList.drop i).take k).toArray:=by
 have e:(fun(m:Nat)=>xs[((i:Int)+(m:Int) * 1).toNat]?)=fun m=>xs[i+m]?:=by
  funext m
  have:((i:Int)+(m:Int) * 1).toNat=i+m:=by omega
  rw[this]
 rw[e]
 have:=pick_run xs i k
 rw[List.filterMap_map]at this
 have e2:((fun x=>xs[x]?) ∘ fun x=>i+x)=fun m=>xs[i+m]?:=rfl
 rw[e2]at this
 rw[this]
theorem a6f{t sl:Addr}{items:Array Value}{vl vu:Value}{lo hi:Option Int}{Q:Value->d3->Prop}(ht:IsTup s.heap t items)(hs:s.heap.IsSliceOf sl vl vu .none)(pl:c1R vl lo)(pu:c1R vu hi)
  (hw:¬(sIx items.size 0 lo=0/\sIx items.size items.size hi=items.size))
  (h:Q (.ref s.heap.objs.size) { s with heap:=s.heap.push { cls:=.type "tuple",data:=.seq ((items.toList.drop (sIx items.size 0 lo)).take (sIx items.size items.size hi - sIx items.size 0 lo)).toArray } })
  (hsz:items.size<=j6):wpAny (model prog w) A (c2n (.ref t) (.ref sl)) Q E s:=by
 have htake:sizeOk (.seq ((items.toList.drop (sIx items.size 0 lo)).take (sIx items.size items.size hi - sIx items.size 0 lo)).toArray):=by
  show((items.toList.drop (sIx items.size 0 lo)).take (sIx items.size items.size hi - sIx items.size 0 lo)).toArray.size<=j6
  rw[g8,P5,a9e,z8]
  omega
 have hj:sIx items.size items.size hi<=items.size:=c2K _ _ (d5 _) hi
 obtain⟨os,hos,hcs,hds⟩:=id hs
 have hTs:s.TypeIs (.ref sl) "slice" := ⟨os,hos,hcs⟩
 unfold c2n
 try with_reducible refine V7 ?_
 first | refine a9 (c8 ?_) | skip
 refine a9 (wpAny_sequenceKey ht.typeIs (by decide) ?_)
 refine a9 (L7 (name:=Str.ofString "__getitem__") ht.typeIs a0q
  (K5 a0q ht.typeIs entry_tuple_getitem ?_ (args_tuple_getitem _ _)))
 show wpAny _ _ (Builtin.Tuple.tupleItemsOf (.ref t) >>= _) _ _ s
 refine a9 (tupleItemsOf_ ht ?_)
 refine a9 (c4G hTs ?_)
 rw[if_pos (by decide)]
 refine a9 (a6C hs pl pu ?_)
 have hno:¬((((sIx items.size 0 lo:Nat):Int) == 0&&(1:Int) == 1&&(sIx items.size items.size hi - sIx items.size 0 lo) == items.size)=true):=by
  intro q
  rw[M4,M4]at q
  have q1:((sIx items.size 0 lo:Nat):Int)=0:=eq_of_beq q.1.1
  have q2:sIx items.size items.size hi - sIx items.size 0 lo=items.size:=eq_of_beq q.2
  exact hw ⟨by omega,by omega⟩
 show wpAny _ _ (if(((sIx items.size 0 lo:Nat):Int) == 0&&(1:Int) == 1&&(sIx items.size items.size hi - sIx items.size 0 lo) == items.size)=true then _ else _) _ _ s
 rw[if_neg hno,b8p]
 first
  | exact a9 (m:=Builtin.Tuple.tupleExact _) (A6 (c8 ⟨_,rfl,c8 h⟩) htake)
  | exact a9 (m:=Builtin.Tuple.tupleExact _) (A6 (a9 (c8 (c8 ⟨_,rfl,c8 h⟩))) htake)
  | exact a9 (a9 (m:=Builtin.Tuple.tupleExact _) (A6 (c8 (c8 ⟨_,rfl,c8 h⟩)) htake))
  | exact a9 (a9 (m:=Builtin.Tuple.tupleExact _) (A6 (c8 ⟨_,rfl,c8 h⟩) htake))
end
end HT
namespace L2
open PySem PySem.Spec PyProof.Rows
variable{X:Cx}{n:Nat}{pins:List (Addr×Obj)}{σ:St}{H:Hp}{s:d3}{xs:List V}{us:List Value}
abbrev TO:=St->Hp->(Option Int->Hp->Prop)->Prop
def PO(X:Cx)(e:Option Expr)(t:TO):Prop:=
 ∀(pins:List (Addr×Obj)) (s:d3) (σ:St) (H:Hp) (Q:Option Int->Hp->Prop),Inv X pins σ H s->t σ H Q ->
  wpAny (model X.prog X.w) X.A (evalPart e X.env) (fun u s'=>∃o H',Inv X pins σ H' s'/\c1R u o/\Q o H') X.xe s
def a2R:TO:=fun _ H Q=>Q none H
def a8d(t:TE):TO:=fun σ H Q=>t σ H fun x H1=>∃i,x=.int i/\Q (some i) H1
section
variable {e:Expr}{te:TE}{lo hi:Option Expr}{tl th:TO}{pos p2:Pos}
theorem c0y:PO X none a2R:=by
 intro pins s σ H Q I h
 rw[evalPart_none]
 exact c8 ⟨none,H,I,.none,h⟩
theorem c0x(h:PE X e te):PO X (some e) (a8d te):=by
 intro pins s σ H Q I hw
 rw[evalPart_some]
 refine thn (h pins s σ H _ I hw) fun u s1 ⟨x,H1,I1,r1,q1⟩=>?_
 obtain⟨i,rfl,q⟩:=q1
 obtain⟨t,rfl⟩:=r1
 exact⟨some i,H1,I1,.int i t,q⟩
def SlR(X:Cx)(r:V->Option Int->Option Int->Hp->VK->Prop):Prop:=
 ∀(pins:List (Addr×Obj)) (s:d3) (σ:St) (H:Hp) (x:V) (v vl vu:Value) (lo hi:Option Int) (sl:Addr) (Q:VK),Inv X pins σ H s->C7 x v->s.heap.IsSliceOf sl vl vu .none->c1R vl lo->c1R vu hi->r x lo hi H Q ->
  ∃T id,typeLookup (.type T) "__getitem__" = pure (some (.builtin id))/\s.TypeIs v T/\wpAny (model X.prog X.w) X.A (c2n v (.ref sl)) (EP X pins σ Q) X.xe s
theorem SlR.or{r r':V->Option Int->Option Int->Hp->VK->Prop}(h:SlR X r)(h':SlR X r'):SlR X (fun x lo hi H Q=>r x lo hi H Q\/r' x lo hi H Q):=by
 intro pins s σ H x v vl vu lo hi sl Q I rx hs pl pu q
 rcases q with q | q
 ·exact h pins s σ H x v vl vu lo hi sl Q I rx hs pl pu q
 ·exact h' pins s σ H x v vl vu lo hi sl Q I rx hs pl pu q
def tSl(r:V->Option Int->Option Int->Hp->VK->Prop)(te:TE)(tl th:TO):TE:=fun σ H Q=>te σ H fun x H1=>tl σ H1 fun l H2=>th σ H2 fun u H3=>r x l u H3 Q
theorem b8r{r:V->Option Int->Option Int->Hp->VK->Prop}(hr:SlR X r)(he:PE X e te)(hl:PO X lo tl)(hu:PO X hi th):PE X (.Subscript e (.Slice lo hi none p2) pos) (tSl r te tl th):=by
 intro pins s σ H Q I h
 refine Subscript_ (thn (he pins s σ H _ I h) fun v s1 ⟨x,H1,I1,r1,q1⟩=>?_)
 refine wpAny_Slice (thn (hl pins s1 σ H1 _ I1 q1) fun vl s2 ⟨l,H2,I2,pl,q2⟩=>thn (hu pins s2 σ H2 _ I2 q2) fun vu s3 ⟨u,H3,I3,pu,q3⟩=>?_)
 rw[evalPart_none]
 refine c8 ?_
 have I4:Inv X pins σ H3 { s3 with heap:=s3.heap.push { cls:=.type "slice",data:=.fields #[vl,vu,.none] } }:=I3.kept (t':=s3.toks) fun b ob q=>c5 _ q
 obtain⟨T,id,hT,ht,hg⟩:=hr pins { s3 with heap:=s3.heap.push { cls:=.type "slice",data:=.fields #[vl,vu,.none] } } σ H3 x v vl vu l u s3.heap.objs.size Q I4 r1 (Heap.IsSliceOf.new ..) pl pu q3
 show wpAny (model X.prog X.w) X.A (subscriptTail e (.Slice lo hi none p2) v (.ref s3.heap.objs.size)) (EP X pins σ Q) X.xe { s3 with heap:=s3.heap.push { cls:=.type "slice",data:=.fields #[vl,vu,.none] } }
 exact tail_any (ops:=[.ref s3.heap.objs.size,v]) ht hT hg (by with_unfolding_all rfl)
def a5t(xs:List V)(lo hi:Option Int):List V:=(xs.drop (HT.sIx xs.length 0 lo)).take (HT.sIx xs.length xs.length hi - HT.sIx xs.length 0 lo)
theorem a7s(xs:List V)(lo hi:Option Int):(a5t xs lo hi).length<=xs.length:=by
 unfold a5t
 rw[P5,a9e]
 omega
def c6p(K:Fg):V->Option Int->Option Int->Hp->VK->Prop:=fun x lo hi H Q=>∃a xs,x=.ref a/\SqT K H a xs /\
 ¬(HT.sIx xs.length 0 lo=0/\HT.sIx xs.length xs.length hi=xs.length)/\∀p,H p=none->Q (.ref p) (upd H p (.tup (a5t xs lo hi)))
theorem c2t:SlR X (c6p X.K):=by
 intro pins s σ H x v vl vu lo hi sl Q I rx hs pl pu h
 obtain⟨a,xs,rfl,hx,hw,q⟩:=h
 cases rx
 obtain⟨its,r,ht,hz⟩:=I.tuple hx
 have hlen:its.toArray.size=xs.length:=by rw[g8];exact r.length.symm
 refine⟨"tuple",_,a0q.lookup,ht.typeIs,?_⟩
 refine HT.a6f ht hs pl pu (by rw[hlen];exact hw) ?_ (by rw[hlen];exact hz)
 rw[hlen]
 refine⟨.ref s.heap.objs.size,_,I.laid (t':=s.toks) (o:=.tup (a5t xs lo hi)) (fun b ob q=>c5 _ q) (d5 _) ?_,rfl,q _ (I.hok.fresh (d5 _))⟩
 exact⟨E3 (a7s xs lo hi) hz,_,(r.drop (HT.sIx xs.length 0 lo)).take (HT.sIx xs.length xs.length hi - HT.sIx xs.length 0 lo),IsTup.new _ _⟩
end
def ixN(n:Nat)(i:Int):Option Nat:=if 0<=i then (if i<n then some i.toNat else none)else if -(n:Int)<=i then some (i+n).toNat else none
def atI{α:Type}(xs:List α)(i:Int):Option α:=(ixN xs.length i).bind fun j=>xs[j]?
theorem b5c{i:Int}{j:Nat}(h:ixN n i=some j):seqIndex? i n=some j/\j<n /\ -(n:Int)<=i/\i<n:=by
 unfold ixN at h
 by_cases h0:0<=i
 ·rw[if_pos h0]at h
  by_cases h1:i<n
  ·rw[if_pos h1]at h
   have e:i.toNat=j:=Option.some.inj h
   exact⟨by rw[c6h h0 h1,e],by omega,by omega,h1⟩
  ·rw[if_neg h1]at h;cases h
 ·rw[if_neg h0]at h
  by_cases h1 : -(n:Int)<=i
  ·rw[if_pos h1]at h
   have e:(i+n).toNat=j:=Option.some.inj h
   exact⟨by rw[c4J (by omega) h1,e],by omega,h1,by omega⟩
  ·rw[if_neg h1]at h;cases h
theorem b1A{α:Type}{xs:List α}{i:Int}{v:α}(h:atI xs i=some v):∃j,seqIndex? i xs.length=some j/\xs[j]? = some v/\j<xs.length /\ -(xs.length:Int)<=i/\i<xs.length:=by
 unfold atI at h
 cases e:ixN xs.length i with
 | none=>rw[e]at h;cases h
 | some j=>
  rw[e]at h
  obtain⟨h1,h2,h3,h4⟩:=b5c e
  exact⟨j,h1,h,h2,h3,h4⟩
theorem a1t{α:Type}{xs:List α}{j:Nat}{v:α}(h:xs[j]? = some v):atI xs (j:Int)=some v:=by
 have hj:j<xs.length:=(l7.mp h).1
 have e:ixN xs.length (j:Int)=some j:=by
  unfold ixN
  rw[if_pos (by omega),if_pos (by omega)];simp
 unfold atI;rw[e];exact h
def b1E(b:Expr):Prop:=∀o i,subscripted b false o i=operate [o,i] (c2n o i)
def IxR(X:Cx)(r:R2):Prop:=
 ∀(value slice:Expr) (pins:List (Addr×Obj)) (s:d3) (σ:St) (H:Hp) (x y:V) (v u:Value) (Q:VK),Inv X pins σ H s->C7 x v->C7 y u->r x y H Q ->
  subscripted slice false v u=operate [v,u] (c2n v u)->wpAny (model X.prog X.w) X.A (subscriptTail value slice v u) (EP X pins σ Q) X.xe s
def MtR(X:Cx)(id:String)(r:V->List V->Hp->VK->Prop):Prop:=
 ∀(pins:List (Addr×Obj)) (s:d3) (σ:St) (H:Hp) (x:V) (xs:List V) (v:Value) (us:List Value) (Q:VK),Inv X pins σ H s->C7 x v->D6 xs us->r x xs H Q ->
  wpAny (model X.prog X.w) X.A (call (.builtin id) (v::us)) (EP X pins σ Q) X.xe s
section
variable {a b:Expr}{ta tb:TE}{pos:Pos}
theorem IxR.or{r r':R2}(h:IxR X r)(h':IxR X r'):IxR X (fun x y H Q=>r x y H Q\/r' x y H Q):=by
 intro value slice pins s σ H x y v u Q I rx ry q hs
 rcases q with q | q
 ·exact h value slice pins s σ H x y v u Q I rx ry q hs
 ·exact h' value slice pins s σ H x y v u Q I rx ry q hs
theorem c5z{r:R2}(hr:IxR X r)(ha:PE X a ta)(hb:PE X b tb)(hs:b1E b):PE X (.Subscript a b pos) (tOp r ta tb):=by
 intro pins s σ H Q I h
 exact Subscript_ (c4l ha hb I h fun v u s2 x y H2 I2 rx ry q=>hr a b pins s2 σ H2 x y v u Q I2 rx ry q (hs _ _))
def c5h(K:Fg):R2:=fun x y H Q=>∃p xs i v,x=.ref p/\y=.int i/\SqL K H p xs/\atI xs i=some v/\Q v H
def c5f(K:Fg):R2:=fun x y H Q=>∃p xs i v,x=.ref p/\y=.int i/\SqT K H p xs/\atI xs i=some v/\Q v H
def c5g:R2:=fun x y H Q=>∃z i c,x=.str z/\y=.int i/\z.length<=j6/\atI z.cps.toList i=some c/\Q (.str ⟨#[c]⟩) H
theorem c1p:IxR X (c5h X.K):=by
 intro value slice pins s σ H x y v u Q I rx ry h hs
 obtain⟨p,xs,i,z,rfl,rfl,hq,he,q⟩:=h
 cases rx
 obtain⟨t,rfl⟩:=ry
 obtain⟨its,r,pl,hz⟩:=I.list hq
 obtain⟨j,h1,h2,h3,h4,h5⟩:=b1A he
 obtain⟨w,ew,rw'⟩:=r.get h2
 have hl:=r.length
 have hn:=a5r
 have fin:EP X pins σ Q w s:=⟨z,H,I,rw',q⟩
 by_cases h0:0<=i
 ·have hj:i.toNat=j:=by
   rw[c6h h0 h5]at h1
   exact Option.some.inj h1
  exact item_listR pl.isList h0 (by omega) (by rw[hj];simpa using ew) fin hs
 ·have hj:(i+(its.toArray.size:Int)).toNat=j:=by
   rw[c4J (by omega) h4]at h1
   rw[g8,<-hl]
   exact Option.some.inj h1
  exact c4E (x:=w) pl.isList.typeIs slot_list_getitem.lookup
   (wpAny_getItem_list_neg (Q:=fun r s'=>r=w/\EP X pins σ Q r s') pl.isList (by omega) (by rw[g8] <;> omega) (by omega) (by rw[hj];simpa using ew) ⟨rfl,fin⟩) hs
theorem c4d:IxR X (c5f X.K):=by
 intro value slice pins s σ H x y v u Q I rx ry h hs
 obtain⟨p,xs,i,z,rfl,rfl,hq,he,q⟩:=h
 cases rx
 obtain⟨t,rfl⟩:=ry
 obtain⟨its,r,pl,hz⟩:=I.tuple hq
 obtain⟨j,h1,h2,h3,h4,h5⟩:=b1A he
 obtain⟨w,ew,rw'⟩:=r.get h2
 have hl:=r.length
 have hn:=a5r
 have fin:EP X pins σ Q w s:=⟨z,H,I,rw',q⟩
 exact c4E (x:=w) pl.typeIs slot_tuple_getitem.lookup
  (getItem_tuple (j:=j) (Q:=fun r s'=>r=w/\EP X pins σ Q r s') pl (by omega) (by omega) (by rw[g8,<-hl];exact h1) (by simpa using ew) ⟨rfl,fin⟩) hs
theorem c4e:IxR X c5g:=by
 intro value slice pins s σ H x y v u Q I rx ry h hs
 obtain⟨z,i,c,rfl,rfl,hz,he,q⟩:=h
 obtain⟨t,rfl⟩:=rx
 obtain⟨t',rfl⟩:=ry
 obtain⟨j,h1,h2,h3,h4,h5⟩:=b1A he
 have hl:z.cps.toList.length=z.length:=by simp[Str.length]
 rw[hl]at h1 h4 h5
 have hn:=a5r
 exact tail_any (typeIs_str s z t) slot_str_getitem.lookup (getItem_str (c:=c) (by
  have e1:decide (i < -(2 ^ 63:Int))=false:=c7H (by omega)
  have e2:decide (i ≥ 2 ^ 63)=false:=c7H (by omega)
  rw[e1,e2,c5V]) (by rw[h1];simpa using h2) ⟨.str ⟨#[c]⟩,H,I.tok _,⟨_,rfl⟩,q⟩) hs
def rIx(K:Fg):R2:=fun x y H Q=>c5h K x y H Q\/c5f K x y H Q\/c5g x y H Q
theorem c4f:IxR X (rIx X.K):=c1p.or (c4d.or c4e)
theorem b4n(its:List Value)(n j:Nat)(u:Value):Obj.mapSeq (·.setIfInBounds j u) { cls:=.type "list",data:=.seq its.toArray n }={ cls:=.type "list",data:=.seq (its.set j u).toArray n }:=by
 simp[Obj.mapSeq]
theorem Inv.lst{pins:List (Addr×Obj)}{σ:St}{H:Hp}{s:d3}{p:Addr}{xs:List V}(I:Inv X pins σ H s)(h:H p=some (.lst xs)) :
  ∃(its:List Value) (n:Nat),D6 xs its/\s.heap.get? p=some { cls:=.type "list",data:=.seq its.toArray n }/\xs.length<=j6:=by
 obtain⟨z,its,n,r,e⟩:=I.hok p _ h
 exact⟨its,n,r,e,z⟩
theorem Inv.lstUpd{p:Addr}{ys:List V}{its its':List Value}{n':Nat}{f:Obj->Obj}(I:Inv X pins σ H s)(h:H p=some (.lst xs))
  (ho:s.heap.get? p=some { cls:=.type "list",data:=.seq its.toArray n }) (hf:f { cls:=.type "list",data:=.seq its.toArray n }={ cls:=.type "list",data:=.seq its'.toArray n' }) (r:D6 ys its') (hz:ys.length<=j6) (t:Nat) :
  Inv X pins σ (upd H p (.lst ys)) { s with heap:=s.heap.update p f,toks:=t }:=by
 have e:(s.heap.update p f).get? p=some { cls:=.type "list",data:=.seq its'.toArray n' }:=by
  rw[L6 f ho (by rw[hf] <;> rfl),hf]
 refine I.write (x:=p) (e:=p) (by rw[h];trivial) (.inl rfl) (fun b u hb q=>(a1e _ _ (Ne.symm hb)).trans q) ⟨_,e⟩ ?_
 exact⟨hz,its',n',r,e⟩
def c5e:V->V->V->Hp->(Hp->Prop)->Prop:=fun o i v H Q=>∃p xs k j,o=.ref p/\i=.int k/\H p=some (.lst xs)/\ixN xs.length k=some j/\Q (upd H p (.lst (xs.set j v)))
theorem b7N:b9w X c5e:=by
 intro pins s σ H o i v ov iv u Q I ro ri rv h
 obtain⟨p,xs,k,j,rfl,rfl,hp,hj,q⟩:=h
 cases ro
 obtain⟨t,rfl⟩:=ri
 obtain⟨its,n,r,ho,hz⟩:=I.lst hp
 obtain⟨h1,h2,h3,h4⟩:=b5c hj
 have hl:=r.length
 have hn:=a5r
 have I':Inv X pins σ (upd H p (.lst (xs.set j v))) { s with heap:=s.heap.update p (Obj.mapSeq (·.setIfInBounds j u)) }:=
  I.lstUpd hp ho (b4n its n j u) (r.set rv j) (by rw[a0J];exact hz) s.toks
 by_cases h0:0<=k
 ·have hk:k.toNat=j:=by
   rw[c6h h0 h4]at h1
   exact Option.some.inj h1
  exact PySem.W.ki_setAt ho h0 (by omega) (by rw[g8,<-hl];exact h4) (by rw[hk];exact⟨_,I',q⟩)
 ·have hk:(k+(its.toArray.size:Int)).toNat=j:=by
   rw[c4J (by omega) h3]at h1
   rw[g8,<-hl]
   exact Option.some.inj h1
  exact PySem.W.ki_setBack ho (by omega) (by rw[g8,<-hl];exact h3) (by omega) (by rw[hk];exact⟨_,I',q⟩)
theorem b0y(lo hi:Option Int)(n:Nat):(a3F lo hi none n).1=((HT.sIx n 0 lo:Nat):Int)/\(a3F lo hi none n).2.1=((HT.sIx n n hi:Nat):Int)/\(a3F lo hi none n).2.2=1:=by
 refine⟨?_,?_,rfl⟩
 ·cases lo with
  | none=>simp[a3F,HT.sIx]
  | some i=>
   simp only[a3F,HT.sIx,b9I,show(1:Int) > 0 by decide,if_true]
   by_cases h:i<0
   ·simp only[h,if_true] <;> omega
   ·simp only[h,if_false] <;> omega
 ·cases hi with
  | none=>simp[a3F,HT.sIx]
  | some i=>
   simp only[a3F,HT.sIx,b9I,show(1:Int) > 0 by decide,if_true]
   by_cases h:i<0
   ·simp only[h,if_true] <;> omega
   ·simp only[h,if_false] <;> omega
theorem a9j(its:List Value)(lo hi:Option Int):slicePick its.toArray lo hi none=((its.drop (HT.sIx its.length 0 lo)).take (HT.sIx its.length its.length hi - HT.sIx its.length 0 lo)).toArray:=by
 obtain⟨h1,h2,h3⟩:=b0y lo hi its.toArray.size
 unfold slicePick
 rw[h1,h2,h3]
 simp only[sliceRange_one,pick_run,g8] <;> rfl
def c2M(K:Fg):V->Option Int->Option Int->Hp->VK->Prop:=fun x lo hi H Q=>∃a xs,x=.ref a/\SqL K H a xs/\∀p,H p=none->Q (.ref p) (upd H p (.lst (a5t xs lo hi)))
theorem b4Q:SlR X (c2M X.K):=by
 intro pins s σ H x v vl vu lo hi sl Q I rx hs pl pu h
 obtain⟨a,xs,rfl,hx,q⟩:=h
 cases rx
 obtain⟨its,r,ht,hz⟩:=I.list hx
 have hlen:=r.length
 refine⟨"list",_,slot_list_getitem.lookup,ht.isList.typeIs,?_⟩
 refine wpAny_getItem_list_slice ht.isList hs pl pu .none (by simp) ?_ (by rw[g8] <;> omega)
 rw[a9j,<-hlen]
 refine⟨.ref s.heap.objs.size,_,I.laid (t':=s.toks) (o:=.lst (a5t xs lo hi)) (fun b ob q=>c5 _ q) (d5 _) ?_,rfl,q _ (I.hok.fresh (d5 _))⟩
 exact⟨E3 (a7s xs lo hi) hz,_,0,(r.drop (HT.sIx xs.length 0 lo)).take (HT.sIx xs.length xs.length hi - HT.sIx xs.length 0 lo),h9 _ rfl⟩
def J0:V->Bool
 | .non=>true
 | .bl _=>true
 | .int _=>true
 | .str _=>true
 | _=>false
def eqV:V->V->Bool
 | .non,.non=>true
 | .bl a,.bl b=>a == b
 | .bl a,.int b=>(if a then 1 else 0) == b
 | .int a,.bl b=>a == (if b then 1 else 0)
 | .int a,.int b=>a == b
 | .str a,.str b=>a == b
 | _,_=>false
theorem b4A{A:E9}{y x:V}{u v:Value}(ry:C7 y u)(rx:C7 x v)(fy:J0 y=true)(fx:J0 x=true):SeqAt.EqAt A s u v (eqV y x):=by
 cases y with
 | non=>
  cases ry
  cases x with
  | non=>cases rx;exact SeqAt.EqAt.same _
  | bl b=>cases rx;exact SeqAt.EqAt.none_bool b
  | int b=>obtain⟨t,rfl⟩:=rx;exact SeqAt.EqAt.none_int b t
  | str b=>obtain⟨t,rfl⟩:=rx;exact SeqAt.EqAt.none_str b t
  | _=>exact absurd (show false=true from fx) l9
 | bl a=>
  cases ry
  cases x with
  | non=>cases rx;exact SeqAt.EqAt.bool_none a
  | bl b=>cases rx;exact SeqAt.EqAt.bool_bool a b
  | int b=>obtain⟨t,rfl⟩:=rx;exact SeqAt.EqAt.bool_int a b t
  | str b=>obtain⟨t,rfl⟩:=rx;exact SeqAt.EqAt.bool_str a b t
  | _=>exact absurd (show false=true from fx) l9
 | int a=>
  obtain⟨t',rfl⟩:=ry
  cases x with
  | non=>cases rx;exact SeqAt.EqAt.int_none a t'
  | bl b=>cases rx;exact SeqAt.EqAt.int_bool a t' b
  | int b=>obtain⟨t,rfl⟩:=rx;exact SeqAt.EqAt.int_int a t' b t
  | str b=>obtain⟨t,rfl⟩:=rx;exact SeqAt.EqAt.int_str a t' b t
  | _=>exact absurd (show false=true from fx) l9
 | str a=>
  obtain⟨t',rfl⟩:=ry
  cases x with
  | non=>cases rx;exact SeqAt.EqAt.str_none a t'
  | bl b=>cases rx;exact SeqAt.EqAt.str_bool a t' b
  | int b=>obtain⟨t,rfl⟩:=rx;exact SeqAt.EqAt.str_int a t' b t
  | str b=>obtain⟨t,rfl⟩:=rx;exact SeqAt.EqAt.str_str a t' b t
  | _=>exact absurd (show false=true from fx) l9
 | _=>exact absurd (show false=true from fy) l9
def eqU(x:V)(u:Value):Bool:=match u with
 | .none=>eqV .non x
 | .bool b=>eqV (.bl b) x
 | .int i _=>eqV (.int i) x
 | .str z _=>eqV (.str z) x
 | _=>false
theorem b9g{x y:V}{u:Value}(r:C7 y u)(f:J0 y=true):eqU x u=eqV y x:=by
 cases y with
 | non=>cases r;rfl
 | bl b=>cases r;rfl
 | int i=>obtain⟨t,rfl⟩:=r;rfl
 | str z=>obtain⟨t,rfl⟩:=r;rfl
 | _=>exact absurd (show false=true from f) l9
theorem a6k{x:V}:∀ {xs:List V} {us:List Value},D6 xs us->xs.all J0=true->us.any (eqU x)=xs.any fun y=>eqV y x
 | _,_,.nil,_=>rfl
 | y::xs,u::us,.cons r t,f=>by
  rw[b3o,M4]at f
  rw[Y5,Y5,b9g r f.1,a6k t f.2]
theorem a4e{A:E9}{x:V}{v:Value}(rx:C7 x v)(fx:J0 x=true):∀ {xs:List V} {us:List Value},D6 xs us->xs.all J0=true->∀u∈us,SeqAt.EqAt A s u v (eqU x u)
 | _,_,.nil,_=>fun u hu=>by cases hu
 | y::xs,u::us,.cons r t,f=>fun u' hu=>by
  rw[b3o,M4]at f
  rcases g6.mp hu with rfl | hu
  ·rw[b9g r f.1];exact b4A r rx f.1 fx
  ·exact a4e rx fx t f.2 u' hu
def inV(x:V)(xs:List V):Bool:=xs.any fun y=>eqV y x
def rIn(K:Fg)(neg:Bool):R2:=fun x y H Q=>∃p xs,y=.ref p/\(SqL K H p xs\/SqT K H p xs)/\J0 x=true/\xs.all J0=true/\Q (.bl (if neg then !inV x xs else inV x xs)) H
theorem a9S:OpR X (p5 .In) (rIn X.K false):=by
 intro pins s σ H x y v u Q I rx ry h
 obtain⟨p,xs,rfl,hq,fx,fs,q⟩:=h
 cases ry
 rcases hq with hq | hq
 ·obtain⟨its,r,pl,hz⟩:=I.list hq
  refine SeqAt.in_listAt (eqU x) pl.isList (fun w hw=>a4e rx fx r fs w (by simpa using hw)) ⟨.bl _,H,I,rfl,?_⟩
  rw[show its.toArray.any (eqU x)=its.any (eqU x) by simp,a6k r fs]
  exact q
 ·obtain⟨its,r,pl,hz⟩:=I.tuple hq
  refine SeqAt.in_tupleAt (eqU x) pl (fun w hw=>a4e rx fx r fs w (by simpa using hw)) ⟨.bl _,H,I,rfl,?_⟩
  rw[show its.toArray.any (eqU x)=its.any (eqU x) by simp,a6k r fs]
  exact q
theorem b0Z:OpR X (p5 .NotIn) (rIn X.K true):=by
 intro pins s σ H x y v u Q I rx ry h
 obtain⟨p,xs,rfl,hq,fx,fs,q⟩:=h
 cases ry
 rcases hq with hq | hq
 ·obtain⟨its,r,pl,hz⟩:=I.list hq
  refine SeqAt.notIn_listAt (eqU x) pl.isList (fun w hw=>a4e rx fx r fs w (by simpa using hw)) ⟨.bl _,H,I,rfl,?_⟩
  rw[show its.toArray.any (eqU x)=its.any (eqU x) by simp,a6k r fs]
  exact q
 ·obtain⟨its,r,pl,hz⟩:=I.tuple hq
  refine SeqAt.notIn_tupleAt (eqU x) pl (fun w hw=>a4e rx fx r fs w (by simpa using hw)) ⟨.bl _,H,I,rfl,?_⟩
  rw[show its.toArray.any (eqU x)=its.any (eqU x) by simp,a6k r fs]
  exact q
theorem b0Y:OpR X (p5 .NotIn) (fun x y H Q=>∃i j,x=.str i/\y=.str j/\Q (.bl (!(!(Builtin.Str.occurrences j i 0 j.length 1).isEmpty))) H):=by
 intro pins s σ H x y v u Q I rx ry h
 obtain⟨i,j,rfl,rfl,q⟩:=h
 obtain⟨t,rfl⟩:=rx
 obtain⟨t',rfl⟩:=ry
 exact notIn_str ⟨.bl _,H,I,rfl,q⟩
theorem b1x:U3 X (.builtin "len") (fun xs H Q=>∃p ys,xs=[.ref p]/\(SqL X.K H p ys\/SqT X.K H p ys)/\Q (.int ys.length) H):=by
 intro pins s σ H xs us Q I r h
 obtain⟨p,ys,rfl,hq,q⟩:=h
 obtain⟨u,rfl,rx⟩:=a4Q r
 cases rx
 have hn:=a5r
 rcases hq with hq | hq
 ·obtain⟨its,r',pl,hz⟩:=I.list hq
  have hlen:=r'.length
  exact Calls.call_len_list pl.isList (by simp only[g8] <;> omega) ⟨.int ys.length,H,I.tok _,⟨s.toks+1,by rw[g8,hlen]⟩,q⟩
 ·obtain⟨its,r',pl,hz⟩:=I.tuple hq
  have hlen:=r'.length
  exact len_tuple pl (by simp only[g8] <;> omega) ⟨.int ys.length,H,I.tok _,⟨s.toks+1,by rw[g8,hlen]⟩,q⟩
theorem b1w:U3 X (.builtin "len") (fun xs H Q=>∃z,xs=[.str z]/\z.length<=j6/\Q (.int z.length) H):=by
 intro pins s σ H xs us Q I r h
 obtain⟨z,rfl,hz,q⟩:=h
 obtain⟨u,rfl,t,rfl⟩:=a4Q r
 have hn:=a5r
 exact len_str (by omega) ⟨.int z.length,H,I.tok _,⟨_,rfl⟩,q⟩
theorem U3.or{f:Value}{r r':List V->Hp->VK->Prop}(h:U3 X f r)(h':U3 X f r'):U3 X f (fun xs H Q=>r xs H Q\/r' xs H Q):=by
 intro pins s σ H xs us Q I rs q
 rcases q with q | q
 ·exact h pins s σ H xs us Q I rs q
 ·exact h' pins s σ H xs us Q I rs q
theorem b1v:U3 X (.type "list") (fun xs H Q=>∃p ys,xs=[.ref p]/\(SqL X.K H p ys\/SqT X.K H p ys)/\∀l,H l=none->Q (.ref l) (upd H l (.lst ys))):=by
 intro pins s σ H xs us Q I r h
 obtain⟨p,ys,rfl,hq,q⟩:=h
 obtain⟨u,rfl,rx⟩:=a4Q r
 cases rx
 have fin:∀(its:List Value),D6 ys its->ys.length<=j6->∀(h':Heap) (c':Nat),(∀b o',s.heap.get? b=some o'->h'.get? b=some o') ->
   h'.get? s.heap.objs.size=some { cls:=.type "list",dict:=none,data:=.seq its.toArray c',slots := #[] }->EP X pins σ Q (.ref s.heap.objs.size) { s with heap:=h' }:=fun its r' hz h' c' kp e=>
  ⟨.ref s.heap.objs.size,_,I.laid (t':=s.toks) kp (d5 _) (show U0 X.prog X.w _ h' _ (.lst ys)from⟨hz,its,c',r',e⟩),rfl,q _ (I.hok.fresh (d5 _))⟩
 rcases hq with hq | hq
 ·obtain⟨its,r',pl,hz⟩:=I.list hq
  have hlen:=r'.length
  obtain⟨o,ho,hc,n,hd⟩:=pl.isList
  exact call_list_seq p (.inl rfl) ho hc hd (fun h' c' kp e=>fin its r' hz h' c' kp e) (by simp only[g8] <;> omega)
 ·obtain⟨its,r',pl,hz⟩:=I.tuple hq
  have hlen:=r'.length
  obtain⟨o,ho,hc,n,hd⟩:=pl
  exact call_list_seq p (.inr rfl) ho hc hd (fun h' c' kp e=>fin its r' hz h' c' kp e) (by simp only[g8] <;> omega)
def tyV(K:Fg)(T:String)(x:V)(H:Hp):Prop:=match x with
 | .str _=>T = "str"
 | .int _=>T = "int"
 | .ref p=>(T = "list" /\ ∃xs,SqL K H p xs)\/(T = "tuple" /\ ∃o,K.lookup p=some o/\o.cls=.type "tuple" /\ o.dict=none) \/
   (T = "dict" /\ ((∃kvs,H p=some (.dK kvs))\/∃kvs,H p=some (.dT kvs)))\/(T = "set" /\ ∃S n,H p=some (.set S n))
 | _=>False
theorem b7A{T:String}{x:V}{v:Value}(I:Inv X pins σ H s)(r:C7 x v)(ty:tyV X.K T x H) :
  s.TypeIs v T/\∀a,v=.ref a->∃ob,s.heap.get? a=some ob/\ob.dict=none:=by
 cases x with
 | str z=>
  obtain⟨t,rfl⟩:=r
  cases (show T = "str" from ty)
  exact⟨typeIs_str s z t,fun _ e=>nomatch e⟩
 | int i=>
  obtain⟨t,rfl⟩:=r
  cases (show T = "int" from ty)
  exact⟨typeIs_int s i t,fun _ e=>nomatch e⟩
 | ref p=>
  cases r
  rcases ty with ⟨rfl,xs,hq⟩ | ⟨rfl,o,hk,hc,hd⟩ | ⟨rfl,hk⟩ | ⟨rfl,S,n,hk⟩
  ·obtain⟨its,_,pl,_⟩:=I.list hq
   refine⟨pl.isList.typeIs,fun a e=>?_⟩
   cases e
   obtain⟨o,n,e,c,hd,_⟩:=pl
   exact⟨o,e,hd⟩
  ·refine⟨⟨o,I.kIn p o hk,hc⟩,fun a e=>?_⟩
   cases e
   exact⟨o,I.kIn _ o hk,hd⟩
  ·have z:∃o,s.heap.get? p=some o/\o.ExactDict:=by
    rcases hk with ⟨kvs,hk⟩ | ⟨kvs,hk⟩
    ·obtain⟨_,_,_,_,o,_,_,e,ex,_⟩:=I.hok p _ hk
     exact⟨o,e,ex⟩
    ·obtain⟨_,_,_,_,o,_,_,e,ex,_⟩:=I.hok p _ hk
     exact⟨o,e,ex⟩
   obtain⟨o,e,ex⟩:=z
   refine⟨⟨o,e,ex.1⟩,fun a e2=>?_⟩
   cases e2
   exact⟨o,e,ex.2.1⟩
  ·obtain⟨o,_,_,_,e,ex,_⟩:=I.hok p _ hk
   refine⟨⟨o,e,ex.1⟩,fun a e2=>?_⟩
   cases e2
   exact⟨o,e,ex.2.1⟩
 | _=>exact False.elim ty
def b9W(K:Fg)(T:String)(r:V->List V->Hp->VK->Prop)(to:TE):TE:=fun σ H Q=>to σ H fun x H1=>tyV K T x H1/\r x [] H1 Q
def tBM(K:Fg)(T:String)(r:V->List V->Hp->VK->Prop)(to:TE)(t:TA):TE:=fun σ H Q=>to σ H fun x H1=>tyV K T x H1/\t σ H1 fun xs H2=>r x xs H2 Q
variable {o e:Expr}{es:List Expr}{to:TE}{t:TA}{name:Str}{apos cpos:Pos}{T id:String}{r:V->List V->Hp->VK->Prop}
theorem c3x(pa:c1Q T)(slot:Slot T name id)(hty:typeOf (.builtin id)=pure (.type "method_descriptor"))(hm:MtR X id r)(ho:PE X o to)
  (hbase:Z6 o name X.env (eval o X.env)=eval o X.env:=by rfl) (hline:(apos.endLine == cpos.line)=true:=by rfl):PE X (.Call (.Attribute o name apos) [] [] cpos) (b9W X.K T r to):=by
 intro pins s σ H Q I h
 refine wpAny_Call_method0_late hbase hline (thn (ho pins s σ H _ I h) fun v s1 ⟨x,H1,I1,r1,ty,q1⟩=>?_)
 obtain⟨h1,h2⟩:=b7A I1 r1 ty
 exact⟨T,id,pa,slot,hty,h1,h2,Calls.callWith_builtin rfl (PySem.evalArgs_none (hm pins s1 σ H1 x [] v [] Q I1 r1 .nil q1))⟩
theorem c5A(pa:c1Q T)(slot:Slot T name id)(hty:typeOf (.builtin id)=pure (.type "method_descriptor"))(hm:MtR X id r)(ho:PE X o to)(ha:PA X (e::es) t)
  (hbase:Z6 o name X.env (eval o X.env)=eval o X.env:=by rfl)
  (hfew:((U1 cpos (d9 (e::es) X.env)).all (fun x => !x.1)&&(a4O cpos (a0s [] X.env)).all (fun x=>x.1.isSome)
   && decide ((e::es).length+([]:List b0l).length+(if([]:List b0l).isEmpty then 0 else 1)<30))=true:=by rfl)
  (hline:(apos.endLine == cpos.line)=true:=by rfl) (hs:d9 (e::es) X.env=(false,eval e X.env)::d9 es X.env:=by rfl) (hplain:(U1 cpos (d9 es X.env)).any (·.1)=false:=by rfl) :
  PE X (.Call (.Attribute o name apos) (e::es) [] cpos) (tBM X.K T r to t):=by
 intro pins s σ H Q I h
 refine wpAny_Call_method_late hbase hfew hline rfl (thn (ho pins s σ H _ I h) fun v s1 ⟨x,H1,I1,r1,ty,q1⟩=>?_)
 obtain⟨h1,h2⟩:=b7A I1 r1 ty
 refine⟨T,id,pa,slot,hty,h1,h2,?_⟩
 have hA:=ha cpos pins s1 σ H1 _ I1 q1
 rw[hs]at hA ⊢
 refine Calls.callWith_builtin (by show(false||(U1 cpos (d9 es X.env)).any (·.1))=false;rw[hplain] <;> rfl) (Calls.evalArgs_plain ?_)
 exact thn hA fun us s2 ⟨vs,H2,I2,r2,q2⟩=>hm pins s2 σ H2 x vs v us Q I2 r1 r2 q2
end
def MtM(X:Cx)(id:String)(r:V->List V->Hp->VK->Prop):Prop:=
 ∀(pins:List (Addr×Obj)) (s:d3) (σ:St) (H:Hp) (x:V) (xs:List V) (v:Value) (us:List Value) (Q:VK),Inv X pins σ H s->C7 x v->D6 xs us->r x xs H Q ->
  wpAny (model X.prog X.w) X.A (call (.builtin id) (v::us)) (EP X pins σ Q) X.xe s
theorem D6.one:∀ {x:V} {us:List Value},D6 [x] us->∃u,us=[u]/\C7 x u
 | _,_,.cons r .nil=>⟨_,rfl,r⟩
theorem D6.zero:∀ {us:List Value},D6 [] us->us=[]
 | _,.nil=>rfl
theorem D6.dropLast(h:D6 xs us):D6 xs.dropLast us.dropLast:=by
 induction h with
 | nil=>exact .nil
 | cons r t ih=>
  cases t with
  | nil=>exact .nil
  | cons q t'=>exact .cons r ih
theorem b4z{α:Type}(l:List α):l.eraseIdx (l.length - 1)=l.dropLast:=by
 induction l with
 | nil=>rfl
 | cons a r ih=>
  cases r with
  | nil=>rfl
  | cons b r=>
   have e:(a::b::r).length - 1=((b::r).length - 1)+1:=by
    have h1:(a::b::r).length=r.length+2:=rfl
    have h2:(b::r).length=r.length+1:=rfl
    omega
   rw[e,List.eraseIdx_cons_succ,ih]
   all_goals rfl
section
variable {l b:Addr}{ys zs:List V}
theorem Inv.lset{its its':List Value}{f:Array Value->Array Value}{t':Nat}(I:Inv X pins σ H s)(hH:H l=some (.lst xs))
  (e:s.heap.get? l=some { cls:=.type "list",data:=.seq its.toArray n }) (hf:f its.toArray=its'.toArray) (hv:D6 ys its') (hz:ys.length<=j6) :
  Inv X pins σ (upd H l (.lst ys)) { s with heap:=s.heap.update l (Obj.mapSeq f),toks:=t' }:=by
 have q:=PySem.IsL.update e f
 rw[hf]at q
 refine I.write (x:=l) (e:=l) (by rw[hH];exact trivial) (.inl rfl) (fun b' u hb hu=>(a1e s.heap (Obj.mapSeq f) (Ne.symm hb)).trans hu) ⟨_,q⟩ ?_
 exact⟨hz,its',_,hv,q⟩
theorem Inv.lnew{its:List Value}{t':Nat}(I:Inv X pins σ H s)(hv:D6 ys its)(hz:ys.length<=j6) :
  Inv X pins σ (upd H s.heap.objs.size (.lst ys)) { s with heap:=s.heap.push { cls:=.type "list",data:=.seq its.toArray },toks:=t' }:=
 I.laid (fun _ _ q=>c5 _ q) (d5 _) ⟨hz,its,0,hv,h9 _ rfl⟩
theorem Inv.fresh(I:Inv X pins σ H s):H s.heap.objs.size=none:=I.hok.fresh (d5 _)
theorem Inv.lstM(I:Inv X pins σ H s)(hH:H l=some (.lst xs)):xs.length<=j6/\∃(its:List Value) (n:Nat),D6 xs its/\xs.length=its.length/\s.heap.get? l=some { cls:=.type "list",data:=.seq its.toArray n }:=by
 obtain⟨z,its,n,r,e⟩:=I.hok l _ hH
 exact⟨z,its,n,r,r.length,e⟩
theorem b8L(h:n<=j6):Builtin.List.listTooLong n=false:=by
 unfold Builtin.List.listTooLong
 exact c7H (by omega)
end
section
def c0j:V->List V->Hp->VK->Prop:=fun x vs H Q=>∃l xs y,x=.ref l/\vs=[y]/\H l=some (.lst xs)/\xs.length<j6/\Q .non (upd H l (.lst (xs++[y])))
theorem a6U:MtM X "list.append" c0j:=by
 intro pins s σ H x vs v us Q I rx rv h
 obtain⟨l,xs,y,rfl,rfl,hH,hz,q⟩:=h
 cases rx
 obtain⟨u,rfl,ru⟩:=rv.one
 obtain⟨z,its,n,r,hl,e⟩:=I.lstM hH
 refine c1P F.slot_list_append ⟨_,e,rfl⟩ F.entry_list_append (F.args_list_append_2 _ _) (PySem.list_append l its.toArray n u (by rw[g8];omega)) ⟨e,?_⟩
 refine⟨.non,_,I.lset (its':=its++[u]) hH e (by simp) (r.append (.cons ru .nil)) ?_,rfl,q⟩
 rw[c9,G8]
 omega
def c0i:V->List V->Hp->VK->Prop:=fun x vs H Q=>∃l b xs zs,x=.ref l/\vs=[.ref b]/\H l=some (.lst xs)/\H b=some (.lst zs)/\xs.length+zs.length<=j6/\Q .non (upd H l (.lst (xs++zs)))
theorem b6o:MtM X "list.extend" c0i:=by
 intro pins s σ H x vs v us Q I rx rv h
 obtain⟨l,b,xs,zs,rfl,rfl,hH,hB,hz,q⟩:=h
 cases rx
 obtain⟨u,rfl,ru⟩:=rv.one
 cases ru
 obtain⟨z,its,n,r,hl,e⟩:=I.lstM hH
 obtain⟨z2,its2,n2,r2,hl2,e2⟩:=I.lstM hB
 have hsz:its.toArray.size+its2.toArray.size<=j6:=by rw[g8,g8];omega
 have hlong:¬(!its.toArray.isEmpty&&Builtin.List.listTooLong (its.toArray.size+its2.toArray.size))=true:=by
  rw[b8L hsz,Bool.and_false]
  exact l9
 refine c1P F.slot_list_extend ⟨_,e,rfl⟩ F.entry_list_extend (F.args_list_extend_2 _ _)
  (AutoSeq1.list_extend_list_list_0 l its.toArray n b its2.toArray n2 hlong (by rw[g8];omega) (by omega)) ⟨e,e2,?_⟩
 refine⟨.non,_,I.lset (its':=its++its2) hH e (by simp) (r.append r2) ?_,rfl,q⟩
 rw[c9]
 omega
def c6q:V->List V->Hp->VK->Prop:=fun x vs H Q=>∃l xs y,x=.ref l/\vs=[]/\H l=some (.lst xs)/\xs[xs.length - 1]? = some y/\Q y (upd H l (.lst xs.dropLast))
theorem c3T:MtM X "list.pop" c6q:=by
 intro pins s σ H x vs v us Q I rx rv h
 obtain⟨l,xs,y,rfl,rfl,hH,hy,q⟩:=h
 cases rx
 have hus:=rv.zero
 subst hus
 obtain⟨z,its,n,r,hl,e⟩:=I.lstM hH
 obtain⟨u,hu,ru⟩:=r.get hy
 have hy':its.toArray[its.toArray.size - 1]? = some u:=by
  show its.toArray[its.length - 1]? = some u
  rw[<-C3,<-hl]
  exact hu
 refine c1P F.slot_list_pop ⟨_,e,rfl⟩ F.entry_list_pop (F.args_list_pop_1 _) (MeetsSeq.list_pop_last l its.toArray n u hy' (by rw[g8];omega)) ⟨e,?_⟩
 refine⟨y,_,I.lset (its':=its.dropLast) hH e ?_ r.dropLast ?_,ru,q⟩
 ·show its.toArray.eraseIdxIfInBounds (its.toArray.size - 1)=its.dropLast.toArray
  rw[g8,List.eraseIdxIfInBounds_toArray,b4z]
 ·rw[List.length_dropLast]
  omega
def c6r:R2:=fun x y H Q=>∃l b xs zs,x=.ref l/\y=.ref b/\H l=some (.lst xs)/\H b=some (.lst zs)/\xs.length+zs.length<=j6/\∀p,H p=none->Q (.ref p) (upd H p (.lst (xs++zs)))
theorem c3M:OpR X (R0 .Add) c6r:=by
 intro pins s σ H x y v u Q I rx ry h
 obtain⟨l,b,xs,zs,rfl,rfl,hH,hB,hz,q⟩:=h
 cases rx
 cases ry
 obtain⟨z,its,n,r,hl,e⟩:=I.lstM hH
 obtain⟨z2,its2,n2,r2,hl2,e2⟩:=I.lstM hB
 refine PySem.P.add_list e e2 ?_ (by rw[g8,g8];omega)
 have ea:its.toArray++its2.toArray=(its++its2).toArray:=by simp
 rw[ea]
 exact⟨.ref _,_,I.lnew (t':=s.toks) (r.append r2) (by rw[c9];omega),rfl,q _ I.fresh⟩
end
section
variable {prog:u6}{w:World}{A:E9}{E:Value->d3->Prop}
set_option maxRecDepth 100000 in
end
section
end
end L2
namespace Att
open PySem PySem.W PySem.Calls PyProof.Rows
theorem a7z{P:Params}{h:Heap}:∀(ns:List Int) (vs:List Value),WellAll P h vs (ns.map WData.int)->c2o vs ns:=by
 intro ns
 induction ns with
 | nil=>
  intro vs w
  rw[b5r]at w
  cases w
  exact .nil
 | cons n ns ih=>
  intro vs w
  rw[E7]at w
  cases w with
  | cons a b=>
   cases a
   exact .cons _ _ (ih _ b)
theorem b5Q{l:OpenLaw}{n:Nat}(hn:l.most=some n){P:Params}{h:Heap}{args:List WData}{vals:List Value}
  (hpre:l.row.toRowW.claim.pre args=true) (hwl:WellAll P h vals args) :
  ∃a vs ns,vals=[Value.ref a]/\args=[WData.list (ns.map WData.int)]/\h.get? a=some { cls:=.type "list",data:=.seq vs.toArray }/\c2o vs ns/\ns.length<=n:=by
 have hsh:WShape.hasAll [] args [.list .int]=true:=(pre_splitW hpre).1
 have hc:l.pre.holds [] { args:=args }=true:=(pre_splitW hpre).2
 obtain⟨d,r,rfl,h1,h2⟩:=hasAllW_cons hsh
 obtain rfl:=hasAllW_nil h2
 obtain⟨xs,rfl,h3⟩:=hasW_list h1
 obtain⟨ns,rfl⟩:=items_int h3
 have hlen:ns.length<=n:=by
  unfold OpenLaw.pre at hc
  have h4:(WTm.not (.lt (.lit (.int (n:Int))) (.len (.arg 0)))).holds [] { args:=[.list (ns.map .int)] }=true:=by
   have h4:=(holds_andW hc).1
   rw[hn]at h4
   exact h4
  have h5:=condW_of h4 (w_not (w_lt w_lit (w_len_list (w_arg rfl))))
  rw[a8]at h5
  refine Nat.le_of_not_lt fun q=>?_
  have q':(n:Int)<((ns.length:Nat):Int):=by omega
  first
   | (rw[c7I q']at h5;exact absurd h5 (by decide))
   | (simp at h5;omega)
 cases hwl with
 | cons w1 w2=>
  cases w2
  cases w1 with
  | list ho hall=>exact⟨_,_,ns,rfl,rfl,ho,a7z ns _ hall,hlen⟩
theorem b6a(l:OpenLaw)(args:List WData):l.row.toRowW.claim.post args (.bool true) args=true:=
 postW_of (r:=l.row.toRowW) (X:=(true == true))
  (show WShape.has [] (.bool true) .bool=true by first | rfl | decide | simp[WShape.has,WShape.arms,WShape.armsAll])
  (show(WTm.eq .res (.lit (.bool true))).value [] { args:=args,res:=some (.bool true),after:=args }=some (.bool (true == true))from w_eq_bool (w_res rfl) w_lit) rfl
theorem b3f{l:OpenLaw}{n:Nat}{q:u6}{loose:List Str}{XP:(Str->Option Value)->Heap->Prop}{YP:World->Heap->Prop}{d:DefRec}
  (hn:l.most=some n) (hdf:d.params.defaults=[])
  (call:∀(w:World) (s₀ s₁:d3) (mg mb:Str->Option Value) (fa:Addr) (o:Obj) (pm cd doc:Value) (a:Addr) (vs:List Value) (ns:List Int),
   Ground q loose [] XP w s₀ mg mb s₁.heap->YP w s₁.heap ->
   s₁.heap.get? fa=some o->o.data=.func (docDef d.name d.params d.body d.scope pm cd doc)->s₁.heap.CodeRec cd d.name->mg d.name=some (.ref fa) ->
   s₁.heap.get? a=some { cls:=.type "list",data:=.seq vs.toArray }->c2o vs ns->ns.length<=n->s₁.gens = #[] ->
   a2o (model l.prog w) b7i (.call (.ref fa) ⟨[.ref a],[]⟩) (fun r s'=>r=.ok (.ret (.bool true))/\OldK s₁.heap s'.heap/\s'.os=s₁.os/\b0m s'.gens) s₁) :
  WalkO q loose XP YP l.row.toRowW d [] (fun f vs=>b1F f vs):=by
 intro w s₀ s₁ mg mb G Y fa o pm cd doc dV kV ho hd hcd hD hmg hg args vals as hpre hlay hrd hwl hlo
 obtain rfl:dV=.none:=Dflts.none hD hdf
 obtain rfl:kV=.none:=Dflts.noKw hD
 obtain⟨a,vs,ns,rfl,rfl,hobj,hints,hlen⟩:=b5Q hn hpre hwl
 refine enter_call (a2x (call w s₀ s₁ mg mb fa o pm cd doc a vs ns G Y ho (fd_plain hd) hcd hmg hobj hints hlen hg) fun r s' hq=>?_)
 obtain⟨rfl,h2,h3,h4⟩:=hq
 exact⟨.inl ⟨.bool true,.bool true,[],rfl,fun _=>rfl,.bool true,b6a l _,fun _=>⟨b1L,fun _ hm=>(nomatch hm)⟩⟩,h2,h3,h4⟩
section
variable {prog:u6}{w:World}{A:E9}{E:Value->d3->Prop}{s:d3}{K:Frag}
end
end Att
namespace L2
open PySem PySem.Spec PyProof.Rows
theorem a6y:∀ {vs:List Value} {ns:List Int},c2o vs ns->D6 (ns.map V.int) vs
 | _,_,.nil=>.nil
 | _,_,.cons n t h=>.cons ⟨t,rfl⟩ (a6y h)
def c1F(H:Hp):Prop:=∀b,H b=none\/∃o xs,H b=some (.frz o (.lst xs))
theorem b8U{P:u6}{w:World}{K:Fg}{mg mb:Str->Option Value}{CX:CXT}{k:Nat}{fa a:Addr}{fd:X6}{x:Str}{sp:Sp}{s₁:d3}{vs:List Value}{ns:List Int}
  (KX:K.In s₁.heap) (hns:s₁.heap.Ns q9 mg) (hb:s₁.heap.Ns builtinsNs mb) (hbb:∀x:Str,x ≠ "__name__" -> mb x=O9 x) (hlim:s₁.heap.NoLimit) (hg:s₁.gens = #[])
  (ha:s₁.heap.get? a=some { cls:=.type "list",data:=.seq vs.toArray }) (hi:c2o vs ns) (hl:ns.length<=j6) (hr:L3 k b7i)
  (F:∀base:Heap,K.In base->base.Ns q9 mg->J1 P w K mg base CX k fa fd [x] sp) (hbind:∀(s:d3) (u:Value),b7j s fd ⟨[u],[]⟩ [(x,u)])
  (hsp:∀H:Hp,c1F H->SqL K H a (ns.map V.int)->sp [.ref a] H (fun v _=>v=.bl true) fun _ _ _=>False)
  (hCX:∀H e s',CX [] H s₁ (fun _ _ _=>False) e s'->False) :
  a2o (model P w) b7i (.call (.ref fa) ⟨[.ref a],[]⟩) (fun r s'=>r=.ok (.ret (.bool true))/\OldK s₁.heap s'.heap/\s'.os=s₁.os/\b0m s'.gens) s₁:=by
 have rv:=a6y hi
 have lenV:=hi.length
 have core:∀H:Hp,c1F H->SqL K H a (ns.map V.int)->HOk P w H s₁.heap->(∀b,H b≠none->b=a)->(H a≠none->K.lookup a=none) ->
   a2o (model P w) b7i (.call (.ref fa) ⟨[.ref a],[]⟩) (fun r s'=>r=.ok (.ret (.bool true))/\OldK s₁.heap s'.heap/\s'.os=s₁.os/\b0m s'.gens) s₁:=by
  intro H hO hS hok hA hK
  have base_of:∀ {b:Addr} {o:Obj},s₁.heap.get? b=some o->H b=none->(b1j s₁.heap H).get? b=some o:=fun e n=>b9a e n
  have noA:∀ {b:Addr} {o:Obj} {es:Array a1C} {ep:Nat},s₁.heap.get? b=some o->o.data=.dict es ep->H b=none:=fun {b o es ep} e d=>by
   cases q:H b with
   | none=>rfl
   | some u=>
    have e':b=a:=hA b (by rw[q];simp)
    subst e'
    rw[ha]at e;cases e
    have d':Data.seq vs.toArray _=Data.dict es ep:=d
    cases d'
  have nsK:∀ {b:Addr} {m:Str->Option Value},s₁.heap.Ns b m->(b1j s₁.heap H).Ns b m:=fun {b m} ⟨o,es,ep,e,d,r⟩=>⟨o,es,ep,base_of e (noA e d),d,r⟩
  have hKb:K.In (b1j s₁.heap H):=fun b o e=>base_of (KX b o e) (by
   cases q:H b with
   | none=>rfl
   | some u=>
    have e':b=a:=hA b (by rw[q];simp)
    subst e'
    rw[hK (by rw[q];simp)]at e;cases e)
  have hM:Mod K mg (b1j s₁.heap H):=⟨hKb,nsK hns,⟨mb,nsK hb,hbb⟩,let⟨mc,h1,h2⟩:=hlim; ⟨mc,nsK h1,h2⟩⟩
  have e0:b4G P w K mg (b1j s₁.heap H) b7i [] s₁ H:=⟨rfl,hM,fun b o e=>c1b e,b6V (b6z _ _),trivial,fun b hb=>absurd (show b∈([]:List Addr)from hb) (by simp),hok,.of_eq hg⟩
  refine a2x ((F _ hKb (nsK hns)).run b7i [] s₁ H ⟨[.ref a],[]⟩ [.ref a] [.ref a] _ _ hr e0 (hbind s₁ (.ref a)) (.cons rfl .nil) (hsp H hO hS)) fun r s' h=>?_
  cases r with
  | error e=>exact(hCX H e s' h).elim
  | ok fl=>
   cases fl with
   | next=>exact False.elim h
   | brk=>exact False.elim h
   | cont=>exact False.elim h
   | ret u=>
    obtain⟨v,H',os,bare,un,hok',r',q⟩:=h
    have q':v=.bl true:=q
    subst q'
    obtain rfl:u=Value.bool true:=r'
    refine⟨rfl,OldK.of_keep fun b o e=>?_,os,bare⟩
    cases q:H b with
    | none=>exact un.keep b o e q (by intro z;exact absurd (show b∈([]:List Addr)from z) (by simp)) (by simp)
    | some u=>
     rcases hO b with z | ⟨ob,xs,z⟩
     ·rw[q]at z;cases z
     ·have z2:=un.frzs b ob _ z
      obtain⟨e1,_⟩:=hok b _ z
      obtain⟨e2,_⟩:=hok' b _ z2
      rw[e]at e1;cases e1
      exact e2
 cases hk:K.lookup a with
 | some o=>
  have e:=KX a o hk
  rw[ha]at e
  cases e
  refine core (fun _=>none) (fun _=>.inl rfl) (.inr ⟨_,vs.toArray,_,hk,rfl,rfl,rfl,by rw[g8,lenV];exact hl,by simpa using rv⟩) (fun b u z=>by have z':(none:Option HO)=some u:=z;cases z') (fun b z=>absurd rfl z) fun z=>absurd rfl z
 | none=>
  refine core (fun b=>if b=a then some (.frz { cls:=.type "list",data:=.seq vs.toArray } (.lst (ns.map V.int)))else none) (fun b=>?_) (.inl (.inr ⟨{ cls:=.type "list",data:=.seq vs.toArray },if_pos rfl⟩)) (fun b u z=>?_) (fun b z=>?_) fun _=>hk
  ·by_cases hb:b=a
   ·exact .inr ⟨_,_,if_pos hb⟩
   ·exact .inl (if_neg hb)
  ·by_cases hb:b=a
   ·have z':=(if_pos hb).symm.trans z
    cases z'
    subst hb
    exact⟨ha,by rw[a8];exact hl,vs,_,rv,ha⟩
   ·have z':=(if_neg hb).symm.trans z
    cases z'
  ·by_cases hb:b=a
   ·exact hb
   ·exact absurd (if_neg hb) z
theorem b9U{l:PySem.W.OpenLaw}{n k:Nat}{q:u6}{loose:List Str}{XP:(Str->Option Value)->Heap->Prop}{YP:World->Heap->Prop}{d:DefRec}{K:Params->Fg}{CX:World->CXT}{sp:World->Sp}{x:Str}
  (hn:l.most=some n) (hn2:n<=j6) (hdf:d.params.defaults=[]) (hr:L3 k b7i)
  (hY:∀(w:World) (h:Heap),YP w h->(K w.params).In h)
  (F:∀(w:World) (mg:Str->Option Value) (fa:Addr) (h:Heap),(K w.params).In h->h.Ns q9 mg->mg d.name=some (.ref fa) ->
   ∃fd:X6,(∀(s:d3) (u:Value),b7j s fd ⟨[u],[]⟩ [(x,u)]) /\
    ∀base:Heap,(K w.params).In base->base.Ns q9 mg->J1 l.prog w (K w.params) mg base (CX w) k fa fd [x] (sp w))
  (hsp:∀(w:World) (H:Hp) (a:Addr) (ns:List Int),ns.length<=n->c1F H->SqL (K w.params) H a (ns.map V.int)->sp w [.ref a] H (fun v _=>v=.bl true) fun _ _ _=>False)
  (hCX:∀(w:World) (H:Hp) (s:d3) (e:Value) (s':d3),CX w [] H s (fun _ _ _=>False) e s'->False) :
  PySem.W.WalkO q loose XP YP l.row.toRowW d [] (fun f vs=>b1F f vs):=by
 refine Att.b3f hn hdf fun w s₀ s₁ mg mb fa o pm cd doc a vs ns G Y ho hd hcd hmg hobj hints hlen hg=>?_
 have KX:=hY w _ Y
 obtain⟨fd,hb,hF⟩:=F w mg fa _ KX G.T.g hmg
 exact b8U KX G.T.g G.T.b G.T.builtins G.T.nolimit hg hobj hints (E3 hlen hn2) hr hF hb (fun H hO hS=>hsp w H a ns hlen hO hS) fun H e s'=>hCX w H s₁ e s'
abbrev CX0:CXT:=fun _ _ _ _ _ _=>False
abbrev E0:XK:=fun _ _ _=>False
theorem b2t{X:Cx}:a4m CX0 X E0:=fun _ _ _ _ _ _ _ h=>h.elim
structure Fun(K:Fg)(x qual:Str)(st:Stmt)(f:Addr)(fd:X6):Prop where
 ex:∃(oc:Value) (od:Option Addr) (kV doc pm:Value) (an:Option Addr) (cdv ct:Value) (osl:Array (Option Value)),
  fd=Z7 x qual (a2g st) (a0E st) (j4 st) .none kV doc pm an cdv ct/\K.lookup f=some ⟨oc,od,.func fd,osl⟩/\a4L K cdv qual=true
 kp:M5 K (.ref f)=true
section
variable {P:u6}{w:World}{K:Fg}{mg:Str->Option Value}{base:Heap}
theorem Fun.ok{x qual:Str}{st:Stmt}{f:Addr}{fd:X6}{N ps:List Str}{k:Nat}{sp:Sp}(F:Fun K x qual st f fd)(S:y7 N ps (j4 st))(len:∀vs H Q E,sp vs H Q E->vs.length=ps.length)
  (hbody:∀(cdv:Value) (A:E9) (outer:List Env) (s:d3) (H:Hp) (vs:List V) (Q:VK) (E:XK),L3 k (A.deeper (b1N qual (j4 st) s.heap.objs.size f cdv))->sp vs H Q E ->
   ∃t,PSs (b2S CX0 P w K mg base N qual (j4 st) f cdv A outer s H E).nox (a0E st) t/\t { nx:=fun _ H'=>Q .non H',rt:=Q } (a5R N vs) H):J1 P w K mg base CX0 (k+1) f fd ps sp:=by
 obtain⟨oc,od,kV,doc,pm,an,cdv,ct,osl,rfl,lk,hcd⟩:=F.ex
 refine c5O lk hcd S len fun A outer s H vs Q E hr hsp=>?_
 obtain⟨t,h,q⟩:=hbody cdv A outer s H vs Q E hr hsp
 exact⟨t,h.nox,q⟩
theorem Fun.binds{x qual:Str}{st:Stmt}{f:Addr}{fd:X6}{ps:List Str}(F:Fun K x qual st f fd)
  (h:∀(kV doc pm:Value) (an:Option Addr) (cdv ct:Value) (us:List Value),us.length=ps.length->bindArgs (Z7 x qual (a2g st) (a0E st) (j4 st) .none kV doc pm an cdv ct) ⟨us,[]⟩=pure (ps.zip us)):a2l K fd ps []:=by
 obtain⟨oc,od,kV,doc,pm,an,cdv,ct,osl,rfl,lk,hcd⟩:=F.ex
 exact .all (h kV doc pm an cdv ct)
theorem c4j{x qual:Str}{st:Stmt}{f:Addr}{oc:Value}{od an:Option Addr}{osl:Array (Option Value)}{kV doc pm cdv ct:Value}(l:K.lookup f=some ⟨oc,od,.func (Z7 x qual (a2g st) (a0E st) (j4 st) .none kV doc pm an cdv ct),osl⟩)
  (c:a4L K cdv qual=true) (k:M5 K (.ref f)=true):Fun K x qual st f (Z7 x qual (a2g st) (a0E st) (j4 st) .none kV doc pm an cdv ct):=⟨⟨oc,od,kV,doc,pm,an,cdv,ct,osl,rfl,l,c⟩,k⟩
end
theorem b5e{A:E9}{k:Nat}(hr:L3 k A):A.units+1<cLine:=Nat.lt_of_le_of_lt (Nat.add_le_add_left (by decide:1<=64) _) hr.units
section
variable {X:Cx}
end
theorem c4g{A B:Prop}(h:B):if false=true then A else B:=by
 rw[if_neg l9]
 exact h
theorem b2K{A B:Prop}(h:A):if true=true then A else B:=by
 rw[if_pos rfl]
 exact h
theorem a0C{c A B:Prop}[Decidable c](h1:c->A)(h2:¬c->B):if c then A else B:=by
 by_cases h:c
 ·rw[if_pos h]
  exact h1 h
 ·rw[if_neg h]
  exact h2 h
def p9(H H':Hp):Prop:=∀b o,H b=some o->H' b=some o
theorem p9.refl(H:Hp):p9 H H:=fun _ _ h=>h
theorem p9.trans{H H1 H2:Hp}(a:p9 H H1)(b:p9 H1 H2):p9 H H2:=fun c o h=>b c o (a c o h)
theorem p9.free{H H':Hp}(e:p9 H H'){l:Addr}(h:H' l=Option.none):H l=Option.none:=by
 cases q:H l with
 | none=>rfl
 | some o=>
  rw[e l o q]at h
  cases h
section
variable {κ:Type}[DecidableEq κ]
end
end L2
set_option maxHeartbeats 4000000
namespace L2
open PySem PySem.Spec PyProof.Rows
variable{env:Env}{scope:Scope}{X:Cx}{w:World}{s:d3}{elt iter:Expr}{elts ifs:List Expr}{p pos tp:Pos}{pins:List (Addr×Obj)}{σ:St}{H:Hp}{cl:List (Str×Addr)}{fp:List Addr}{tt:TT}{te:TE}{xs:List V}{us:List Value}{u:Value}{j:Nat}{ps:List Str}{sp:Sp}
theorem b1s:∀(names:List (Str×a4P)) (cs:List (Str×Addr)),(∀y∈names,y.2=.free->∃c,env.cells.lookup y.1=some c) ->
  (∀y c,cs.lookup y=some c->env.cells.lookup y=some c) ->
  ∃cl,(forIn names cs (fun(x:Str×a4P) (r:List (Str×Addr))=>(if(x.2 == NameKind.free)=true then (do let c <-cellOf env x.1;pure (ForInStep.yield ((x.1,c)::r)))else pure (ForInStep.yield r):Sem (ForInStep (List (Str×Addr)))))=(pure cl:Sem (List (Str×Addr)))) /\
   (∀y c,cl.lookup y=some c->env.cells.lookup y=some c)/\(∀y,(y,NameKind.free)∈names\/(cs.lookup y).isSome=true->(cl.lookup y).isSome=true)
 | [],cs,_,h=>⟨cs,rfl,h,fun y q=>q.elim (fun z=>absurd z (by simp)) id⟩
 | (n,k)::r,cs,hc,h=>by
  by_cases e:(k == NameKind.free)=true
  ·have ek:k=.free:=by simpa using e
   obtain⟨c,hcc⟩:=hc (n,k) C2 ek
   have h':∀y d,((n,c)::cs).lookup y=some d->env.cells.lookup y=some d:=by
    intro y d q
    rw[D4]at q
    cases eq:y == n with
    | true=>
     rw[eq]at q
     have e2:y=n:=by simpa using eq
     cases q;rw[e2];exact hcc
    | false=>rw[eq]at q;exact h y d q
   obtain⟨cl,h1,h2,h3⟩:=b1s r ((n,c)::cs) (fun y hy=>hc y (C6 _ hy)) h'
   refine⟨cl,?_,h2,fun y q=>h3 y ?_⟩
   ·rw[c4B]
    show((if(k == NameKind.free)=true then (do let c <-cellOf env n;pure (ForInStep.yield ((n,c)::cs)))else pure (ForInStep.yield cs):Sem (ForInStep (List (Str×Addr)))) >>= _)=_
    rw[if_pos e]
    have ec:cellOf env n=pure c:=by unfold cellOf;rw[hcc]
    rw[ec]
    exact h1
   ·rcases q with q | q
    ·rcases g6.mp q with q | q
     ·cases q
      right
      simp[D4]
     ·exact .inl q
    ·right
     rw[D4]
     cases y == n
     ·exact q
     ·rfl
  ·obtain⟨cl,h1,h2,h3⟩:=b1s r cs (fun y hy=>hc y (C6 _ hy)) h
   refine⟨cl,?_,h2,fun y q=>h3 y ?_⟩
   ·rw[c4B]
    show((if(k == NameKind.free)=true then (do let c <-cellOf env n;pure (ForInStep.yield ((n,c)::cs)))else pure (ForInStep.yield cs):Sem (ForInStep (List (Str×Addr)))) >>= _)=_
    rw[if_neg e]
    exact h1
   ·rcases q with q | q
    ·rcases g6.mp q with q | q
     ·cases q
      exact absurd rfl e
     ·exact .inl q
    ·exact .inr q
theorem a5u(hc:∀y∈scope.names,y.2=.free->∃c,env.cells.lookup y.1=some c) :
  ∃cl,closureFor scope env=pure cl/\(∀y c,cl.lookup y=some c->env.cells.lookup y=some c)/\∀y,(y,NameKind.free)∈scope.names->(cl.lookup y).isSome=true:=by
 obtain⟨cl,h1,h2,h3⟩:=b1s scope.names [] hc (fun y c q=>by cases q)
 refine⟨cl,?_,h2,fun y q=>h3 y (.inl q)⟩
 unfold closureFor
 first
  | exact h1
  | (show(forIn scope.names [] _ >>= fun r=>pure r)=_;rw[h1];rfl)
theorem J7{env:Env}:∀ {names:List (Str×a4P)} {y:Str} {k:a4P},
  (names.map fun(n,k)=>if(k == NameKind.free&&env.scope.kind == .function&&env.kindOf n == some .cell)then (n,NameKind.cell)else (n,k)).lookup y=some k ->
  names.lookup y=some k\/(names.lookup y=some .free/\k=.cell)
 | [],_,_,h=>by cases h
 | (n,k0)::r,y,k,h=>by
  have ih := @J7 env r y k
  rw[E7]at h
  rw[D4]
  cases hx:y == n with
  | true=>
   by_cases hc:(k0 == NameKind.free&&env.scope.kind == .function&&env.kindOf n == some .cell)=true
   ·have e2:k0=.free:=by simp at hc;exact hc.1.1
    dsimp only at h
    rw[if_pos hc,D4,hx]at h
    cases h
    exact .inr ⟨by rw[e2],rfl⟩
   ·dsimp only at h
    rw[if_neg hc,D4,hx]at h
    exact .inl h
  | false=>
   by_cases hc:(k0 == NameKind.free&&env.scope.kind == .function&&env.kindOf n == some .cell)=true
   ·dsimp only at h
    rw[if_pos hc,D4,hx]at h
    exact ih h
   ·dsimp only at h
    rw[if_neg hc,D4,hx]at h
    exact ih h
def hid(x:Str)(N:List Str):List Str:=N.map fun y=>if y=x then ("." : Str)++x else y
def P9(X:Cx)(scope:Scope)(cl:List (Str×Addr))(C:Addr)(x:Str)(fp:List Addr)(s3:d3)(H3:Hp):Cx:=
 { X with N:=x::hid x X.N,s₀:=s3,H₀:=H3,env:=b6X scope cl C X.env,outer:=X.stack,stack:=X.stack,ex:=fp,fn:=fun _=>false,pn:=[],xe:=fun _ _=>False }
structure M9(N:List Str)(osc sc:Scope)(x:Str):Prop where
 kind:sc.kind=.function
 cell:∀y∈sc.names,y.2≠.cell
 names:∀y∈sc.names,y.2=.local->sc.names.lookup y.1=some .local
 own:sc.names.lookup x=some .local
 fr:∀y∈sc.names,y.2=.free->osc.names.lookup y.1=some .cell\/osc.names.lookup y.1=some .free
 see:∀y∈hid x N,sc.names.lookup y≠some .local
 dot:sc.names.lookup (("." : Str)++x)=none
 nd:(x::hid x N).Nodup
def V9(wi:TI)(tt:TT)(te:TE):TE:=fun σ H Q=>wi σ H fun J H1=>∀D,H1 D=none->∃W:Nat->Nat->List V->Hp->Prop,
 (∃m,W 0 m [] (upd H1 D (.lst [])))/\∀i m ys H2,W i m ys H2->H2 D=some (.lst ys) /\
  ((J.stop i H2 /\ Q (.ref D) H2) \/ (J.go i H2 /\ ∀ x H3,J.yld i H2 x H3 -> tt (some x :: σ) H3 fun ok H4 => if ok = true then
    te (some x::σ) H4 (fun y H5=>H5 D=some (.lst ys)/\ys.length<j6/\∃m',m'<m/\W (i+1) m' (ys++[y]) (upd H5 D (.lst (ys++[y]))))
    else ∃m',m'<m/\W (i+1) m' ys H4))
def PTs(X:Cx)(ifs:List Expr)(t:TT):Prop:=
 ∀(pins:List (Addr×Obj)) (s:d3) (σ:St) (H:Hp) (Q:Bool->Hp->Prop),Inv X pins σ H s->t σ H Q ->
  wpAny (model X.prog X.w) X.A (forIn ifs true fun c r=>if r=true then do let ok <-isTrue c X.env (eval c X.env);pure (ForInStep.yield ok)else pure (ForInStep.yield r)) (TP X pins σ Q) X.xe s
def U2:TT:=fun _ H Q=>Q true H
theorem c0p:PTs X [] U2:=fun _ _ _ H _ I h=>wpAny_tests_nil ⟨H,I,h⟩
theorem c0o{c:Expr}{t:TT}(h:PT X c t):PTs X [c] t:=fun pins s σ H Q I hq=>wpAny_tests_one (h pins s σ H Q I hq)
theorem a9Y{prog:u6}{A:E9}{R:b4H->d3->Prop}{target:Expr}{it acc:Value}(I:Nat->d3->Prop)
  (turn:∀n s,I n s->wpAny (model prog w) A (a3G it) (fun r s₁=>match r with
   | none=>R (.ok .next) s₁
   | some v=>wpAny (model prog w) A (a3H target it v) (fun _ s₂=>wpAny (model prog w) A (a9E target env v) (fun _ s₃=>
     wpAny (model prog w) A (forIn ifs true fun c r=>if r=true then do let ok <-isTrue c env (eval c env);pure (ForInStep.yield ok)else pure (ForInStep.yield r)) (fun ok s₄=>
      if ok=true then wpAny (model prog w) A (eval elt env) (fun x s₅=>
       wpAny (model prog w) A (call (.builtin "list.append") [acc,x]) (fun _ s₆=>∃m,m<n/\I m s₆) (fun _ _=>False) s₅) (fun _ _=>False) s₄
      else ∃m,m<n/\I m s₄) (fun _ _=>False) s₃) (fun _ _=>False) s₂) (fun _ _=>False) s₁) (fun _ _=>False) s)
  (n:Nat) (h:I n s) :
  a2o (model prog w) A (.compLoop (.ListComp elt [⟨target,iter,ifs,0⟩] scope pos) 0 it acc env) R s:=by
 have up:∀ {α:Type} {m:Sem α} {Q:α->d3->Prop} {E:Value->d3->Prop} {s:d3},wpAny (model prog w) A m Q (fun _ _=>False) s->wpAny (model prog w) A m Q E s:=
  fun h=>a0f h (fun _ _ q=>q) fun _ _ f=>f.elim
 refine codeAny_loop rfl I (fun n s hI=>?_) n h
 refine wpAny_noted ?_
 rw[compTurn_list]
 refine a9 (c2k (a9 (up (thn (turn n s hI) fun r s₁ h₁=>?_))))
 cases r with
 | none=>exact c8 h₁
 | some v=>
  refine a9 (up (thn h₁ fun _ s₂ h₂=>a9 (up (thn h₂ fun _ s₃ h₃=>a9 (up (thn h₃ fun ok s₄ h₄=>?_))))))
  cases ok with
  | false=>exact c8 ⟨rfl,by simpa using h₄⟩
  | true=>
   rw[if_pos rfl]at h₄
   exact a9 (a9 (up (thn h₄ fun x s₅ h₅=>a9 (up (thn h₅ fun _ s₆ h₆=>c8 (c8 ⟨rfl,h₆⟩))))))
section
variable {x:Str}{px:Pos}
theorem b9q{s3:d3}{h4:Heap}{tk:Nat}(hc:M9 X.N X.env.scope scope x)(I:Inv X pins σ H s3)
  (hcl:∀y c,cl.lookup y=some c->X.env.cells.lookup y=some c) (hcl2:∀y,(y,NameKind.free)∈scope.names->(cl.lookup y).isSome=true)
  (fpo:∀b∈fp,a4J X pins H b) (fpl:∀b∈fp,b<s3.heap.objs.size)
  (hn:h4.Ns s3.heap.objs.size (fun _=>none)) (k:∀b o,s3.heap.get? b=some o->h4.get? b=some o) :
  Inv (P9 X scope cl s3.heap.objs.size x fp s3 H) [] (none::σ) H { s3 with heap:=h4,toks:=tk }:=by
 have low:∀x y,(P9 X scope cl s3.heap.objs.size x fp s3 H).env.cells.lookup y=cl.lookup y:=fun _ _=>rfl
 have below:∀y c,cl.lookup y=some c->c<s3.heap.objs.size:=fun y c e=>by
  obtain⟨v,q⟩:=I.cell y c (hcl y c e)
  exact q.lt
 have kinds:∀y,((P9 X scope cl s3.heap.objs.size x fp s3 H).env.kindOf y=some .cell\/(P9 X scope cl s3.heap.objs.size x fp s3 H).env.kindOf y=some .free)->scope.names.lookup y=some .free:=by
  intro y hy
  rcases hy with hy | hy
  ·rcases J7 hy with q | ⟨q,_⟩
   ·exact absurd rfl (hc.cell _ (w6 q))
   ·exact q
  ·rcases J7 hy with q | ⟨q,z⟩
   ·exact q
   ·cases z
 refine⟨⟨I.ok.mod,?_,I.ok.glob,I.ok.blt,d5 _,fun y z c h1 h2=>?_,fun y hy=>?_,fun y c h=>?_,I.ok.hd,I.ok.frames,.inl rfl,fun b hb=>⟨?_,fun y c e z=>?_⟩,fun b o e=>I.bs b o e,E3 I.ok.bsz I.sz,fun b o e hb=>?_,fun b hb hf=>?_,I.stack,I.stkFree⟩,
  rfl,I.bare,Un.kept k,⟨_,hn,fun i y v h1 h2 h3=>?_⟩,fun y c e=>?_,I.fresh,fun y c e=>?_,fun p hp=>absurd (show p∈([]:List (Addr×Obj))from hp) (by simp),I.hok.kept k,?_⟩
 ·exact hc.kind
 ·exact I.ok.inj y z c (hcl _ _ h1) (hcl _ _ h2)
 ·have:=hcl2 y (w6 (kinds y hy))
  exact T1.mp this
 ·cases h
 ·exact o5 (fpl b hb)
 ·exact(fpo b hb).2.2.2.2.1 y c (hcl y c e) z
 ·rcases(fpo b hb).2.2.2.1 with q | q
  ·exact I.ok.noex b o e q
  ·exact absurd (v5 (d7 (I.ok.bs b o e).1) q) (E8 _)
 ·rcases g6.mp (I.stkSub b hf)with e | e
  ·exact(fpo b hb).2.1 e
  ·exact(fpo b hb).2.2.1 e
 ·-- the names
  have h1:(x::hid x X.N)[i]? = some y:=h1
  cases i with
  | zero=>cases h2
  | succ i=>
   have h1:(hid x X.N)[i]? = some y:=h1
   have h2:σ[i]? = some (some v):=h2
   have my:y∈hid x X.N:=N9 h1
   have h3:(a6u scope X.env).names.lookup y=some .local\/(a6u scope X.env).names.lookup y=some .cell\/(a6u scope X.env).names.lookup y=some .free:=h3
   have hf:scope.names.lookup y=some .free:=by
    rcases h3 with q | q
    ·rcases J7 q with q | ⟨_,z⟩
     ·exact absurd q (hc.see y my)
     ·cases z
    ·exact kinds y q
   have hy:X.N[i]? = some y:=by
    unfold hid at h1
    rw[b7]at h1
    cases e:X.N[i]? with
    | none=>rw[e]at h1;cases h1
    | some z=>
     rw[e]at h1
     by_cases ez:z=x
     ·rw[a1x,if_pos ez]at h1
      have h1:=Option.some.inj h1
      subst h1
      rw[hc.dot]at hf
      cases hf
     ·rw[a1x,if_neg ez]at h1
      exact h1
   obtain⟨m,_,hl⟩:=I.loc
   obtain⟨c,hcc⟩:=T1.mp (hcl2 y (w6 hf))
   have vis:Vis X.env.scope y:=by
    rcases hc.fr _ (w6 hf) rfl with q | q
    ·exact .inr (.inl q)
    ·exact .inr (.inr q)
   obtain⟨u,ru,lk⟩:=hl i y v hy h2 vis
   refine⟨u,ru,.inr ⟨?_,c,hcc,?_⟩⟩
   ·rcases h3 with q | q
    ·rcases J7 q with q | ⟨_,z⟩
     ·exact absurd q (hc.see y my)
     ·cases z
    ·exact q
   ·have hce:=hcl y c hcc
    rcases lk with ⟨q,_⟩ | ⟨_,c',e',z⟩
    ·rcases hc.fr _ (w6 hf) rfl with q' | q'
     ·have q:X.env.scope.names.lookup y=some .local:=q
      rw[show X.env.scope.names.lookup y=some NameKind.cell from q']at q
      cases q
     ·have q:X.env.scope.names.lookup y=some .local:=q
      rw[show X.env.scope.names.lookup y=some NameKind.free from q']at q
      cases q
    ·rw[e']at hce
     cases hce
     obtain⟨o,ho,hd⟩:=z
     exact⟨o,k _ _ ho,hd⟩
 ·obtain⟨v,o,ho,hd⟩:=I.cell y c (hcl y c e)
  exact⟨v,o,k _ _ ho,hd⟩
 ·exact I.freeC y c (hcl y c e)
 ·show(none::σ).length=(x::hid x X.N).length
  have:=I.len
  simp[hid,this]
theorem a8K{H1:Hp}{s2:d3}{it:Addr}{tn:Nat->Heap->Prop}{J:It}{Q:VK}{E:Value->d3->Prop}
  {RR:Value->Addr->b4H->d3->Prop} (hc:M9 X.N X.env.scope scope x) (hcalm:X.calm=true)
  (hcl:∀y c,cl.lookup y=some c->X.env.cells.lookup y=some c) (hcl2:∀y,(y,NameKind.free)∈scope.names->(cl.lookup y).isSome=true)
  (ht:∀C fp s3 H3,PTs (P9 X scope cl C x fp s3 H3) ifs tt) (he:∀C fp s3 H3,PE (P9 X scope cl C x fp s3 H3) elt te)
  (I:Inv X pins σ H1 s2) (T:b3g X.prog X.w X.K (.Name x px) J fp it tn) (st:tn 0 s2.heap) (fpo:∀b∈fp,a4J X pins H1 b)
  (h:∀D,H1 D=none->∃W:Nat->Nat->List V->Hp->Prop,
   (∃m,W 0 m [] (upd H1 D (.lst [])))/\∀i m ys H2,W i m ys H2->H2 D=some (.lst ys) /\
   ((J.stop i H2 /\ Q (.ref D) H2) \/ (J.go i H2 /\ ∀ x H3,J.yld i H2 x H3 -> tt (some x :: σ) H3 fun ok H4 => if ok = true then
     te (some x::σ) H4 (fun y H5=>H5 D=some (.lst ys)/\ys.length<j6/\∃m',m'<m/\W (i+1) m' (ys++[y]) (upd H5 D (.lst (ys++[y]))))
     else ∃m',m'<m/\W (i+1) m' ys H4)))
  (hRR:∀D C s' H' m,Inv X pins σ H' s'->s'.heap.Ns C m->H' C=none->C≠X.env.locals->X.s₀.heap.objs.size<=C->(∀y c,X.env.cells.lookup y=some c->c≠C)->(∀p∈X.pn++pins,p.1≠C)->Q (.ref D) H'->RR (.ref D) C (.ok .next) s') :
  wpAny (model X.prog X.w) X.A (newList []) (fun acc s₃=>wpAny (model X.prog X.w) X.A (newFunctionEnv scope X.env.globals cl [] X.env.qual none .none (some X.env)) (fun cenv s₄=>
   a2o (model X.prog X.w) X.A (.compStart (.ListComp elt [⟨.Name x px,iter,ifs,0⟩] scope pos) 0 (.ref it) acc { cenv with scope:=a6u scope X.env }) (RR acc cenv.locals) s₄) E s₃) E s2:=by
 refine A6 (hd:=by size_fits) ?_
 have I3:=I.lnew (ys:=[]) (its:=[]) (t':=s2.toks) .nil (by show 0<=j6;exact F5 _)
 obtain⟨W,⟨m0,w0⟩,turn⟩:=h _ I.fresh
 generalize hD:s2.heap.objs.size=D at I3 w0 turn ⊢
 generalize hs3:({ s2 with heap:=s2.heap.push { cls:=.type "list",data:=.seq ([]:List Value).toArray } }:d3)=s3
 have hs3':({ s2 with heap:=s2.heap.push { cls:=.type "list",data:=.seq ([]:List Value).toArray },toks:=s2.toks }:d3)=s3:=hs3
 rw[hs3']at I3
 have keep3:∀b o,s2.heap.get? b=some o->s3.heap.get? b=some o:=fun b o e=>by rw[<-hs3];exact c5 _ e
 have fpl:∀b∈fp,b<s3.heap.objs.size:=fun b hb=>by
  obtain⟨o,e,_⟩:=T.obj _ _ st b hb
  exact d7 (keep3 b o e)
 have fpD:∀b∈fp,b≠D:=fun b hb z=>by
  obtain⟨o,e,_⟩:=T.obj _ _ st b hb
  exact absurd (d7 e) (by rw[z,hD];exact E8 _)
 have fpo3:∀b∈fp,a4J X pins (upd H1 D (.lst [])) b:=fun b hb=>⟨by rw[j5 (fpD b hb)];exact(fpo b hb).1,(fpo b hb).2⟩
 show wpAny _ _ _ _ _ s3
 refine c6d hc.cell (by intro y hy;simp at hy) (fun h₁ hns₁ hsb₁=>?_) hc.kind
 dsimp only[newEnv]at hns₁ hsb₁ ⊢
 have keep4:∀b o,s3.heap.get? b=some o->h₁.get? b=some o:=fun b o e=>hsb₁.extBut b o (o5 (d7 e)) (c5 _ e)
 have I4:=b9q (tk:=s3.toks+([]:List (Str×Value)).length) hc I3 hcl hcl2 fpo3 fpl hns₁ keep4
 have st4:tn 0 h₁:=T.keep _ _ _ st fun b hb o e=>keep4 b o (keep3 b o e)
 have loop:∀s₄:d3,s₄={ s3 with heap:=h₁,toks:=s3.toks+([]:List (Str×Value)).length } ->
   a2o (model X.prog X.w) X.A (.compLoop (.ListComp elt [⟨.Name x px,iter,ifs,0⟩] scope pos) 0 (.ref it) (.ref D) (b6X scope cl s3.heap.objs.size X.env)) (RR (.ref D) s3.heap.objs.size) s₄:=by
  rintro s₄ rfl
  have stat:∀ {H':Hp},(∀b∈fp,H' b=none)->∀b∈fp,a4J (P9 X scope cl s3.heap.objs.size x fp s3 (upd H1 D (.lst []))) [] H' b:=fun hn b hb=>
   ⟨hn b hb,o5 (fpl b hb),fun hf=>by
    rcases g6.mp (I3.stkSub b hf)with e | e
    ·exact(fpo b hb).2.1 e
    ·exact(fpo b hb).2.2.1 e,.inl hb,fun y c e=>(fpo b hb).2.2.2.2.1 y c (hcl y c e),fun p hp=>absurd (show p∈([]:List (Addr×Obj))from hp) (by simp)⟩
  refine a9Y (env:=b6X scope cl s3.heap.objs.size X.env) (fun n s'=>∃i ys H',Inv (P9 X scope cl s3.heap.objs.size x fp s3 (upd H1 D (.lst []))) [] (none::σ) H' s'/\tn i s'.heap/\(∀b∈fp,H' b=none)/\W i n ys H') ?_ m0
   ⟨0,[],_,I4,st4,fun b hb=>(fpo3 b hb).1,w0⟩
  rintro n s5 ⟨i,ys,H5,I5,st5,fr5,w5⟩
  obtain⟨hDy,alt⟩:=turn i n ys H5 w5
  rcases alt with ⟨stop,q⟩ | ⟨go,step⟩
  ·refine a0f (T.done (P9 X scope cl s3.heap.objs.size x fp s3 (upd H1 D (.lst []))) rfl rfl rfl hcalm i [] s5 _ H5 (fun _ _=>False) I5 (stat fr5) st5 stop) (fun r s6 ⟨hr,I6⟩=>?_) fun _ _ f=>f
   subst hr
   obtain⟨m6,n6,_⟩:=I6.loc
   have J6:Inv X pins σ H5 s6:=by
    refine I3.call' (ch:=fp) I6.os I6.base I6.hok I6.bare fun b hb=>?_
    obtain⟨_,f1,f2,f3,f4,f5⟩:=fpo3 b hb
    exact⟨f3,f1,f4,f5⟩
   refine hRR D _ s6 H5 m6 J6 n6 I6.free (a8Z I3.lt) I3.sz (fun y c e z=>?_) (fun p hp z=>?_) q
   ·obtain⟨v,q⟩:=I3.cell y c e
    exact absurd q.lt (by rw[z];exact E8 _)
   ·exact absurd (d7 (I3.pin p hp).1) (by rw[z];exact E8 _)
  ·refine a0f (T.item (P9 X scope cl s3.heap.objs.size x fp s3 (upd H1 D (.lst []))) rfl rfl rfl hcalm i [] s5 _ H5 (fun _ _=>False) I5 (stat fr5) st5 go) (fun r s6 ⟨u,hr,h6⟩=>?_) fun _ _ f=>f
   subst hr
   refine thn h6 fun _ s6 ⟨xv,H6,I6,r6,y6,st6,fr6⟩=>?_
   have I6':=I6.pinned (stat fr6) (T.obj _ _ st6)
   refine b3r (a8f (i:=0) I6' ?nd rfl (.inl ?loc) r6 (fun s7 I7=>?_) (.inr ?loc))
   case nd=>exact hc.nd
   case loc=>exact a0T hc.own
   have I7:Inv (P9 X scope cl s3.heap.objs.size x fp s3 (upd H1 D (.lst []))) ([]++a5k fp s6.heap) (some xv::σ) H6 s7:=I7
   have again:∀ {s8:d3} {H8:Hp} {ys8:List V},Inv (P9 X scope cl s3.heap.objs.size x fp s3 (upd H1 D (.lst []))) ([]++a5k fp s6.heap) (some xv::σ) H8 s8->(∃m',m'<n/\W (i+1) m' ys8 H8) ->
     ∃m,m<n/\∃i ys H',Inv (P9 X scope cl s3.heap.objs.size x fp s3 (upd H1 D (.lst []))) [] (none::σ) H' s8/\tn i s8.heap/\(∀b∈fp,H' b=none)/\W i m ys H':=by
    rintro s8 H8 ys8 I8 ⟨m',hm,w8⟩
    refine⟨m',hm,i+1,ys8,H8,(I8.unpinned (pins:=[])).weak rfl (fun j v e=>?_),T.keep _ _ _ st6 fun b hb o e=>(I8.pin (b,o) (p8 _ (p8 _ (a0W hb e)))).1,fun b hb=>?_,w8⟩
    ·cases j with
     | zero=>cases e
     | succ j=>exact e
    ·obtain⟨o,e,d⟩:=T.obj _ _ st6 b hb
     exact(I8.pin (b,o) (p8 _ (p8 _ (a0W hb e)))).2.1
   refine thn (ht _ fp s3 _ _ s7 _ H6 _ I7 (step xv H6 y6)) (fun ok s8 ⟨H8,I8,q8⟩=>?_)
   cases ok with
   | false=>exact again I8 (by simpa using q8)
   | true=>
    rw[if_pos rfl]at q8
    rw[if_pos rfl]
    refine thn (he _ fp s3 _ _ s8 _ H8 _ I8 q8) (fun v s9 ⟨y,H9,I9,r9,hD9,hz9,w9⟩=>?_)
    refine a0f (a6U (X:=P9 X scope cl s3.heap.objs.size x fp s3 (upd H1 D (.lst []))) _ s9 _ H9 (.ref D) [y] (.ref D) [v] (fun _ H'=>H'=upd H9 D (.lst (ys++[y]))) I9 rfl (.cons r9 .nil) ⟨D,ys,y,rfl,rfl,hD9,hz9,rfl⟩) (fun _ s10 ⟨_,H10,I10,_,e10⟩=>?_) fun _ _ f=>f
    subst e10
    exact again I10 w9
 exact c4F (loop _ rfl) (T.self X.A 0 _ _ _ st4 (loop _ rfl))
theorem a8J(hc:M9 X.N X.env.scope scope x)(I:Inv X pins σ H s):∀y∈scope.names,y.2=.free->∃c,X.env.cells.lookup y.1=some c:=by
 intro y hy e
 rcases hc.fr y hy e with q | q
 ·exact I.ok.has y.1 (.inl q)
 ·exact I.ok.has y.1 (.inr q)
theorem c0G{wi:TI}(hc:M9 X.N X.env.scope scope x)(hcalm:X.calm=true)(hi:PI X (.Name x px) iter wi)
  (ht:∀cl C fp s3 H3,PTs (P9 X scope cl C x fp s3 H3) ifs tt) (he:∀cl C fp s3 H3,PE (P9 X scope cl C x fp s3 H3) elt te)
  (hs:∀x,R9 iter X.env x=pure x:=by intro _;rfl) :
  PE X (.ListComp elt [⟨.Name x px,iter,ifs,0⟩] scope pos) (V9 wi tt te):=by
 intro pins s σ H Q I h
 obtain⟨cl,hclos,hcl,hcl2⟩:=a5u (a8J hc I)
 rw[eval_ListComp]
 refine a5B (use:=none) rfl hs hclos hc.kind hc.names (thn (hi pins s σ H _ I h) fun v s1 h1=>thn h1 fun itv s2 ⟨it,fp,tn,J,H2,e,I2,T,st,fpo,R⟩=>?_)
 subst e
 refine a8K (RR:=fun acc C=>compPost (model X.prog X.w) X.A X.xe none (EP X pins σ Q) acc C) (Q:=Q) hc hcalm hcl hcl2 (ht cl) (he cl) I2 T st fpo R ?_
 intro D C s' H' m I' n f1 f2 f3 f4 f5 q
 exact⟨m,n,fun h' sb=>⟨.ref D,H',I'.turned (t':=s'.toks) (fun b o hb e=>(sb.2 b hb).trans e) f1 f2 (.inr f3) f4 f5,rfl,q⟩⟩
theorem b3Z{wi:TI}{i:Nat}{y:Str}{py spos:Pos}(hN:X.N.Nodup)(hiy:X.N[i]? = some y)(hy:X.env.scope.names.lookup y=some .local)(hc:M9 X.N X.env.scope scope x)(hcalm:X.calm=true)(hi:PI X (.Name x px) iter wi)
  (ht:∀cl C fp s3 H3,PTs (P9 X scope cl C x fp s3 H3) ifs tt) (he:∀cl C fp s3 H3,PE (P9 X scope cl C x fp s3 H3) elt te)
  (hsw:a1z (.ListComp elt [⟨.Name x px,iter,ifs,0⟩] scope pos) (some (.Name y py)) spos.line X.env=pure true:=by rfl)
  (hs:∀x,R9 iter X.env x=pure x:=by intro _;rfl) :
  PS X (.Assign [.Name y py] (.ListComp elt [⟨.Name x px,iter,ifs,0⟩] scope pos) spos) (fun D σ H=>V9 wi tt te σ H fun v H1=>D.nx (σ.set i (some v)) H1):=by
 intro pins s σ H D I h
 obtain⟨cl,hclos,hcl,hcl2⟩:=a5u (a8J hc I)
 rw[exec_Assign_Name_used _ _ _ _ hsw]
 refine a9 (c2k (a9 ?_))
 show wpAny _ X.A (do let _ <-comprehension (.ListComp elt [⟨.Name x px,iter,ifs,0⟩] scope pos) scope X.env _ (newList []) false (eval iter X.env) (some (a9E (.Name y py) X.env))) _ _ s
 refine a9 (a0f (a5B (use:=some (a9E (.Name y py) X.env)) (Q:=fun _ s'=>SP X pins D .next s') rfl hs hclos hc.kind hc.names
  (thn (hi pins s σ H _ I h) fun v s1 h1=>thn h1 fun itv s2 ⟨it,fp,tn,J,H2,e,I2,T,st,fpo,R⟩=>?_)) (fun _ s' hq=>c8 (c8 hq)) fun _ _ e=>e)
 subst e
 refine a8K (RR:=fun acc C=>compPost (model X.prog X.w) X.A X.xe (some (a9E (.Name y py) X.env)) (fun _ s'=>SP X pins D .next s') acc C) (Q:=fun v H1=>D.nx (σ.set i (some v)) H1) hc hcalm hcl hcl2 (ht cl) (he cl) I2 T st fpo R ?_
 intro E C s' H' m I' n f1 f2 f3 f4 f5 q
 show wpAny _ _ (a9E (.Name y py) X.env (.ref E)) _ _ _
 refine b3r (a9J (v:=.ref E) I' hN hiy (.inl hy) rfl (fun s'' I'' ch=>?_) (.inr hy))
 obtain⟨a,sb,ha⟩:=ch
 have hCa:C≠a:=by
  rcases ha with e | e
  ·rw[e];exact f2
  ·exact fun z=>f4 y a e z.symm
 exact⟨m,n.sameBut sb hCa,fun h' sb'=>⟨_,_,I''.turned (t':=s''.toks) (fun b o hb e=>(sb'.2 b hb).trans e) f1 f2 (.inr f3) f4 f5,q⟩⟩
end
section
theorem OpR.imp{f:Value->Value->Sem Value}{r r':R2}(h:OpR X f r)(i:∀x y H Q,r' x y H Q->r x y H Q):OpR X f r':=fun pins s σ H x y u v Q I rx ry q=>h pins s σ H x y u v Q I rx ry (i _ _ _ _ q)
theorem U3.imp{f:Value}{r r':List V->Hp->VK->Prop}(h:U3 X f r)(i:∀xs H Q,r' xs H Q->r xs H Q):U3 X f r':=fun pins s σ H xs us Q I rx q=>h pins s σ H xs us Q I rx (i _ _ _ q)
theorem IxR.imp{r r':R2}(h:IxR X r)(i:∀x y H Q,r' x y H Q->r x y H Q):IxR X r':=by
 intro value slice pins s σ H x y v u Q I rx ry q hs
 exact h value slice pins s σ H x y v u Q I rx ry (i _ _ _ _ q) hs
theorem SlR.imp{r r':V->Option Int->Option Int->Hp->VK->Prop}(h:SlR X r)(i:∀x lo hi H Q,r' x lo hi H Q->r x lo hi H Q):SlR X r':=fun pins s σ H x v vl vu lo hi sl Q I rx hs pl pu q=>h pins s σ H x v vl vu lo hi sl Q I rx hs pl pu (i _ _ _ _ _ q)
def a0V:R2:=fun x y H Q=>match x,y with
 | .int i,.int j=>Q (.int (i+j)) H
 | .str i,.str j=>i.length+j.length<=j6/\Q (.str (i++j)) H
 | .ref a,.ref b=>match H a,H b with
  | some (.lst xs),some (.lst ys)=>xs.length+ys.length<=j6/\∀p,H p=none->Q (.ref p) (upd H p (.lst (xs++ys)))
  | _,_=>False
 | _,_=>False
theorem c0U:OpR X (R0 .Add) a0V:=by
 refine(c3N.or (b4f.or c3M)).imp fun x y H Q h=>?_
 unfold a0V at h
 split at h
 ·exact .inl ⟨_,_,rfl,rfl,h⟩
 ·exact .inr (.inl ⟨_,_,rfl,rfl,h.1,h.2⟩)
 ·split at h
  ·exact .inr (.inr ⟨_,_,_,_,rfl,rfl,by assumption,by assumption,h.1,h.2⟩)
  ·exact h.elim
 ·exact h.elim
def q2I(C:Int->Int->Prop)(g:Int->Int->V):R2:=fun x y H Q=>match x,y with
 | .int i,.int j=>C i j/\Q (g i j) H
 | _,_=>False
def b2s(g:Int->Int->V):R2:=fun x y H Q=>match x,y with
 | .int i,.int j=>Q (g i j) H
 | _,_=>False
theorem b0Q{f:Value->Value->Sem Value}{C:Int->Int->Prop}{g:Int->Int->V}(h:OpR X f (rI C g)):OpR X f (q2I C g):=h.imp fun x y H Q q=>by
 unfold q2I at q
 split at q
 ·exact⟨_,_,rfl,rfl,q.1,q.2⟩
 ·exact q.elim
theorem a6b{f:Value->Value->Sem Value}{g:Int->Int->V}(h:OpR X f (rI0 g)):OpR X f (b2s g):=h.imp fun x y H Q q=>by
 unfold b2s at q
 split at q
 ·exact⟨_,_,rfl,rfl,q⟩
 ·exact q.elim
abbrev b3V:R2:=b2s fun i j=>.int (i - j)
abbrev b2r:R2:=q2I c1K fun i j=>.int (i * j)
abbrev a7x:R2:=q2I (fun _ j=>0<j) fun i j=>.int (i % j)
abbrev c2U:R2:=q2I c5T fun i j=>.int (i ^ j.toNat)
abbrev c0k:R2:=q2I (fun _ j=>0<j/\j<2 ^ 64) fun i j=>.int (i / j)
abbrev qLt:R2:=b2s fun i j=>.bl (decide (i<j))
abbrev qLe:R2:=b2s fun i j=>.bl (decide (i<=j))
abbrev qGt:R2:=b2s fun i j=>.bl (decide (j<i))
abbrev qGe:R2:=b2s fun i j=>.bl (decide (j<=i))
theorem c0L:OpR X (R0 .Sub) b3V:=a6b c3A
theorem c0O:OpR X (R0 .Mult) b2r:=b0Q c3J
theorem c0P:OpR X (R0 .Mod) a7x:=b0Q c3K
theorem c0M:OpR X (R0 .Pow) c2U:=b0Q c3I
theorem c0T:OpR X (R0 .FloorDiv) c0k:=b0Q (opI fun i j _ _ _ _ _ hc q=>by
 have hl:j.natAbs.log2<9000:=by
  have:j.natAbs<2 ^ 64:=by have:=hc.1;have:=hc.2;omega
  by_cases h0:j.natAbs=0
  ·rw[h0];decide +kernel
  ·exact Nat.lt_trans ((Nat.log2_lt h0).mpr this) (by decide)
 refine floordiv_int (by omega) ?_ (.inl (PyProof.noPylong_of_log2 hl))
 rw[Int.fdiv_eq_ediv_of_nonneg _ (by omega)]
 exact q)
theorem c3C:OpR X (p5 .Lt) qLt:=a6b c5E
theorem c3D:OpR X (p5 .LtE) qLe:=a6b c5F
theorem c3F:OpR X (p5 .Gt) qGt:=a6b c5G
theorem c3G:OpR X (p5 .GtE) qGe:=a6b c5H
def qIx:R2:=fun x y H Q=>match x,y with
 | .ref p,.int i=>match H p with
  | some (.lst xs)=>∃v,atI xs i=some v/\Q v H
  | some (.tup xs)=>∃v,atI xs i=some v/\Q v H
  | _=>False
 | .str z,.int i=>z.length<=j6/\∃c,atI z.cps.toList i=some c/\Q (.str ⟨#[c]⟩) H
 | _,_=>False
theorem c6w:IxR X qIx:=c4f.imp fun x y H Q h=>by
 unfold qIx at h
 split at h
 ·split at h
  ·obtain⟨v,e,q⟩:=h
   exact .inl ⟨_,_,_,v,rfl,rfl,SqL.of (by assumption),e,q⟩
  ·obtain⟨v,e,q⟩:=h
   exact .inr (.inl ⟨_,_,_,v,rfl,rfl,SqT.of (by assumption),e,q⟩)
  ·exact h.elim
 ·obtain⟨z,c,e,q⟩:=h
  exact .inr (.inr ⟨_,_,c,rfl,rfl,z,e,q⟩)
 ·exact h.elim
def qSl:V->Option Int->Option Int->Hp->VK->Prop:=fun x lo hi H Q=>match x with
 | .ref a=>match H a with
  | some (.lst xs)=>∀p,H p=none->Q (.ref p) (upd H p (.lst (a5t xs lo hi)))
  | some (.tup xs)=>¬(HT.sIx xs.length 0 lo=0/\HT.sIx xs.length xs.length hi=xs.length)/\∀p,H p=none->Q (.ref p) (upd H p (.tup (a5t xs lo hi)))
  | _=>False
 | _=>False
theorem c6i:SlR X qSl:=(b4Q.or c2t).imp fun x lo hi H Q h=>by
 unfold qSl at h
 split at h
 ·split at h
  ·exact .inl ⟨_,_,rfl,SqL.of (by assumption),h⟩
  ·exact .inr ⟨_,_,rfl,SqT.of (by assumption),h.1,h.2⟩
  ·exact h.elim
 ·exact h.elim
def X2:List V->Hp->VK->Prop:=fun xs H Q=>match xs with
 | [.ref p]=>match H p with
  | some (.lst ys)=>Q (.int ys.length) H
  | some (.tup ys)=>Q (.int ys.length) H
  | _=>False
 | [.str z]=>z.length<=j6/\Q (.int z.length) H
 | _=>False
theorem b6L:U3 X (.builtin "len") X2:=(b1x.or b1w).imp fun xs H Q h=>by
 unfold X2 at h
 split at h
 ·split at h
  ·exact .inl ⟨_,_,rfl,.inl (SqL.of (by assumption)),h⟩
  ·exact .inl ⟨_,_,rfl,.inr (SqT.of (by assumption)),h⟩
  ·exact h.elim
 ·exact .inr ⟨_,rfl,h.1,h.2⟩
 ·exact h.elim
def b8i:List V->Hp->VK->Prop:=fun xs H Q=>match xs with
 | [.int i]=>Q (.int (if i<0 then -i else i)) H
 | _=>False
theorem b6P:U3 X (.builtin "abs") b8i:=b9s.imp fun xs H Q h=>by
 unfold b8i at h
 split at h
 ·exact⟨_,rfl,h⟩
 ·exact h.elim
def b0N:V->V->V->Hp->(Hp->Prop)->Prop:=fun o i v H Q=>match o,i with
 | .ref p,.int k=>match H p with
  | some (.lst xs)=>∃j,ixN xs.length k=some j/\Q (upd H p (.lst (xs.set j v)))
  | _=>False
 | _,_=>False
theorem c4P:b9w X b0N:=by
 intro pins s σ H o i v u1 u2 u3 Q I r1 r2 r3 h
 refine b7N pins s σ H o i v u1 u2 u3 Q I r1 r2 r3 ?_
 unfold b0N at h
 split at h
 ·split at h
  ·obtain⟨j,e,q⟩:=h
   exact⟨_,_,_,j,rfl,rfl,by assumption,e,q⟩
  ·exact h.elim
 ·exact h.elim
def O3(xs ys:List V):Bool:=(A0 (min xs.length ys.length)).all (fun j=>eqV (xs.getD j .non) (ys.getD j .non))&&xs.length == ys.length
def eqO(x y:V)(H:Hp):Option Bool:=if b2i x y=true then some (decide (x=y))else match x,y with
 | .ref a,.ref b=>match H a,H b with
  | some (.tup xs),some (.tup ys)=>if xs.all J0=true/\ys.all J0=true then some (O3 xs ys)else none
  | some (.lst xs),some (.lst ys)=>if xs.all J0=true/\ys.all J0=true then some (O3 xs ys)else none
  | _,_=>none
 | .non,.ref a=>match H a with
  | some (.tup _)=>some false
  | _=>none
 | .ref a,.non=>match H a with
  | some (.tup _)=>some false
  | _=>none
 | _,_=>none
def qEq:R2:=fun x y H Q=>∃b,eqO x y H=some b/\Q (.bl b) H
def qNe:R2:=fun x y H Q=>∃b,eqO x y H=some b/\Q (.bl (!b)) H
theorem a4C{A:E9}{ys:List V}{ws:List Value}(rx:D6 xs us)(ry:D6 ys ws)(fx:xs.all J0=true)(fy:ys.all J0=true) :
  ∀j (h1:j<us.toArray.size) (h2:j<ws.toArray.size),SeqAt.EqAt A s us.toArray[j] ws.toArray[j] (eqV (xs.getD j .non) (ys.getD j .non)):=by
 intro j h1 h2
 have l1:=rx.length
 have l2:=ry.length
 have h1':j<us.length:=by simpa using h1
 have h2':j<ws.length:=by simpa using h2
 have e1:xs[j]? = some (xs[j]'(by omega)):=by simp
 have e2:ys[j]? = some (ys[j]'(by omega)):=by simp
 obtain⟨u,hu,ru⟩:=rx.get e1
 obtain⟨w,hw,rw'⟩:=ry.get e2
 have z1:us.toArray[j]=u:=by
  have:us[j]? = some us[j]:=by simp
  rw[this]at hu
  simpa using hu
 have z2:ws.toArray[j]=w:=by
  have:ws[j]? = some ws[j]:=by simp
  rw[this]at hw
  simpa using hw
 rw[z1,z2]
 have g1:xs.getD j .non=xs[j]'(by omega):=by simp[L0,e1]
 have g2:ys.getD j .non=ys[j]'(by omega):=by simp[L0,e2]
 rw[g1,g2]
 exact b4A ru rw' (A8.mp fx _ (z7 _)) (A8.mp fy _ (z7 _))
theorem c2b{x y:V}{v:Value}{k:Bool}(I:Inv X pins σ H s)(hu:X.A.units<cLine)(rx:C7 x v)(ry:C7 y u)(hs:¬b2i x y=true)(e:eqO x y H=some k) :
  SeqAt.RcAt X.A s v u k/\SeqAt.RcNeAt X.A s v u (!k):=by
 unfold eqO at e
 rw[if_neg hs]at e
 split at e
 ·rename_i a b
  cases rx
  cases ry
  split at e
  ·rename_i xs ys ha hb
   split at e
   ·rename_i hf
    cases e
    obtain⟨us,r1,t1,_⟩:=I.tuple (SqT.of ha)
    obtain⟨ws,r2,t2,_⟩:=I.tuple (SqT.of hb)
    have l1:=r1.length
    have l2:=r2.length
    have q1:=SeqAt.RcAt.tuples (A:=X.A) t1 t2 hu (a4C r1 r2 hf.1 hf.2)
    have q2:=SeqAt.RcNeAt.tuples (A:=X.A) t1 t2 hu (a4C r1 r2 hf.1 hf.2)
    simp only[g8,<-l1,<-l2]at q1 q2
    exact⟨q1,q2⟩
   ·cases e
  ·rename_i xs ys ha hb
   split at e
   ·rename_i hf
    cases e
    obtain⟨us,r1,t1,_⟩:=I.list (SqL.of ha)
    obtain⟨ws,r2,t2,_⟩:=I.list (SqL.of hb)
    have l1:=r1.length
    have l2:=r2.length
    by_cases hl:us.toArray.size=ws.toArray.size
    ·have q1:=SeqAt.RcAt.lists (A:=X.A) t1.isList t2.isList hl hu (a4C r1 r2 hf.1 hf.2)
     have q2:=SeqAt.RcNeAt.lists (A:=X.A) t1.isList t2.isList hl hu (a4C r1 r2 hf.1 hf.2)
     have hl':xs.length=ys.length:=by simpa[<-l1,<-l2]using hl
     have ef:O3 xs ys=(A0 us.toArray.size).all fun j=>eqV (xs.getD j .non) (ys.getD j .non):=by
      unfold O3
      rw[hl',a9a,g8,<-l1,hl']
      simp
     rw[ef]
     exact⟨q1,q2⟩
    ·have hl2:(us.toArray.size != ws.toArray.size)=true:=by simpa using hl
     have q1:=SeqAt.RcAt.lists_lengths (A:=X.A) t1.isList t2.isList hl2 hu
     have q2:=SeqAt.RcNeAt.lists_lengths (A:=X.A) t1.isList t2.isList hl2 hu
     have ef:O3 xs ys=false:=by
      unfold O3
      have:¬xs.length=ys.length:=by simpa[<-l1,<-l2]using hl
      simp[this]
     rw[ef]
     exact⟨q1,q2⟩
   ·cases e
  ·cases e
 ·cases rx
  cases ry
  split at e
  ·cases e
   obtain⟨us,_,t1,_⟩:=I.tuple (SqT.of (by assumption))
   exact⟨SeqAt.RcAt.none_tuple t1 hu,SeqAt.RcNeAt.none_tuple t1 hu⟩
  ·cases e
 ·cases rx
  cases ry
  split at e
  ·cases e
   obtain⟨us,_,t1,_⟩:=I.tuple (SqT.of (by assumption))
   exact⟨SeqAt.RcAt.tuple_none t1 hu,SeqAt.RcNeAt.tuple_none t1 hu⟩
  ·cases e
 ·cases e
theorem c3H(hu:X.A.units<cLine):OpR X (p5 .Eq) qEq:=by
 intro pins s σ H x y v u Q I rx ry h
 obtain⟨k,e,q⟩:=h
 by_cases hs:b2i x y=true
 ·unfold eqO at e
  rw[if_pos hs]at e
  cases e
  exact c5I pins s σ H x y v u Q I rx ry ⟨hs,q⟩
 ·exact(c2b I hu rx ry hs e).1 _ _ _ _ ⟨.bl k,H,I,rfl,q⟩
theorem c3B(hu:X.A.units<cLine):OpR X (p5 .NotEq) qNe:=by
 intro pins s σ H x y v u Q I rx ry h
 obtain⟨k,e,q⟩:=h
 by_cases hs:b2i x y=true
 ·unfold eqO at e
  rw[if_pos hs]at e
  cases e
  exact c5D pins s σ H x y v u Q I rx ry ⟨hs,q⟩
 ·exact(c2b I hu rx ry hs e).2 _ _ _ _ ⟨.bl (!k),H,I,rfl,q⟩
def qIn(neg:Bool):R2:=fun x y H Q=>match x,y with
 | .str i,.str j=>Q (.bl (if neg then !(!(Builtin.Str.occurrences j i 0 j.length 1).isEmpty)else !(Builtin.Str.occurrences j i 0 j.length 1).isEmpty)) H
 | x,.ref p=>match H p with
  | some (.lst xs)=>J0 x=true/\xs.all J0=true/\Q (.bl (if neg then !inV x xs else inV x xs)) H
  | some (.tup xs)=>J0 x=true/\xs.all J0=true/\Q (.bl (if neg then !inV x xs else inV x xs)) H
  | _=>False
 | _,_=>False
theorem c3E:OpR X (p5 .In) (qIn false):=(b6h.or a9S).imp fun x y H Q h=>by
 unfold qIn at h
 split at h
 ·exact .inl ⟨_,_,rfl,rfl,h⟩
 ·split at h
  ·exact .inr ⟨_,_,rfl,.inl (SqL.of (by assumption)),h.1,h.2.1,h.2.2⟩
  ·exact .inr ⟨_,_,rfl,.inr (SqT.of (by assumption)),h.1,h.2.1,h.2.2⟩
  ·exact h.elim
 ·exact h.elim
theorem b6f:OpR X (p5 .NotIn) (qIn true):=(b0Y.or b0Z).imp fun x y H Q h=>by
 unfold qIn at h
 split at h
 ·exact .inl ⟨_,_,rfl,rfl,h⟩
 ·split at h
  ·exact .inr ⟨_,_,rfl,.inl (SqL.of (by assumption)),h.1,h.2.1,h.2.2⟩
  ·exact .inr ⟨_,_,rfl,.inr (SqT.of (by assumption)),h.1,h.2.1,h.2.2⟩
  ·exact h.elim
 ·exact h.elim
def Z3:V->List V->Hp->VK->Prop:=fun x vs H Q=>match x,vs with
 | .ref l,[y]=>match H l with
  | some (.lst xs)=>xs.length<j6/\Q .non (upd H l (.lst (xs++[y])))
  | _=>False
 | _,_=>False
theorem b4m:MtR X "list.append" Z3:=fun pins s σ H x xs v us Q I rx rv h=>by
 refine a6U pins s σ H x xs v us Q I rx rv ?_
 unfold Z3 at h
 split at h
 ·split at h
  ·exact⟨_,_,_,rfl,rfl,by assumption,h.1,h.2⟩
  ·exact h.elim
 ·exact h.elim
def a2p:List V->Option (List Str)
 | []=>some []
 | .str s::r=>(a2p r).map (s :: ·)
 | _=>none
theorem a5d(ss:List Str):a2p (ss.map V.str)=some ss:=by
 induction ss with
 | nil=>rfl
 | cons s r ih=>simp[a2p,ih]
theorem a2S:∀ {xs:List V} {us:List Value} {ss:List Str},D6 xs us->a2p xs=some ss->StrsAre us ss
 | _,_,ss,.nil,e=>by cases e;exact .nil
 | x::xs,_,ss,.cons r t,e=>by
  cases x with
  | str s=>
   obtain⟨k,rfl⟩:=r
   cases e2:a2p xs with
   | none=>simp[a2p,e2]at e
   | some ss2=>
    simp[a2p,e2]at e
    subst e
    exact .cons _ _ (a2S t e2)
  | _=>simp[a2p]at e
def a9R:V->List V->Hp->VK->Prop:=fun x vs H Q=>match x,vs with
 | .str x,[.ref l]=>match H l with
  | some (.lst xs)=>∃ss,a2p xs=some ss/\(ss.map (·.length)).sum+ss.length * x.length<=16777216/\Q (.str (Txt.join x ss)) H
  | _=>False
 | _,_=>False
theorem b8Q:MtR X "str.join" a9R:=fun pins s σ H x xs v us Q I rx rv h=>by
 unfold a9R at h
 split at h
 ·split at h
  ·obtain⟨ss,e,hk,q⟩:=h
   obtain⟨t,rfl⟩:=rx
   obtain⟨u,rfl,ru⟩:=rv.one
   cases ru
   obtain⟨its,r,p,hz⟩:=I.list (SqL.of (by assumption))
   exact join_list p.isList (a2S r e) hk fun t' k=>⟨.str _,H,I.tok _,⟨_,rfl⟩,q⟩
  ·exact h.elim
 ·exact h.elim
def a1F(x:V)(H:Hp):Option String:=match x with
 | .non=>some "NoneType"
 | .bl _=>some "bool"
 | .int _=>some "int"
 | .str _=>some "str"
 | .ref a=>match H a with
  | some (.lst _)=>some "list"
  | some (.tup _)=>some "tuple"
  | some (.dK _)=>some "dict"
  | some (.dT _)=>some "dict"
  | _=>none
 | _=>none
def b4t(t c:String):Bool:=t == c||(t == "bool" && c == "int")
def a6W:List String:=["int","bool","str","list","tuple","dict"]
theorem c3Y(K:Fg):∀t ∈ "NoneType" :: a6W,∀c∈a6W,c1L K (.type t) (.type c)=some (b4t t c):=by
 intro t ht c hc
 simp only[a6W,g6,j8,or_false]at ht hc
 rcases ht with rfl | rfl | rfl | rfl | rfl | rfl | rfl <;> rcases hc with rfl | rfl | rfl | rfl | rfl | rfl <;> kernel_rfl
theorem c4N{K:Fg}{x:V}{t:String}(h:a1F x H=some t):a7b K H x (.type t)/\t ∈ "NoneType" :: a6W:=by
 unfold a1F at h
 split at h
 ·cases h;exact⟨.non,by decide⟩
 ·cases h;exact⟨.bl _,by decide⟩
 ·cases h;exact⟨.int _,by decide⟩
 ·cases h;exact⟨.str _,by decide⟩
 ·split at h
  ·cases h;exact⟨.lst (by assumption),by decide⟩
  ·cases h;exact⟨.tup (by assumption),by decide⟩
  ·cases h;exact⟨.dK (by assumption),by decide⟩
  ·cases h;exact⟨.dT (by assumption),by decide⟩
  ·cases h
 ·cases h
def a3Y:List V->Hp->VK->Prop:=fun xs H Q=>match xs with
 | [x,.ty c]=>∃t,a1F x H=some t/\c∈a6W/\Q (.bl (b4t t c)) H
 | _=>False
theorem b6M:U3 X (.builtin "isinstance") a3Y:=fun pins s σ H xs us Q I r h=>by
 unfold a3Y at h
 split at h
 ·obtain⟨t,e,hc,q⟩:=h
  obtain⟨u,u2,rfl,ru,ru2⟩:=c1U r
  cases ru2
  obtain⟨ty,ht⟩:=c4N (K:=X.K) e
  exact b6v I ru ty (c3Y X.K t ht _ hc) fun tk=>⟨.bl _,H,I.tok _,rfl,q⟩
 ·exact h.elim
def b5Y:V->V->Hp->VK->Prop:=fun x y H Q=>match x,y with
 | .ref p,.int i=>match H p with
  | some (.lst xs)=>0<=i/\∃v,xs[i.toNat]? = some v/\Q v H
  | _=>False
 | _,_=>False
theorem c5M:c4t X b5Y:=fun pins s σ H o i ov iv Q I r1 r2 h=>by
 unfold b5Y at h
 split at h
 ·split at h
  ·obtain⟨h0,v,e,q⟩:=h
   cases r1
   obtain⟨t,rfl⟩:=r2
   obtain⟨its,r,pl,hz⟩:=I.list (SqL.of (by assumption))
   obtain⟨u,eu,ru⟩:=r.get e
   have hl:=(l7.mp e).1
   have hn:=a5r
   exact wpAny_getItem_list pl.isList h0 (by omega) (by simpa using eu) ⟨v,H,I,ru,q⟩
  ·exact h.elim
 ·exact h.elim
def b0O:R2:=fun x y H Q=>y=.non/\Q (.bl (!decide (x=.non))) H
theorem b6g:OpR X (p5 .IsNot) b0O:=c0V
structure C9(P:u6)(w:World)(K:Fg)(mg:Str->Option Value)(base:Heap)(k:Nat)(x:Str)(ps:List Str)(sp:Sp):Prop where
 ex:∃f fd,J1 P w K mg base CX0 k f fd ps sp/\mg x=some (.ref f)/\M5 K (.ref f)=true/\a2l K fd ps []
theorem c3o{k:Nat}{x:Str}{e:Expr}{es:List Expr}{t:TA}{p:Pos}(C:C9 X.prog X.w X.K X.mg X.base k x ps sp)(hr:L3 j X.A)(hk:k<=j)(hg:Gl X x)(ha:PA X (e::es) t)
  (hdb:(x == ("__debug__" : Str))=false:=by decide) (he:d9 (e::es) X.env=(false,eval e X.env)::d9 es X.env:=by rfl) (hpl:(U1 pos (d9 es X.env)).any (·.1)=false:=by rfl) :
  PE X (.Call (.Name x p) (e::es) [] pos) (u0 sp [] E0 t):=by
 obtain⟨f,fd,F,hm,hkp,hb⟩:=C.ex
 exact c0I F (hr.mono hk) hg hm hkp hb .nil b2t ha hdb he hpl
theorem b6J{P:u6}{K:Fg}{mg:Str->Option Value}{base:Heap}{k:Nat}{x q:Str}{st:Stmt}{f:Addr}{fd:X6}(F:Fun K x q st f fd)(O:J1 P w K mg base CX0 k f fd ps sp)
  (hm:mg x=some (.ref f)) (hb:a2l K fd ps []):C9 P w K mg base k x ps sp:=⟨f,fd,O,hm,F.kp,hb⟩
def a3X:List V->Hp->VK->Prop:=fun xs H Q=>match xs with
 | [.ref p]=>match H p with
  | some (.lst ys)=>∀l,H l=none->Q (.ref l) (upd H l (.lst ys))
  | some (.tup ys)=>∀l,H l=none->Q (.ref l) (upd H l (.lst ys))
  | _=>False
 | _=>False
theorem b4D:U3 X (.type "list") a3X:=b1v.imp fun xs H Q h=>by
 unfold a3X at h
 split at h
 ·split at h
  ·exact⟨_,_,rfl,.inl (SqL.of (by assumption)),h⟩
  ·exact⟨_,_,rfl,.inr (SqT.of (by assumption)),h⟩
  ·exact h.elim
 ·exact h.elim
end
def Its(x:Str):It:=⟨fun i _=>i<x.length,fun i H v H'=>H'=H/\∃c,x.cps[i]? = some c/\v=.str ⟨#[c]⟩,fun i _=>x.length<=i⟩
theorem b7C{P:u6}{K:Fg}{tg:Expr}(x:Str)(t:Tok)(it:Addr):b3g P w K tg (Its x) [it] it (fun i h=>h.IsStrIter it (a2n x) x t i) where
 mem:=by simp
 obj:=fun i h st b hb=>by
  have e:b=it:=by simpa using hb
  subst e
  obtain⟨o,e,c,d⟩:=st
  exact⟨o,e,fun v z=>by rw[d]at z;cases z⟩
 keep:=fun i h h' st k=>let⟨o,ho,r⟩:=st; ⟨o,k it (by simp) o ho,r⟩
 item:=by
  intro X hP hw hK hc i pins s σ H E I hf st hg
  subst hP hw hK
  have hi:i<x.cps.size:=hg
  obtain⟨f0,f1,f2,f3,f4,f5⟩:=hf it (by simp)
  have hx:x.cps[i]? = some x.cps[i]:=by simp[hi]
  have fin:∀h',h'.IsStrIter it (a2n x) x t (i+1)->Heap.SameBut it s.heap h'->∃u,some (Value.str ⟨#[x.cps[i]]⟩ s.toks)=some u /\
    wpAny (model X.prog X.w) X.A (a3H tg (.ref it) u) (fun _ s2=>∃v H',Inv X pins σ H' s2/\C7 v u/\(Its x).yld i H v H'/\s2.heap.IsStrIter it (a2n x) x t (i+1)/\∀b∈[it],H' b=none) E { s with heap:=h',toks:=s.toks+1 }:=by
   intro h' st' sb
   have I1:Inv X pins σ H { s with heap:=h',toks:=s.toks+1 }:=I.turned (t':=s.toks+1) (fun b o hb e=>(sb.2 b hb).trans e) f0 f1 f3 f4 f5
   obtain⟨o,e,c,d⟩:=id st'
   refine⟨_,rfl,b9b (s:={ s with heap:=h',toks:=s.toks+1 }) e c d ?_ ⟨.str ⟨#[x.cps[i]]⟩,H,I1,⟨_,rfl⟩,⟨rfl,_,hx,rfl⟩,st',fun b hb=>(hf b hb).1⟩⟩
   unfold a2n
   split <;> decide
  unfold a2n at st fin ⊢
  split at st
  ·rename_i ha
   simp only[ha]at fin ⊢
   exact wpAny_pyNext_ascii_item st hx fun h' st' sb=>fin h' st' sb
  ·rename_i ha
   simp only[ha]at fin ⊢
   exact wpAny_pyNext_wide_item st hx fun h' st' sb=>fin h' st' sb
 done:=by
  intro X hP hw hK hc i pins s σ H E I hf st hg
  subst hP hw hK
  have hi:x.cps.size<=i:=hg
  obtain⟨f0,f1,f2,f3,f4,f5⟩:=hf it (by simp)
  have hx:x.cps[i]? = none:=by simp[hi]
  unfold a2n at st
  split at st
  ·exact wpAny_pyNext_ascii_end (I.ok.hd hc) st hx fun h' eb=>⟨rfl,I.turned (t':=s.toks) (fun b o hb e=>eb b o hb e) f0 f1 f3 f4 f5⟩
  ·exact wpAny_pyNext_wide_end (I.ok.hd hc) st hx fun h' eb=>⟨rfl,I.turned (t':=s.toks) (fun b o hb e=>eb b o hb e) f0 f1 f3 f4 f5⟩
 self:=fun _ _ _ _ _ st h=>by
  unfold a2n at st
  split at st
  ·exact wpAny_pyIter_striter_ascii st h
  ·exact wpAny_pyIter_striter_wide st h
def c1r(tl:TE):TI:=fun σ H R=>tl σ H fun v H1=>∃x,v=.str x/\R (Its x) H1
section
variable {tg:Expr}
theorem c3j{l:Expr}{tl:TE}(hl:PE X l tl):PI X tg l (c1r tl):=by
 intro pins s σ H R I h
 refine thn (hl pins s σ H _ I h) fun v s1 ⟨y,H1,I1,r1,x,e,q1⟩=>?_
 subst e
 obtain⟨t,rfl⟩:=r1
 refine wpAny_pyIter_strU ?_
 have k:∀b u,s1.heap.get? b=some u->(s1.heap.push { cls:=.type (a2n x),data:=.fields #[.str x t,.int 0 0] }).get? b=some u:=fun b u q=>c5 _ q
 refine⟨s1.heap.objs.size,[s1.heap.objs.size],_,Its x,H1,rfl,I1.kept (t':=s1.toks) k,b7C x t _,⟨_,h9 _ rfl,rfl,rfl⟩,fun b hb=>?_,q1⟩
 have e:b=s1.heap.objs.size:=by simpa using hb
 subst e
 exact I1.fpOk (d5 _) I1.fresh
def Q6:List V->Option (List Bool)
 | []=>some []
 | .bl b::r=>(Q6 r).map (b :: ·)
 | _=>none
theorem a7a:∀ {xs:List V} {bs:List Bool} {i:Nat} {x:V},Q6 xs=some bs->xs[i]? = some x->∃b,bs[i]? = some b/\x=.bl b
 | [],_,_,_,_,h=>by simp at h
 | y::r,bs,i,x,e,h=>by
  cases y with
  | bl b=>
   cases e2:Q6 r with
   | none=>simp[Q6,e2]at e
   | some bs2=>
    simp[Q6,e2]at e
    subst e
    cases i with
    | zero=>simp at h;exact⟨b,rfl,h.symm⟩
    | succ i=>
     obtain⟨b',h1,h2⟩:=a7a (i:=i) e2 (by simpa using h)
     exact⟨b',by simpa using h1,h2⟩
  | _=>simp[Q6]at e
theorem a6Z:∀ {xs:List V} {bs:List Bool},Q6 xs=some bs->xs.length=bs.length
 | [],_,e=>by cases e;rfl
 | y::r,bs,e=>by
  cases y with
  | bl b=>
   cases e2:Q6 r with
   | none=>simp[Q6,e2]at e
   | some bs2=>
    simp[Q6,e2]at e
    subst e
    simp[a6Z e2]
  | _=>simp[Q6]at e
theorem b6S(bs:List Bool):((A0 bs.length).all fun i=>(bs[i]?).getD true)=bs.all id:=by
 rw[X9,A8,A8]
 constructor
 ·intro h b hb
  obtain⟨i,hi,rfl⟩:=b7c.mp hb
  have:=h i (by simpa using hi)
  simpa[hi]using this
 ·intro h i hi
  have hl:i<bs.length:=by simpa using hi
  have:=h bs[i] (z7 _)
  simpa[hl]using this
def b0P:List V->Hp->VK->Prop:=fun vs H Q=>match vs with
 | [.ref l]=>match H l with
  | some (.lst xs)=>∃bs,Q6 xs=some bs/\Q (.bl (bs.all id)) H
  | _=>False
 | _=>False
theorem b6O(hc:X.calm=true):U3 X (.builtin "all") b0P:=fun pins s σ H xs us Q I r h=>by
 unfold b0P at h
 split at h
 ·split at h
  ·rename_i l _ ys hl
   obtain⟨bs,e,q⟩:=h
   obtain⟨u,rfl,ru⟩:=a4Q r
   cases ru
   obtain⟨its,rv,pl,hz⟩:=I.list (SqL.of hl)
   have hlt:l<s.heap.objs.size:=by obtain⟨_,e,_⟩:=pl.isList;exact d7 e
   have hlen:=rv.length
   have hbl:=a6Z e
   refine call_all_walk (a5A pl.isList ?_)
   refine⟨s.heap.objs.size,[s.heap.objs.size,l],[s.heap.objs.size],its.toArray.size,_,_,fun i=>(bs[i]?).getD true,rfl,Walks.list (A:=X.A.in1) (I.ok.hd hc) _ l (o5 hlt) its.toArray,
    ⟨⟨_,h9 _ rfl,rfl,rfl⟩,pl.isList.push _⟩,fun i v s' Q' E' hP hQ=>?_,fun h' tk hk=>?_⟩
   ·have hP:its[i]? = some v:=by simpa using hP
    have hi:i<ys.length:=by rw[hlen];exact(l7.mp hP).1
    have ey:ys[i]? = some ys[i]:=by simp[hi]
    obtain⟨b,eb,ez⟩:=a7a e ey
    obtain⟨u,eu,ru⟩:=rv.get ey
    rw[hP]at eu
    cases eu
    rw[ez]at ru
    cases ru
    simp only[eb,a3y]at hQ
    exact G6 hQ
   ·have e2:((A0 its.toArray.size).all fun i=>(bs[i]?).getD true)=bs.all id:=by
     rw[g8,<-hlen,hbl]
     exact b6S bs
    rw[e2]
    exact⟨.bl _,H,I.kept (t':=tk) fun b x e=>hk b x (fun hm=>by rw[c6.mp hm]at e;exact E8 _ (d7 e)) (c5 _ e),rfl,q⟩
  ·exact h.elim
 ·exact h.elim
end
section
theorem Inv.turnedL{h':Heap}{t':Nat}(I:Inv X pins σ H s)(k:∀b o,b∉fp->s.heap.get? b=some o->h'.get? b=some o)(hf:∀b∈fp,a4J X pins H b) :
  Inv X pins σ H { s with heap:=h',toks:=t' }:=by
 have nit:∀b u,H b=some u->b∉fp:=fun b u e z=>by rw[(hf b z).1]at e;cases e
 refine I.step (g':=s.gens) (d':=s.drawn) (ch:=fp) (fun b hb=>?_) (fun b o _ _ hc e _=>k b o hc e) (fun b o _ _ hc e _=>⟨o.slots,k b o hc e⟩) (fun _ _ _ _ n=>n)
  (fun b o hc e=>⟨o,k b o hc e⟩) (fun _ _ e=>e) (fun _ _ _ e=>e) (fun b ps e=>⟨#[],by rw[e];simp⟩) (fun m hm=>?_) (fun b u e=>?_) I.bare
 ·obtain⟨_,f1,_,f3,f4,f5⟩:=hf b hb
  exact⟨f3,f1,f4,f5⟩
 ·obtain⟨o,es,ep,ho,r⟩:=hm
  exact⟨o,es,ep,k _ o (fun z=>(hf _ z).2.1 rfl) ho,r⟩
 ·refine(I.hok b u e).stay (fun c v hc q=>k c v ?_ q) (fun _ q=>q) fun _ _ q=>q
  rcases hc with z | z
  ·rw[z];exact nit b u e
  ·exact nit c _ z
theorem Inv.pairL{h':Heap}{t':Nat}{x y:V}{v:Value}(I:Inv X pins σ H s)(hf:∀b∈fp,a4J X pins H b)(fl:∀b∈fp,b≠s.heap.objs.size)
  (rx:C7 x u) (ry:C7 y v) (ht:h'.get? s.heap.objs.size=some { cls:=.type "tuple",data:=.seq #[u,v] }) (k:∀b o,b∉fp->s.heap.get? b=some o->h'.get? b=some o) :
  Inv X pins σ (upd H s.heap.objs.size (.tup [x,y])) { s with heap:=h',toks:=t' }:=by
 have I1:Inv X pins σ (upd H s.heap.objs.size (.tup [x,y])) { s with heap:=s.heap.push { cls:=.type "tuple",data:=.seq #[u,v] },toks:=s.toks }:=
  I.laid (fun b u e=>c5 _ e) (d5 _) ⟨by show 2<=j6;decide,[u,v],.cons rx (.cons ry .nil),⟨_,h9 _ rfl,rfl,_,rfl⟩⟩
 refine Inv.turnedL (s:={ s with heap:=s.heap.push { cls:=.type "tuple",data:=.seq #[u,v] },toks:=s.toks }) (fp:=fp) I1 (fun b o hb e=>?_) fun b hb=>⟨by rw[j5 (fl b hb)];exact(hf b hb).1,(hf b hb).2⟩
 by_cases hz:b=s.heap.objs.size
 ·subst hz
  have e2:=h9 s.heap (o:={ cls:=.type "tuple",data:=.seq #[u,v] }) rfl
  rw[show(s.heap.push { cls:=.type "tuple",data:=.seq #[u,v] }).get? s.heap.objs.size=some o from e]at e2
  cases e2
  exact ht
 ·refine k b o hb ?_
  have e:(s.heap.push { cls:=.type "tuple",data:=.seq #[u,v] }).get? b=some o:=e
  rwa [Heap.get?_push_ne _ _ _ hz]at e
def Ite(K:Fg)(a:Addr):It:=
 ⟨fun i H=>∃xs x,SqL K H a xs/\xs[i]? = some x,fun i H v H'=>∃p x,H p=none/\v=.ref p/\H'=upd H p (.tup [.int i,x])/\∀xs,SqL K H a xs->xs[i]? = some x,fun i H=>∃xs,SqL K H a xs/\xs.length<=i⟩
theorem b5J{P:u6}{K:Fg}{x1}(a e it:Addr)(hne:e≠it):b3g P w K (.Tuple elts x1 tp) (Ite K a) [e,it] e (fun i h=>(∃old,IsEnum h e it i old)/\h.IsListIter it a i) where
 mem:=by simp
 obj:=fun i h st b hb=>by
  obtain⟨⟨old,he⟩,o,e1,c,d⟩:=st
  rcases g6.mp hb with rfl | hb
  ·exact⟨_,he,fun v z=>by
    have z':Data.fields _=Data.cell v:=z
    cases z'⟩
  ·have:b=it:=by simpa using hb
   subst this
   exact⟨o,e1,fun v z=>by rw[d]at z;cases z⟩
 keep:=fun i h h' st k=>by
  obtain⟨⟨old,he⟩,hi⟩:=st
  exact⟨⟨old,k e (by simp) _ he⟩,hi.at fun o q=>k it (by simp) o q⟩
 item:=by
  intro X hP hw hK hc i pins s σ H E I hf st hg
  subst hP hw hK
  obtain⟨⟨old,he⟩,hit⟩:=st
  obtain⟨xs,x,hq,hx⟩:=hg
  obtain⟨its,rv,p,hz⟩:=I.list hq
  obtain⟨u,hu,ru⟩:=rv.get hx
  refine wpAny_pyNext_enum_item he hit p.isList (x:=u) (by simpa using hu) hne fun h1 ho hit1 hT hsz hk=>?_
  refine⟨_,rfl,?_⟩
  refine wpAny_letOwnedTupleGo_enum (s:={ s with heap:=h1,toks:=s.toks+1 }) ho fun h2 he2 hs2=>?_
  have hs2:Heap.SameBut e h1 h2:=hs2
  have le:e≠s.heap.objs.size:=o5 (d7 he)
  have li:it≠s.heap.objs.size:=by obtain⟨_,q,_⟩:=hit;exact o5 (d7 q)
  have fl:∀b∈[e,it],b≠s.heap.objs.size:=fun b hb=>by
   rcases g6.mp hb with rfl | hb
   ·exact le
   ·have:b=it:=by simpa using hb
    subst this;exact li
  have I2:=I.pairL (h':=h2) (t':=s.toks+1) (x:=.int i) (y:=x) (u:=.int i s.toks) (v:=u) hf fl ⟨_,rfl⟩ ru ((hs2.2 _ (Ne.symm le)).trans hT) fun b o hb q=>by
   have n1:b≠e:=fun z=>hb (by simp[z])
   have n2:b≠it:=fun z=>hb (by simp[z])
   exact(hs2.2 b n1).trans (hk b o n1 n2 q)
  refine⟨.ref s.heap.objs.size,_,I2,rfl,⟨_,x,I.fresh,rfl,rfl,fun ys hy=>by rw[I.list_inj hy hq];exact hx⟩,⟨⟨u,by simpa using he2⟩,hit1.at fun o q=>(hs2.2 it (Ne.symm hne)).trans q⟩,fun b hb=>?_⟩
  rw[j5 (fl b hb)];exact(hf b hb).1
 done:=by
  intro X hP hw hK hc i pins s σ H E I hf st hg
  subst hP hw hK
  obtain⟨⟨old,he⟩,hit⟩:=st
  obtain⟨xs,hq,hx⟩:=hg
  obtain⟨its,rv,p,hz⟩:=I.list hq
  obtain⟨f0,f1,f2,f3,f4,f5⟩:=hf it (by simp)
  have hl:=rv.length
  exact wpAny_pyNext_enum_end (I.ok.hd hc) he hit p.isList (by simp;omega) fun h' eb=>⟨rfl,I.turned (t':=s.toks) (fun b o hb e=>eb b o hb e) f0 f1 f3 f4 f5⟩
 self:=fun _ _ _ _ _ st h=>by
  obtain⟨⟨old,he⟩,_⟩:=st
  exact wpAny_pyIter_enum he h
def a8G(K:Fg)(ta:TA):TI:=fun σ H R=>ta σ H fun vs H1=>∃a,vs=[.ref a]/\(∃xs,SqL K H1 a xs)/\R (Ite K a) H1
theorem c0A{x1}{a:Expr}{ta:TA}(hg:Gl X "enumerate")(hm:X.mg "enumerate" = none)(ha:PA X [a] ta)(hs:d9 [a] X.env=[(false,eval a X.env)]:=by rfl) :
  PI X (.Tuple elts x1 tp) (.Call (.Name "enumerate" p) [a] [] pos) (a8G X.K ta):=by
 intro pins s σ H R I h
 refine Call_ (a4g I hg hm boot_enumerate (N3 (thn (ha pos pins s σ H _ I h) fun us s1 ⟨vs,H1,I1,r1,q1⟩=>?_) hs rfl))
 obtain⟨b,e,⟨xs,hq⟩,q⟩:=q1
 subst e
 cases r1 with
 | cons r rr=>
  cases rr
  cases r
  obtain⟨its,rv,pl,hz⟩:=I1.list hq
  refine call_enumerate_list pl.isList fun h' he hit hsz hk=>?_
  have I2:Inv X pins σ H1 { s1 with heap:=h' }:=I1.kept (t':=s1.toks) hk
  refine wpAny_pyIter_enum he ⟨_,[s1.heap.objs.size+1,s1.heap.objs.size],_,_,H1,rfl,I2,b5J b (s1.heap.objs.size+1) s1.heap.objs.size (Nat.succ_ne_self _),⟨⟨_,he⟩,hit⟩,fun c hc=>?_,q⟩
  rcases g6.mp hc with rfl | hc
  ·exact I1.fpOk (by omega) (I1.hok.fresh (by omega))
  ·have:c=s1.heap.objs.size:=by simpa using hc
   subst this
   exact I1.fpOk (d5 _) (I1.hok.fresh (d5 _))
def Itz(K:Fg)(a b:Addr):It:=
 ⟨fun i H=>∃xs ys x y,SqL K H a xs/\SqL K H b ys/\xs[i]? = some x/\ys[i]? = some y,fun i H v H'=>∃p x y,H p=none/\v=.ref p/\H'=upd H p (.tup [x,y])/\(∀xs,SqL K H a xs->xs[i]? = some x)/\∀ys,SqL K H b ys->ys[i]? = some y,
  fun i H=>∃xs ys,SqL K H a xs/\SqL K H b ys/\(xs.length<=i\/ys.length<=i)⟩
theorem O1{h:Heap}{a b:Addr}{o o':Obj}(h1:h.get? a=some o)(h2:h.get? b=some o')(hc:o.cls≠o'.cls):a≠b:=fun z=>by
 subst z;rw[h1]at h2;cases h2;exact hc rfl
theorem b7B{P:u6}{K:Fg}{x1}(a b z TI TO i1 i2:Addr)(n1:TI≠z)(n2:TO≠z)(n3:i1≠z)(n4:i2≠z)(n5:TI≠TO)(n6:TI≠i1)(n7:TI≠i2)(n8:TO≠i1)(n9:TO≠i2)(n10:i1≠i2) :
  b3g P w K (.Tuple elts x1 tp) (Itz K a b) [z,TI,TO,i1,i2] z (fun i h=>IsZip h z TI TO .none/\IsPair h TI (.ref i1) (.ref i2)/\(∃u v,IsPair h TO u v)/\h.IsListIter i1 a i/\h.IsListIter i2 b i) where
 mem:=by simp
 obj:=fun i h st c hb=>by
  obtain⟨hz,hTI,⟨u,v,hTO⟩,⟨o1,e1,c1,d1⟩,⟨o2,e2,c2,d2⟩⟩:=st
  simp only[g6,j8,or_false]at hb
  rcases hb with rfl | rfl | rfl | rfl | rfl
  ·exact⟨_,hz,fun v z=>by
    have z':Data.fields _=Data.cell v:=z
    cases z'⟩
  ·exact⟨_,hTI,fun v z=>by
    have z':Data.seq _ _=Data.cell v:=z
    cases z'⟩
  ·exact⟨_,hTO,fun v z=>by
    have z':Data.seq _ _=Data.cell v:=z
    cases z'⟩
  ·exact⟨o1,e1,fun v z=>by rw[d1]at z;cases z⟩
  ·exact⟨o2,e2,fun v z=>by rw[d2]at z;cases z⟩
 keep:=fun i h h' st k=>by
  obtain⟨hz,hTI,⟨u,v,hTO⟩,h1,h2⟩:=st
  exact⟨k z (by simp) _ hz,k TI (by simp) _ hTI,⟨u,v,k TO (by simp) _ hTO⟩,h1.at fun o q=>k i1 (by simp) o q,h2.at fun o q=>k i2 (by simp) o q⟩
 item:=by
  intro X hP hw hK hc i pins s σ H E I hf st hg
  subst hP hw hK
  obtain⟨hz,hTI,⟨u,v,hTO⟩,h1,h2⟩:=st
  obtain⟨xs,ys,x,y,hqa,hqb,hx,hy⟩:=hg
  obtain⟨ia,ra,pa,za⟩:=I.list hqa
  obtain⟨ib,rb,pb,zb⟩:=I.list hqb
  obtain⟨ux,hux,rux⟩:=ra.get hx
  obtain⟨uy,huy,ruy⟩:=rb.get hy
  obtain⟨oa,la,ca,_⟩:=id pa.isList
  obtain⟨ob,lb,cb,_⟩:=id pb.isList
  obtain⟨o1,e1,c1,_⟩:=id h1
  obtain⟨o2,e2,c2,_⟩:=id h2
  have D:ZipApart z TI TO i1 i2 a b:=⟨n1,n2,n3,n4,n5,n6,n7,n8,n9,n10,
   O1 la hz (by rw[ca];intro z;injection z with z;revert z;decide),O1 la hTO (by rw[ca];intro z;injection z with z;revert z;decide),O1 la e1 (by rw[ca,c1];intro z;injection z with z;revert z;decide),O1 la e2 (by rw[ca,c2];intro z;injection z with z;revert z;decide),
   O1 lb hz (by rw[cb];intro z;injection z with z;revert z;decide),O1 lb hTO (by rw[cb];intro z;injection z with z;revert z;decide),O1 lb e1 (by rw[cb,c1];intro z;injection z with z;revert z;decide),O1 lb e2 (by rw[cb,c2];intro z;injection z with z;revert z;decide)⟩
  refine wpAny_pyNext_zip_item D hz hTI hTO h1 h2 pa.isList pb.isList (x:=ux) (y:=uy) (by simpa using hux) (by simpa using huy) fun h3 a1 a2 a3 a4 a5 a6 hk=>?_
  refine⟨_,rfl,?_⟩
  refine wpAny_letOwnedTupleGo_zip (s:={ s with heap:=h3 }) a1 fun h4 hz4 hs4=>?_
  have hs4:Heap.SameBut z h3 h4:=hs4
  have lz:z≠s.heap.objs.size:=o5 (d7 hz)
  have fl:∀c∈[z,TI,TO,i1,i2],c≠s.heap.objs.size:=fun c hc=>by
   simp only[g6,j8,or_false]at hc
   rcases hc with rfl | rfl | rfl | rfl | rfl
   ·exact lz
   ·exact o5 (d7 hTI)
   ·exact o5 (d7 hTO)
   ·exact o5 (d7 e1)
   ·exact o5 (d7 e2)
  have I2:=I.pairL (h':=h4) (t':=s.toks) (x:=x) (y:=y) (u:=ux) (v:=uy) hf fl rux ruy ((hs4.2 _ (Ne.symm lz)).trans a5) fun c o hc q=>by
   have m1:c≠z:=fun z=>hc (by simp[z])
   have m3:c≠TO:=fun z=>hc (by simp[z])
   have m4:c≠i1:=fun z=>hc (by simp[z])
   have m5:c≠i2:=fun z=>hc (by simp[z])
   exact(hs4.2 c m1).trans (hk c o m1 m3 m4 m5 q)
  refine⟨.ref s.heap.objs.size,_,I2,rfl,⟨_,x,y,I.fresh,rfl,rfl,fun zs hy=>by rw[I.list_inj hy hqa];exact hx,fun zs hy'=>by rw[I.list_inj hy' hqb];exact hy⟩,
   ⟨hz4,hs4.extBut _ _ n1 (hk _ _ n1 n5 n6 n7 hTI),⟨_,_,hs4.extBut _ _ n2 a2⟩,a3.extBut hs4.extBut n3,a4.extBut hs4.extBut n4⟩,fun c hc=>?_⟩
  rw[j5 (fl c hc)];exact(hf c hc).1
 done:=by
  intro X hP hw hK hc i pins s σ H E I hf st hg
  subst hP hw hK
  obtain⟨hz,hTI,⟨u,v,hTO⟩,h1,h2⟩:=st
  obtain⟨xs,ys,hqa,hqb,hx⟩:=hg
  obtain⟨ia,ra,pa,za⟩:=I.list hqa
  obtain⟨ib,rb,pb,zb⟩:=I.list hqb
  obtain⟨oa,la,ca,_⟩:=id pa.isList
  obtain⟨ob,lb,cb,_⟩:=id pb.isList
  obtain⟨o1,e1,c1,_⟩:=id h1
  obtain⟨o2,e2,c2,_⟩:=id h2
  have D:ZipApart z TI TO i1 i2 a b:=⟨n1,n2,n3,n4,n5,n6,n7,n8,n9,n10,
   O1 la hz (by rw[ca];intro z;injection z with z;revert z;decide),O1 la hTO (by rw[ca];intro z;injection z with z;revert z;decide),O1 la e1 (by rw[ca,c1];intro z;injection z with z;revert z;decide),O1 la e2 (by rw[ca,c2];intro z;injection z with z;revert z;decide),
   O1 lb hz (by rw[cb];intro z;injection z with z;revert z;decide),O1 lb hTO (by rw[cb];intro z;injection z with z;revert z;decide),O1 lb e1 (by rw[cb,c1];intro z;injection z with z;revert z;decide),O1 lb e2 (by rw[cb,c2];intro z;injection z with z;revert z;decide)⟩
  have la':=ra.length
  have lb':=rb.length
  have hend:ia.toArray[i]? = none\/ib.toArray[i]? = none:=by
   rcases hx with hx | hx
   ·left;simp;omega
   ·right;simp;omega
  refine wpAny_pyNext_zip_end (I.ok.hd hc) D hz hTI hTO h1 h2 pa.isList pb.isList hend fun h' hk=>⟨rfl,?_⟩
  refine I.turnedL (t':=s.toks) (fp:=[z,TI,TO,i1,i2]) (fun c o hc q=>?_) hf
  exact hk c o (fun z=>hc (by simp[z])) (fun z=>hc (by simp[z])) (fun z=>hc (by simp[z])) (fun z=>hc (by simp[z])) q
 self:=fun _ _ _ _ _ st h=>wpAny_pyIter_zip st.1 h
def c1q(K:Fg)(ta:TA):TI:=fun σ H R=>ta σ H fun vs H1=>∃a b,vs=[.ref a,.ref b]/\(∃xs,SqL K H1 a xs)/\(∃xs,SqL K H1 b xs)/\R (Itz K a b) H1
theorem c3i{x1}{a b:Expr}{ta:TA}(hg:Gl X "zip")(hm:X.mg "zip" = none)(ha:PA X [a,b] ta)(hs:d9 [a,b] X.env=[(false,eval a X.env),(false,eval b X.env)]:=by rfl)(hs2:d9 [b] X.env=[(false,eval b X.env)]:=by rfl) :
  PI X (.Tuple elts x1 tp) (.Call (.Name "zip" p) [a,b] [] pos) (c1q X.K ta):=by
 intro pins s σ H R I h
 refine Call_ (a4g I hg hm boot_zip (N3 (thn (ha pos pins s σ H _ I h) fun us s1 ⟨vs,H1,I1,r1,q1⟩=>?_) (by rw[hs,hs2]) (by rw[hs2];rfl)))
 obtain⟨c,d,e,⟨xs,hq⟩,⟨ys,hq'⟩,q⟩:=q1
 subst e
 cases r1 with
 | cons r rr=>
  cases rr with
  | cons r' rr=>
   cases rr
   cases r
   cases r'
   obtain⟨ia,ra,pa,za⟩:=I1.list hq
   obtain⟨ib,rb,pb,zb⟩:=I1.list hq'
   refine call_zip_2 pa.isList pb.isList fun h' hz hTI hTO h1 h2 hsz hk=>?_
   have I2:Inv X pins σ H1 { s1 with heap:=h' }:=I1.kept (t':=s1.toks) hk
   have N:∀n:Nat,n+2≠n+4/\n+3≠n+4/\n≠n+4/\n+1≠n+4/\n+2≠n+3/\n+2≠n/\n+2≠n+1/\n+3≠n/\n+3≠n+1/\n≠n+1:=fun n=>by omega
   obtain⟨m1,m2,m3,m4,m5,m6,m7,m8,m9,m10⟩:=N s1.heap.objs.size
   refine wpAny_pyIter_zip hz ⟨_,[s1.heap.objs.size+4,s1.heap.objs.size+2,s1.heap.objs.size+3,s1.heap.objs.size,s1.heap.objs.size+1],_,_,H1,rfl,I2,
    b7B c d (s1.heap.objs.size+4) (s1.heap.objs.size+2) (s1.heap.objs.size+3) s1.heap.objs.size (s1.heap.objs.size+1) m1 m2 m3 m4 m5 m6 m7 m8 m9 m10,⟨hz,hTI,⟨_,_,hTO⟩,h1,h2⟩,fun y hy=>?_,q⟩
   have:s1.heap.objs.size<=y:=by
    simp only[g6,j8,or_false]at hy
    rcases hy with rfl | rfl | rfl | rfl | rfl
    ·exact a4o _ _
    ·exact a4o _ _
    ·exact a4o _ _
    ·exact d5 _
    ·exact a4o _ _
   exact I1.fpOk this (I1.hok.fresh this)
end
def b1k(x y:Str)(N:List Str):List Str:=N.map fun z=>if z=x then ("." : Str)++x else if z=y then ("." : Str)++y else z
def O4(X:Cx)(scope:Scope)(cl:List (Str×Addr))(C:Addr)(x y:Str)(fp:List Addr)(s3:d3)(H3:Hp):Cx:=
 { X with N:=x::y::b1k x y X.N,s₀:=s3,H₀:=H3,env:=b6X scope cl C X.env,outer:=X.stack,stack:=X.stack,ex:=fp,fn:=fun _=>false,pn:=[],xe:=fun _ _=>False }
structure a3r(N:List Str)(osc sc:Scope)(x y:Str):Prop where
 kind:sc.kind=.function
 cell:∀y∈sc.names,y.2≠.cell
 names:∀y∈sc.names,y.2=.local->sc.names.lookup y.1=some .local
 own:sc.names.lookup x=some .local
 own2:sc.names.lookup y=some .local
 fr:∀y∈sc.names,y.2=.free->osc.names.lookup y.1=some .cell\/osc.names.lookup y.1=some .free
 see:∀z∈b1k x y N,sc.names.lookup z≠some .local
 dot:sc.names.lookup (("." : Str)++x)=none
 dot2:sc.names.lookup (("." : Str)++y)=none
 nd:(x::y::b1k x y N).Nodup
def a8e(K:Fg)(wi:TI)(tt:TT)(te:TE):TE:=fun σ H Q=>wi σ H fun J H1=>∀D,H1 D=none->∃W:Nat->Nat->List V->Hp->Prop,
 (∃m,W 0 m [] (upd H1 D (.lst [])))/\∀i m ys H2,W i m ys H2->H2 D=some (.lst ys) /\
  ((J.stop i H2 /\ Q (.ref D) H2) \/ (J.go i H2 /\ ∀ x H3,J.yld i H2 x H3 -> ∃ a u v,x = .ref a /\ SqT K H3 a [u,v] /\ tt (some u :: some v :: σ) H3 fun ok H4 => if ok = true then
    te (some u::some v::σ) H4 (fun y H5=>H5 D=some (.lst ys)/\ys.length<j6/\∃m',m'<m/\W (i+1) m' (ys++[y]) (upd H5 D (.lst (ys++[y]))))
    else ∃m',m'<m/\W (i+1) m' ys H4))
section
variable {x x2:Str}{px py2 pt:Pos}{kt}
theorem b6D{s3:d3}{h4:Heap}{tk:Nat}(hc:a3r X.N X.env.scope scope x x2)(I:Inv X pins σ H s3)
  (hcl:∀y c,cl.lookup y=some c->X.env.cells.lookup y=some c) (hcl2:∀y,(y,NameKind.free)∈scope.names->(cl.lookup y).isSome=true)
  (fpo:∀b∈fp,a4J X pins H b) (fpl:∀b∈fp,b<s3.heap.objs.size)
  (hn:h4.Ns s3.heap.objs.size (fun _=>none)) (k:∀b o,s3.heap.get? b=some o->h4.get? b=some o) :
  Inv (O4 X scope cl s3.heap.objs.size x x2 fp s3 H) [] (none::none::σ) H { s3 with heap:=h4,toks:=tk }:=by
 have low:∀x y,(O4 X scope cl s3.heap.objs.size x x2 fp s3 H).env.cells.lookup y=cl.lookup y:=fun _ _=>rfl
 have below:∀y c,cl.lookup y=some c->c<s3.heap.objs.size:=fun y c e=>by
  obtain⟨v,q⟩:=I.cell y c (hcl y c e)
  exact q.lt
 have kinds:∀y,((O4 X scope cl s3.heap.objs.size x x2 fp s3 H).env.kindOf y=some .cell\/(O4 X scope cl s3.heap.objs.size x x2 fp s3 H).env.kindOf y=some .free)->scope.names.lookup y=some .free:=by
  intro y hy
  rcases hy with hy | hy
  ·rcases J7 hy with q | ⟨q,_⟩
   ·exact absurd rfl (hc.cell _ (w6 q))
   ·exact q
  ·rcases J7 hy with q | ⟨q,z⟩
   ·exact q
   ·cases z
 refine⟨⟨I.ok.mod,?_,I.ok.glob,I.ok.blt,d5 _,fun y z c h1 h2=>?_,fun y hy=>?_,fun y c h=>?_,I.ok.hd,I.ok.frames,.inl rfl,fun b hb=>⟨?_,fun y c e z=>?_⟩,fun b o e=>I.bs b o e,E3 I.ok.bsz I.sz,fun b o e hb=>?_,fun b hb hf=>?_,I.stack,I.stkFree⟩,
  rfl,I.bare,Un.kept k,⟨_,hn,fun i y v h1 h2 h3=>?_⟩,fun y c e=>?_,I.fresh,fun y c e=>?_,fun p hp=>absurd (show p∈([]:List (Addr×Obj))from hp) (by simp),I.hok.kept k,?_⟩
 ·exact hc.kind
 ·exact I.ok.inj y z c (hcl _ _ h1) (hcl _ _ h2)
 ·have:=hcl2 y (w6 (kinds y hy))
  exact T1.mp this
 ·cases h
 ·exact o5 (fpl b hb)
 ·exact(fpo b hb).2.2.2.2.1 y c (hcl y c e) z
 ·rcases(fpo b hb).2.2.2.1 with q | q
  ·exact I.ok.noex b o e q
  ·exact absurd (v5 (d7 (I.ok.bs b o e).1) q) (E8 _)
 ·rcases g6.mp (I.stkSub b hf)with e | e
  ·exact(fpo b hb).2.1 e
  ·exact(fpo b hb).2.2.1 e
 ·-- the names
  have h1:(x::x2::b1k x x2 X.N)[i]? = some y:=h1
  cases i with
  | zero=>cases h2
  | succ i=>
   cases i with
   | zero=>cases h2
   | succ i=>
   have h1:(b1k x x2 X.N)[i]? = some y:=h1
   have h2:σ[i]? = some (some v):=h2
   have my:y∈b1k x x2 X.N:=N9 h1
   have h3:(a6u scope X.env).names.lookup y=some .local\/(a6u scope X.env).names.lookup y=some .cell\/(a6u scope X.env).names.lookup y=some .free:=h3
   have hf:scope.names.lookup y=some .free:=by
    rcases h3 with q | q
    ·rcases J7 q with q | ⟨_,z⟩
     ·exact absurd q (hc.see y my)
     ·cases z
    ·exact kinds y q
   have hy:X.N[i]? = some y:=by
    unfold b1k at h1
    rw[b7]at h1
    cases e:X.N[i]? with
    | none=>rw[e]at h1;cases h1
    | some z=>
     rw[e]at h1
     by_cases ez:z=x
     ·rw[a1x,if_pos ez]at h1
      have h1:=Option.some.inj h1
      subst h1
      rw[hc.dot]at hf
      cases hf
     ·rw[a1x,if_neg ez]at h1
      by_cases ez2:z=x2
      ·rw[if_pos ez2]at h1
       have h1:=Option.some.inj h1
       subst h1
       rw[hc.dot2]at hf
       cases hf
      ·rw[if_neg ez2]at h1
       exact h1
   obtain⟨m,_,hl⟩:=I.loc
   obtain⟨c,hcc⟩:=T1.mp (hcl2 y (w6 hf))
   have vis:Vis X.env.scope y:=by
    rcases hc.fr _ (w6 hf) rfl with q | q
    ·exact .inr (.inl q)
    ·exact .inr (.inr q)
   obtain⟨u,ru,lk⟩:=hl i y v hy h2 vis
   refine⟨u,ru,.inr ⟨?_,c,hcc,?_⟩⟩
   ·rcases h3 with q | q
    ·rcases J7 q with q | ⟨_,z⟩
     ·exact absurd q (hc.see y my)
     ·cases z
    ·exact q
   ·have hce:=hcl y c hcc
    rcases lk with ⟨q,_⟩ | ⟨_,c',e',z⟩
    ·rcases hc.fr _ (w6 hf) rfl with q' | q'
     ·have q:X.env.scope.names.lookup y=some .local:=q
      rw[show X.env.scope.names.lookup y=some NameKind.cell from q']at q
      cases q
     ·have q:X.env.scope.names.lookup y=some .local:=q
      rw[show X.env.scope.names.lookup y=some NameKind.free from q']at q
      cases q
    ·rw[e']at hce
     cases hce
     obtain⟨o,ho,hd⟩:=z
     exact⟨o,k _ _ ho,hd⟩
 ·obtain⟨v,o,ho,hd⟩:=I.cell y c (hcl y c e)
  exact⟨v,o,k _ _ ho,hd⟩
 ·exact I.freeC y c (hcl y c e)
 ·show(none::none::σ).length=(x::x2::b1k x x2 X.N).length
  have:=I.len
  simp[b1k,this]
theorem b2U{H1:Hp}{s2:d3}{it:Addr}{tn:Nat->Heap->Prop}{J:It}{Q:VK}{E:Value->d3->Prop}
  {RR:Value->Addr->b4H->d3->Prop} (hc:a3r X.N X.env.scope scope x x2) (hcalm:X.calm=true)
  (hcl:∀y c,cl.lookup y=some c->X.env.cells.lookup y=some c) (hcl2:∀y,(y,NameKind.free)∈scope.names->(cl.lookup y).isSome=true)
  (ht:∀C fp s3 H3,PTs (O4 X scope cl C x x2 fp s3 H3) ifs tt) (he:∀C fp s3 H3,PE (O4 X scope cl C x x2 fp s3 H3) elt te)
  (I:Inv X pins σ H1 s2) (T:b3g X.prog X.w X.K (.Tuple [.Name x px,.Name x2 py2] kt pt) J fp it tn) (st:tn 0 s2.heap) (fpo:∀b∈fp,a4J X pins H1 b)
  (h:∀D,H1 D=none->∃W:Nat->Nat->List V->Hp->Prop,
   (∃m,W 0 m [] (upd H1 D (.lst [])))/\∀i m ys H2,W i m ys H2->H2 D=some (.lst ys) /\
   ((J.stop i H2 /\ Q (.ref D) H2) \/ (J.go i H2 /\ ∀ x H3,J.yld i H2 x H3 -> ∃ a u v,x = .ref a /\ SqT X.K H3 a [u,v] /\ tt (some u :: some v :: σ) H3 fun ok H4 => if ok = true then
     te (some u::some v::σ) H4 (fun y H5=>H5 D=some (.lst ys)/\ys.length<j6/\∃m',m'<m/\W (i+1) m' (ys++[y]) (upd H5 D (.lst (ys++[y]))))
     else ∃m',m'<m/\W (i+1) m' ys H4)))
  (hRR:∀D C s' H' m,Inv X pins σ H' s'->s'.heap.Ns C m->H' C=none->C≠X.env.locals->X.s₀.heap.objs.size<=C->(∀y c,X.env.cells.lookup y=some c->c≠C)->(∀p∈X.pn++pins,p.1≠C)->Q (.ref D) H'->RR (.ref D) C (.ok .next) s') :
  wpAny (model X.prog X.w) X.A (newList []) (fun acc s₃=>wpAny (model X.prog X.w) X.A (newFunctionEnv scope X.env.globals cl [] X.env.qual none .none (some X.env)) (fun cenv s₄=>
   a2o (model X.prog X.w) X.A (.compStart (.ListComp elt [⟨.Tuple [.Name x px,.Name x2 py2] kt pt,iter,ifs,0⟩] scope pos) 0 (.ref it) acc { cenv with scope:=a6u scope X.env }) (RR acc cenv.locals) s₄) E s₃) E s2:=by
 refine A6 (hd:=by size_fits) ?_
 have I3:=I.lnew (ys:=[]) (its:=[]) (t':=s2.toks) .nil (by show 0<=j6;exact F5 _)
 obtain⟨W,⟨m0,w0⟩,turn⟩:=h _ I.fresh
 generalize hD:s2.heap.objs.size=D at I3 w0 turn ⊢
 generalize hs3:({ s2 with heap:=s2.heap.push { cls:=.type "list",data:=.seq ([]:List Value).toArray } }:d3)=s3
 have hs3':({ s2 with heap:=s2.heap.push { cls:=.type "list",data:=.seq ([]:List Value).toArray },toks:=s2.toks }:d3)=s3:=hs3
 rw[hs3']at I3
 have keep3:∀b o,s2.heap.get? b=some o->s3.heap.get? b=some o:=fun b o e=>by rw[<-hs3];exact c5 _ e
 have fpl:∀b∈fp,b<s3.heap.objs.size:=fun b hb=>by
  obtain⟨o,e,_⟩:=T.obj _ _ st b hb
  exact d7 (keep3 b o e)
 have fpD:∀b∈fp,b≠D:=fun b hb z=>by
  obtain⟨o,e,_⟩:=T.obj _ _ st b hb
  exact absurd (d7 e) (by rw[z,hD];exact E8 _)
 have fpo3:∀b∈fp,a4J X pins (upd H1 D (.lst [])) b:=fun b hb=>⟨by rw[j5 (fpD b hb)];exact(fpo b hb).1,(fpo b hb).2⟩
 show wpAny _ _ _ _ _ s3
 refine c6d hc.cell (by intro y hy;simp at hy) (fun h₁ hns₁ hsb₁=>?_) hc.kind
 dsimp only[newEnv]at hns₁ hsb₁ ⊢
 have keep4:∀b o,s3.heap.get? b=some o->h₁.get? b=some o:=fun b o e=>hsb₁.extBut b o (o5 (d7 e)) (c5 _ e)
 have I4:=b6D (tk:=s3.toks+([]:List (Str×Value)).length) hc I3 hcl hcl2 fpo3 fpl hns₁ keep4
 have st4:tn 0 h₁:=T.keep _ _ _ st fun b hb o e=>keep4 b o (keep3 b o e)
 have loop:∀s₄:d3,s₄={ s3 with heap:=h₁,toks:=s3.toks+([]:List (Str×Value)).length } ->
   a2o (model X.prog X.w) X.A (.compLoop (.ListComp elt [⟨.Tuple [.Name x px,.Name x2 py2] kt pt,iter,ifs,0⟩] scope pos) 0 (.ref it) (.ref D) (b6X scope cl s3.heap.objs.size X.env)) (RR (.ref D) s3.heap.objs.size) s₄:=by
  rintro s₄ rfl
  have stat:∀ {H':Hp},(∀b∈fp,H' b=none)->∀b∈fp,a4J (O4 X scope cl s3.heap.objs.size x x2 fp s3 (upd H1 D (.lst []))) [] H' b:=fun hn b hb=>
   ⟨hn b hb,o5 (fpl b hb),fun hf=>by
    rcases g6.mp (I3.stkSub b hf)with e | e
    ·exact(fpo b hb).2.1 e
    ·exact(fpo b hb).2.2.1 e,.inl hb,fun y c e=>(fpo b hb).2.2.2.2.1 y c (hcl y c e),fun p hp=>absurd (show p∈([]:List (Addr×Obj))from hp) (by simp)⟩
  refine a9Y (env:=b6X scope cl s3.heap.objs.size X.env) (fun n s'=>∃i ys H',Inv (O4 X scope cl s3.heap.objs.size x x2 fp s3 (upd H1 D (.lst []))) [] (none::none::σ) H' s'/\tn i s'.heap/\(∀b∈fp,H' b=none)/\W i n ys H') ?_ m0
   ⟨0,[],_,I4,st4,fun b hb=>(fpo3 b hb).1,w0⟩
  rintro n s5 ⟨i,ys,H5,I5,st5,fr5,w5⟩
  obtain⟨hDy,alt⟩:=turn i n ys H5 w5
  rcases alt with ⟨stop,q⟩ | ⟨go,step⟩
  ·refine a0f (T.done (O4 X scope cl s3.heap.objs.size x x2 fp s3 (upd H1 D (.lst []))) rfl rfl rfl hcalm i [] s5 _ H5 (fun _ _=>False) I5 (stat fr5) st5 stop) (fun r s6 ⟨hr,I6⟩=>?_) fun _ _ f=>f
   subst hr
   obtain⟨m6,n6,_⟩:=I6.loc
   have J6:Inv X pins σ H5 s6:=by
    refine I3.call' (ch:=fp) I6.os I6.base I6.hok I6.bare fun b hb=>?_
    obtain⟨_,f1,f2,f3,f4,f5⟩:=fpo3 b hb
    exact⟨f3,f1,f4,f5⟩
   refine hRR D _ s6 H5 m6 J6 n6 I6.free (a8Z I3.lt) I3.sz (fun y c e z=>?_) (fun p hp z=>?_) q
   ·obtain⟨v,q⟩:=I3.cell y c e
    exact absurd q.lt (by rw[z];exact E8 _)
   ·exact absurd (d7 (I3.pin p hp).1) (by rw[z];exact E8 _)
  ·refine a0f (T.item (O4 X scope cl s3.heap.objs.size x x2 fp s3 (upd H1 D (.lst []))) rfl rfl rfl hcalm i [] s5 _ H5 (fun _ _=>False) I5 (stat fr5) st5 go) (fun r s6 ⟨u,hr,h6⟩=>?_) fun _ _ f=>f
   subst hr
   refine thn h6 fun _ s6 ⟨xv,H6,I6,r6,y6,st6,fr6⟩=>?_
   have I6':=I6.pinned (stat fr6) (T.obj _ _ st6)
   obtain⟨pa,u1,u2,rfl,hsq,step⟩:=step xv H6 y6
   have hpg:PG (O4 X scope cl s3.heap.objs.size x x2 fp s3 (upd H1 D (.lst []))) (.Tuple [.Name x px,.Name x2 py2] kt pt) (b1l X.K 2 (a1m (o9 0) (a1m (o9 1) b1m))):=
    b8q (X:=O4 X scope cl s3.heap.objs.size x x2 fp s3 (upd H1 D (.lst []))) hcalm (a8t (b0S (i:=0) hc.nd rfl (.inl (a0T hc.own)) (.inr (a0T hc.own))) (a8t (b0S (i:=1) hc.nd rfl (.inl (a0T hc.own2)) (.inr (a0T hc.own2))) b4Z))
   refine thn (hpg _ s6 (none::none::σ) H6 (.ref pa) u (fun σ' H'=>σ'=some u1::some u2::σ/\H'=H6) I6' r6 ⟨pa,[u1,u2],rfl,hsq,rfl,_,_,rfl,_,_,rfl,rfl,rfl,rfl⟩) fun _ s7 ⟨σ7,H7,I7,e7,e7'⟩=>?_
   subst e7 e7'
   have again:∀ {s8:d3} {H8:Hp} {ys8:List V},Inv (O4 X scope cl s3.heap.objs.size x x2 fp s3 (upd H1 D (.lst []))) ([]++a5k fp s6.heap) (some u1::some u2::σ) H8 s8->(∃m',m'<n/\W (i+1) m' ys8 H8) ->
     ∃m,m<n/\∃i ys H',Inv (O4 X scope cl s3.heap.objs.size x x2 fp s3 (upd H1 D (.lst []))) [] (none::none::σ) H' s8/\tn i s8.heap/\(∀b∈fp,H' b=none)/\W i m ys H':=by
    rintro s8 H8 ys8 I8 ⟨m',hm,w8⟩
    refine⟨m',hm,i+1,ys8,H8,(I8.unpinned (pins:=[])).weak rfl (fun j v e=>?_),T.keep _ _ _ st6 fun b hb o e=>(I8.pin (b,o) (p8 _ (p8 _ (a0W hb e)))).1,fun b hb=>?_,w8⟩
    ·cases j with
     | zero=>cases e
     | succ j=>
      cases j with
      | zero=>cases e
      | succ j=>exact e
    ·obtain⟨o,e,d⟩:=T.obj _ _ st6 b hb
     exact(I8.pin (b,o) (p8 _ (p8 _ (a0W hb e)))).2.1
   refine thn (ht _ fp s3 _ _ s7 _ _ _ I7 step) (fun ok s8 ⟨H8,I8,q8⟩=>?_)
   cases ok with
   | false=>exact again I8 (by simpa using q8)
   | true=>
    rw[if_pos rfl]at q8
    rw[if_pos rfl]
    refine thn (he _ fp s3 _ _ s8 _ H8 _ I8 q8) (fun v s9 ⟨y,H9,I9,r9,hD9,hz9,w9⟩=>?_)
    refine a0f (a6U (X:=O4 X scope cl s3.heap.objs.size x x2 fp s3 (upd H1 D (.lst []))) _ s9 _ H9 (.ref D) [y] (.ref D) [v] (fun _ H'=>H'=upd H9 D (.lst (ys++[y]))) I9 rfl (.cons r9 .nil) ⟨D,ys,y,rfl,rfl,hD9,hz9,rfl⟩) (fun _ s10 ⟨_,H10,I10,_,e10⟩=>?_) fun _ _ f=>f
    subst e10
    exact again I10 w9
 exact c4F (loop _ rfl) (T.self X.A 0 _ _ _ st4 (loop _ rfl))
theorem b2T(hc:a3r X.N X.env.scope scope x x2)(I:Inv X pins σ H s):∀y∈scope.names,y.2=.free->∃c,X.env.cells.lookup y.1=some c:=by
 intro y hy e
 rcases hc.fr y hy e with q | q
 ·exact I.ok.has y.1 (.inl q)
 ·exact I.ok.has y.1 (.inr q)
theorem b8w{wi:TI}(hc:a3r X.N X.env.scope scope x x2)(hcalm:X.calm=true)(hi:PI X (.Tuple [.Name x px,.Name x2 py2] kt pt) iter wi)
  (ht:∀cl C fp s3 H3,PTs (O4 X scope cl C x x2 fp s3 H3) ifs tt) (he:∀cl C fp s3 H3,PE (O4 X scope cl C x x2 fp s3 H3) elt te)
  (hs:∀x,R9 iter X.env x=pure x:=by intro _;rfl) :
  PE X (.ListComp elt [⟨.Tuple [.Name x px,.Name x2 py2] kt pt,iter,ifs,0⟩] scope pos) (a8e X.K wi tt te):=by
 intro pins s σ H Q I h
 obtain⟨cl,hclos,hcl,hcl2⟩:=a5u (b2T hc I)
 rw[eval_ListComp]
 refine a5B (use:=none) rfl hs hclos hc.kind hc.names (thn (hi pins s σ H _ I h) fun v s1 h1=>thn h1 fun itv s2 ⟨it,fp,tn,J,H2,e,I2,T,st,fpo,R⟩=>?_)
 subst e
 refine b2U (RR:=fun acc C=>compPost (model X.prog X.w) X.A X.xe none (EP X pins σ Q) acc C) (Q:=Q) hc hcalm hcl hcl2 (ht cl) (he cl) I2 T st fpo R ?_
 intro D C s' H' m I' n f1 f2 f3 f4 f5 q
 exact⟨m,n,fun h' sb=>⟨.ref D,H',I'.turned (t':=s'.toks) (fun b o hb e=>(sb.2 b hb).trans e) f1 f2 (.inr f3) f4 f5,rfl,q⟩⟩
end
section
variable {x x2:Str}{px py2 pt:Pos}{kt:Nat}
end
section
def b8h:List V->Hp->VK->Prop:=fun xs H Q=>match xs with
 | [.int i,.int j]=>Q (.int (if j<i then j else i)) H
 | _=>False
theorem b6K(hc:X.calm=true):U3 X (.builtin "min") b8h:=(b6Q hc).imp fun xs H Q h=>by
 unfold b8h at h
 split at h
 ·exact⟨_,_,rfl,h⟩
 ·exact h.elim
theorem b6R:∀bs:List Bool,((A0 bs.length).any fun i=>(bs[i]?).getD false)=bs.any id:=by
 intro bs
 induction bs with
 | nil=>rfl
 | cons b r ih=>
  rw[v7,List.range_succ_eq_map,Y5,c6e,Y5]
  rw[<-ih]
  rfl
def b3Y:List V->Hp->VK->Prop:=fun vs H Q=>match vs with
 | [.ref l]=>match H l with
  | some (.lst xs)=>∃bs,Q6 xs=some bs/\Q (.bl (bs.any id)) H
  | _=>False
 | _=>False
theorem b6N(hc:X.calm=true):U3 X (.builtin "any") b3Y:=fun pins s σ H xs us Q I r h=>by
 unfold b3Y at h
 split at h
 ·split at h
  ·rename_i l _ ys hl
   obtain⟨bs,e,q⟩:=h
   obtain⟨u,rfl,ru⟩:=a4Q r
   cases ru
   obtain⟨its,rv,pl,hz⟩:=I.list (SqL.of hl)
   have hlt:l<s.heap.objs.size:=by obtain⟨_,e,_⟩:=pl.isList;exact d7 e
   have hlen:=rv.length
   have hbl:=a6Z e
   refine call_any_walk (a5A pl.isList ?_)
   refine⟨s.heap.objs.size,[s.heap.objs.size,l],[s.heap.objs.size],its.toArray.size,_,_,fun i=>(bs[i]?).getD false,rfl,Walks.list (A:=X.A.in1) (I.ok.hd hc) _ l (o5 hlt) its.toArray,
    ⟨⟨_,h9 _ rfl,rfl,rfl⟩,pl.isList.push _⟩,fun i v s' Q' E' hP hQ=>?_,fun h' tk hk=>?_⟩
   ·have hP:its[i]? = some v:=by simpa using hP
    have hi:i<ys.length:=by rw[hlen];exact(l7.mp hP).1
    have ey:ys[i]? = some ys[i]:=by simp[hi]
    obtain⟨b,eb,ez⟩:=a7a e ey
    obtain⟨u,eu,ru⟩:=rv.get ey
    rw[hP]at eu
    cases eu
    rw[ez]at ru
    cases ru
    simp only[eb,a3y]at hQ
    exact G6 hQ
   ·have e2:((A0 its.toArray.size).any fun i=>(bs[i]?).getD false)=bs.any id:=by
     rw[g8,<-hlen,hbl]
     exact b6R bs
    rw[e2]
    exact⟨.bl _,H,I.kept (t':=tk) fun b x e=>hk b x (fun hm=>by rw[c6.mp hm]at e;exact E8 _ (d7 e)) (c5 _ e),rfl,q⟩
  ·exact h.elim
 ·exact h.elim
def a1k:List V->Option (List Int)
 | []=>some []
 | .int i::r=>(a1k r).map (i :: ·)
 | _=>none
theorem a8F(ns:List Int):a1k (ns.map V.int)=some ns:=by
 induction ns with
 | nil=>rfl
 | cons s r ih=>simp[a1k,ih]
theorem a4i:∀ {xs:List V} {us:List Value} {ss:List Int},D6 xs us->a1k xs=some ss->c2o us ss
 | _,_,ss,.nil,e=>by cases e;exact .nil
 | x::xs,_,ss,.cons r t,e=>by
  cases x with
  | int s=>
   obtain⟨k,rfl⟩:=r
   cases e2:a1k xs with
   | none=>simp[a1k,e2]at e
   | some ss2=>
    simp[a1k,e2]at e
    subst e
    exact .cons _ _ (a4i t e2)
  | _=>simp[a1k]at e
def a4z:List V->Hp->VK->Prop:=fun vs H Q=>match vs with
 | [.ref l]=>match H l with
  | some (.lst xs)=>∃ns,a1k xs=some ns/\ns.length<64/\∀(p:Addr) (ms:List Int),ms.Perm ns->ms.Pairwise (· <= ·)->H p=none->Q (.ref p) (upd H p (.lst (ms.map V.int)))
  | _=>False
 | _=>False
theorem b1u:U3 X (.builtin "sorted") a4z:=fun pins s σ H xs us Q I r h=>by
 unfold a4z at h
 split at h
 ·split at h
  ·rename_i l _ ys hl
   obtain⟨ns,e,hn,q⟩:=h
   obtain⟨u,rfl,ru⟩:=a4Q r
   cases ru
   obtain⟨its,rv,pl,hz⟩:=I.list (SqL.of hl)
   have hi:=a4i rv e
   have hil:=hi.length
   refine sorted_ints pl.isList hi (by omega) fun out ns' a1 a2 a3=>?_
   obtain⟨c,he⟩:=sortedAll_at s.heap its out
   have hl':=a2.length_eq
   refine⟨.ref _,_,I.laid (t':=s.toks) (a:=s.heap.objs.size+1) (o:=.lst (ns'.map V.int)) (fun b ob q=>sortedAll_old q) (a1Q _) ?_,rfl,q _ ns' a2 a3 (I.hok.fresh (a1Q _))⟩
   refine⟨by rw[a8,sizeLine_eq];omega,out.toList,c,a6y a1,?_⟩
   exact he
  ·exact h.elim
 ·exact h.elim
def a6L:V->List V->Hp->VK->Prop:=fun x vs H Q=>match x,vs with
 | .ref l,[.int k]=>match H l with
  | some (.lst xs)=>∃ns,a1k xs=some ns/\ns.length<10000/\k∈ns/\Q (.int (ns.idxOf k:Nat)) H
  | _=>False
 | _,_=>False
theorem b6n:MtR X "list.index" a6L:=fun pins s σ H x xs v us Q I rx rv h=>by
 unfold a6L at h
 split at h
 ·split at h
  ·rename_i l k _ ys hl
   obtain⟨ns,e,hn,hk,q⟩:=h
   cases rx
   obtain⟨u,rfl,⟨t,rfl⟩⟩:=rv.one
   obtain⟨its,r,pl,hz⟩:=I.list (SqL.of hl)
   have hi:=a4i r e
   obtain⟨⟨cls,dd,data,sl⟩,ho,hc,n,hd⟩:=id pl.isList
   simp only at hc hd
   subst hc hd
   have hlen:=hi.length
   have hj:ns.idxOf k<ns.length:=b3n.mpr hk
   refine c1P b1I ⟨_,ho,rfl⟩ PySem.F.entry_list_index (PySem.F.args_list_index_2 _ _)
    (PySem.SeqAt.list_indexAt l its.toArray n dd sl (.int k t) (isInt k) (ns.idxOf k) (by simpa[hlen]using hj) (by omega) ?_ ?_) ⟨ho,fun y hy=>(eq_isInt k t hi y (by simpa using hy)).at _ _,⟨.int _,H,I.tok _,⟨_,rfl⟩,q⟩⟩
   ·show isInt k its[ns.idxOf k]=true
    rw[isInt_at k hi _ (by omega) hj]
    simpa using List.getElem_idxOf hj
   ·intro j hjs hlt
    show isInt k its[j]=false
    rw[isInt_at k hi j (by simpa using hjs) (by omega)]
    exact ne_of_lt_idxOf hlt _
  ·exact h.elim
 ·exact h.elim
def a2d:V->List V->Hp->VK->Prop:=fun x vs H Q=>match x,vs with
 | .ref l,[.ref b]=>match H l,H b with
  | some (.lst xs),some (.lst zs)=>xs.length+zs.length<=j6/\Q .non (upd H l (.lst (xs++zs)))
  | _,_=>False
 | _,_=>False
theorem b4l:MtR X "list.extend" a2d:=fun pins s σ H x xs v us Q I rx rv h=>by
 refine b6o pins s σ H x xs v us Q I rx rv ?_
 unfold a2d at h
 split at h
 ·split at h
  ·exact⟨_,_,_,_,rfl,rfl,by assumption,by assumption,h.1,h.2⟩
  ·exact h.elim
 ·exact h.elim
def b5X:V->List V->Hp->VK->Prop:=fun x vs H Q=>match x,vs with
 | .ref l,[]=>match H l with
  | some (.lst xs)=>∃y,xs[xs.length - 1]? = some y/\Q y (upd H l (.lst xs.dropLast))
  | _=>False
 | _,_=>False
theorem c1e:MtR X "list.pop" b5X:=fun pins s σ H x xs v us Q I rx rv h=>by
 refine c3T pins s σ H x xs v us Q I rx rv ?_
 unfold b5X at h
 split at h
 ·split at h
  ·obtain⟨y,e,q⟩:=h
   exact⟨_,_,y,rfl,rfl,by assumption,e,q⟩
  ·exact h.elim
 ·exact h.elim
def a6K:List V->Hp->VK->Prop:=fun xs H Q=>match xs with
 | [.ref p]=>match H p with
  | some (.dK kvs)=>∀l,H l=none->Q (.ref l) (upd H l (.lst (kvs.map fun kv=>kV kv.1)))
  | _=>False
 | _=>False
theorem c2h{P:u6}{k:Key}(r:(M6 P w).is k u=true):C7 (kV k) u:=by
 rcases O7 (show a8E k u=true from r)with ⟨i,t,rfl,rfl⟩ | ⟨x,t,rfl,rfl⟩
 ·exact⟨t,rfl⟩
 ·exact⟨t,rfl⟩
theorem a7D:∀ {xs:List V} {us:List Value},xs.length=us.length->(∀(i:Nat) x u,xs[i]? = some x->us[i]? = some u->C7 x u)->D6 xs us
 | [],[],_,_=>.nil
 | x::xs,u::us,hl,h=>.cons (h 0 x u rfl rfl) (a7D (by simpa using hl) fun i y v a b=>h (i+1) y v (by simpa using a) (by simpa using b))
 | [],u::us,hl,_=>by cases hl
 | x::xs,[],hl,_=>by cases hl
theorem b8V:∀ {l:List (Key×V)} {la:List (Key×Value)} {i:Nat} {k:Key} {x:Value},KV l la->la[i]? = some (k,x)->∃y,l[i]? = some (k,y)
 | p::l,q::la,0,k,x,h,e=>by
  have h:Paired _ _ _:=h
  cases h with
  | cons h t=>
   cases e
   exact⟨p.2,by rw[a3E];rw[show k=p.1 from h.1.symm]⟩
 | p::l,q::la,i+1,k,x,h,e=>by
  have h:Paired _ _ _:=h
  cases h with
  | cons h t => 
   obtain⟨y,hy⟩:=b8V (i:=i) (show KV l la from t) (by simpa using e)
   exact⟨y,by simpa using hy⟩
 | [],la,i,k,x,h,e=>by
  have h:Paired _ _ _:=h
  cases h
  cases e
 | p::l,[],i,k,x,h,e=>by
  have h:Paired _ _ _:=h
  cases h
theorem b3e(hc:X.calm=true):U3 X (.type "list") a6K:=fun pins s σ H xs us Q I r h=>by
 unfold a6K at h
 split at h
 ·split at h
  ·rename_i p _ kvs hp
   obtain⟨u,rfl,ru⟩:=a4Q r
   cases ru
   obtain⟨hz,hS,vs,rk,hD⟩:=b5h I.hok hp
   obtain⟨ep,hat⟩:=hD.dictAt
   have hl:=Paired.length rk
   refine b9C (b9B (knd:=M6 X.prog X.w) (kvs:=vs) (ep:=ep) hS) (I.ok.hd hc) hat (by omega) fun h' tk acc c hk ha hit=>?_
   refine⟨.ref _,_,I.laid (t':=tk) (a:=s.heap.objs.size) (o:=.lst (kvs.map fun kv=>kV kv.1)) hk (d5 _) ?_,rfl,h _ (I.hok.fresh (d5 _))⟩
   refine⟨by rw[a8];exact hz,acc.toList,c,?_,by simpa using ha⟩
   refine a7D (by have:=hit.1;rw[a8];simp;omega) fun i x u a b=>?_
   obtain⟨k,y,e1,e2⟩:=hit.2 i u (by rw[<-C3];exact b)
   obtain⟨z,e3⟩:=b8V rk e1
   rw[b7,e3]at a
   cases a
   exact c2h e2
  ·exact h.elim
 ·exact h.elim
inductive Dq(K:Fg)(H:Hp):Nat->V->V->Prop
 | flat {n:Nat} {x:V}:J0 x=true->Dq K H n x x
 | tup {n:Nat} {a b:Addr} {xs ys:List V}:SqT K H a xs->SqT K H b ys->xs.length=ys.length->(∀(j:Nat) x y,xs[j]? = some x->ys[j]? = some y->Dq K H n x y)->Dq K H (n+1) (.ref a) (.ref b)
 | lst {n:Nat} {a b:Addr} {xs ys:List V}:SqL K H a xs->SqL K H b ys->xs.length=ys.length->(∀(j:Nat) x y,xs[j]? = some x->ys[j]? = some y->Dq K H n x y)->Dq K H (n+1) (.ref a) (.ref b)
theorem b9f{x:V}(h:J0 x=true):eqV x x=true:=by
 cases x with
 | non=>rfl
 | bl b=>simp[eqV]
 | int i=>simp[eqV]
 | str s=>simp[eqV]
 | byt b=>cases h
 | flt b=>cases h
 | ref a=>cases h
 | ty n=>cases h
theorem a6l{n:Nat}:(A0 n).all (fun _=>true)=true:=by simp
theorem Dq.both(I:Inv X pins σ H s){n:Nat}{x y:V}(d:Dq X.K H n x y):∀ {A:E9} {v u:Value},A.units+n<cLine->C7 x v->C7 y u ->
  SeqAt.EqAt A s v u true/\(∀a b,x=.ref a->y=.ref b->SeqAt.RcAt A s v u true/\SeqAt.RcNeAt A s v u false):=by
 induction d with
 | @flat n x hf=>
  intro A v u hu rv ru
  refine⟨?_,fun a b e=>by subst e;cases hf⟩
  have:=b4A (A:=A) (s:=s) rv ru hf hf
  rwa [b9f hf]at this
 | @tup n a b xs ys ha hb hl hq ih=>
  intro A v u hu rv ru
  cases rv
  cases ru
  obtain⟨us,r1,t1,_⟩:=I.tuple ha
  obtain⟨ws,r2,t2,_⟩:=I.tuple hb
  have l1:=r1.length
  have l2:=r2.length
  have el:∀j (h1:j<us.toArray.size) (h2:j<ws.toArray.size),SeqAt.EqAt A.in1 s us.toArray[j] ws.toArray[j] true:=by
   intro j h1 h2
   have h1':j<xs.length:=by simpa[l1]using h1
   have h2':j<ys.length:=by simpa[l2]using h2
   obtain⟨u1,e1,q1⟩:=r1.get (i:=j) (x:=xs[j]) (by simp)
   obtain⟨u2,e2,q2⟩:=r2.get (i:=j) (x:=ys[j]) (by simp)
   have z1:us.toArray[j]=u1:=by
    have:=(l7.mp e1).2
    simpa using this
   have z2:ws.toArray[j]=u2:=by
    have:=(l7.mp e2).2
    simpa using this
   rw[z1,z2]
   exact(ih j _ _ (by simp) (by simp) (A:=A.in1) (by show A.units+1+n<cLine;omega) q1 q2).1
  have c1:SeqAt.RcAt A s (.ref a) (.ref b) true:=by
   have q:=SeqAt.RcAt.tuples (A:=A) (e:=fun _=>true) t1 t2 (by omega) el
   have e:us.toArray.size=ws.toArray.size:=by simp[<-l1,<-l2,hl]
   rw[a6l,e,beq_self_eq_true]at q
   exact q
  have c2:SeqAt.RcNeAt A s (.ref a) (.ref b) false:=by
   have q:=SeqAt.RcNeAt.tuples (A:=A) (e:=fun _=>true) t1 t2 (by omega) el
   have e:us.toArray.size=ws.toArray.size:=by simp[<-l1,<-l2,hl]
   rw[a6l,e,beq_self_eq_true]at q
   exact q
  refine⟨?_,fun _ _ _ _=>⟨c1,c2⟩⟩
  by_cases e:a=b
  ·subst e;exact SeqAt.EqAt.same _
  ·exact SeqAt.EqAt.of_refs e c1
 | @lst n a b xs ys ha hb hl hq ih=>
  intro A v u hu rv ru
  cases rv
  cases ru
  obtain⟨us,r1,t1,_⟩:=I.list ha
  obtain⟨ws,r2,t2,_⟩:=I.list hb
  have l1:=r1.length
  have l2:=r2.length
  have el:∀j (h1:j<us.toArray.size) (h2:j<ws.toArray.size),SeqAt.EqAt A.in1 s us.toArray[j] ws.toArray[j] true:=by
   intro j h1 h2
   have h1':j<xs.length:=by simpa[l1]using h1
   have h2':j<ys.length:=by simpa[l2]using h2
   obtain⟨u1,e1,q1⟩:=r1.get (i:=j) (x:=xs[j]) (by simp)
   obtain⟨u2,e2,q2⟩:=r2.get (i:=j) (x:=ys[j]) (by simp)
   have z1:us.toArray[j]=u1:=by
    have:=(l7.mp e1).2
    simpa using this
   have z2:ws.toArray[j]=u2:=by
    have:=(l7.mp e2).2
    simpa using this
   rw[z1,z2]
   exact(ih j _ _ (by simp) (by simp) (A:=A.in1) (by show A.units+1+n<cLine;omega) q1 q2).1
  have e:us.toArray.size=ws.toArray.size:=by simp[<-l1,<-l2,hl]
  have c1:SeqAt.RcAt A s (.ref a) (.ref b) true:=by
   have q:=SeqAt.RcAt.lists (A:=A) (e:=fun _=>true) t1.isList t2.isList e (by omega) el
   rw[a6l]at q
   exact q
  have c2:SeqAt.RcNeAt A s (.ref a) (.ref b) false:=by
   have q:=SeqAt.RcNeAt.lists (A:=A) (e:=fun _=>true) t1.isList t2.isList e (by omega) el
   rw[a6l]at q
   exact q
  refine⟨?_,fun _ _ _ _=>⟨c1,c2⟩⟩
  by_cases e:a=b
  ·subst e;exact SeqAt.EqAt.same _
  ·exact SeqAt.EqAt.of_refs e c1
def b5Z(K:Fg):R2:=fun x y H Q=>∃a b n,x=.ref a/\y=.ref b/\n<=20/\Dq K H n x y/\Q (.bl true) H
def c2V(K:Fg):R2:=fun x y H Q=>∃a b n,x=.ref a/\y=.ref b/\n<=20/\Dq K H n x y/\Q (.bl false) H
theorem c0R{k:Nat}(hr:L3 k X.A):OpR X (p5 .Eq) (b5Z X.K):=by
 intro pins s σ H x y v u Q I rx ry ⟨a,b,n,e1,e2,hn,d,q⟩
 have hu:=hr.units
 exact((d.both I (A:=X.A) (by omega) rx ry).2 a b e1 e2).1 _ _ _ _ ⟨.bl true,H,I,rfl,q⟩
theorem c0N{k:Nat}(hr:L3 k X.A):OpR X (p5 .NotEq) (c2V X.K):=by
 intro pins s σ H x y v u Q I rx ry ⟨a,b,n,e1,e2,hn,d,q⟩
 have hu:=hr.units
 exact((d.both I (A:=X.A) (by omega) rx ry).2 a b e1 e2).2 _ _ _ _ ⟨.bl false,H,I,rfl,q⟩
def c2Y(K:Fg):R2:=fun x y H Q=>∃a b xs ys,x=.ref a/\y=.ref b/\SqT K H a xs/\SqT K H b ys/\xs.all J0=true/\ys.all J0=true/\Q (.bl (O3 xs ys)) H
theorem c0S{k:Nat}(hr:L3 k X.A):OpR X (p5 .Eq) (c2Y X.K):=by
 intro pins s σ H x y v u Q I rx ry ⟨a,b,xs,ys,e1,e2,ha,hb,fx,fy,q⟩
 have hu:=hr.units
 subst e1 e2
 cases rx
 cases ry
 obtain⟨us,r1,t1,_⟩:=I.tuple ha
 obtain⟨ws,r2,t2,_⟩:=I.tuple hb
 have l1:=r1.length
 have l2:=r2.length
 have q1:=SeqAt.RcAt.tuples (A:=X.A) t1 t2 (by omega) (a4C r1 r2 fx fy)
 simp only[g8,<-l1,<-l2]at q1
 exact q1 _ _ _ _ ⟨.bl (O3 xs ys),H,I,rfl,q⟩
def c2X(K:Fg):R2:=fun x y H Q=>∃p xs,y=.ref p/\SqT K H p xs/\J0 x=true/\xs.all J0=true/\Q (.bl (inV x xs)) H
theorem c0Q:OpR X (p5 .In) (c2X X.K):=a9S.imp fun x y H Q ⟨p,xs,e,h1,h2,h3,q⟩=>⟨p,xs,e,.inr h1,h2,h3,q⟩
theorem b8n{e c:Option Expr}:PS X (.Raise e c pos) (fun _ _ _=>False):=fun _ _ _ _ _ _ h=>h.elim
structure b3i(P:u6)(w:World)(K:Fg)(mg:Str->Option Value)(base:Heap)(k:Nat)(x:Str)(C:Addr)(ps:List Str)(sp:Sp):Prop where
 ex:∃f fd,J1 P w K mg base CX0 k f fd ps sp/\mg x=some (.ref C)/\Mk K C f/\a2l K fd ps []
theorem c5y{k:Nat}{x:Str}{C:Addr}{e:Expr}{es:List Expr}{t:TA}{p:Pos}(M:b3i X.prog X.w X.K X.mg X.base k x C ps sp)(hr:L3 j X.A)(hk:k+1<=j)(hg:Gl X x)(ha:PA X (e::es) t)
  (hdb:(x == ("__debug__" : Str))=false:=by decide) (he:d9 (e::es) X.env=(false,eval e X.env)::d9 es X.env:=by rfl) (hpl:(U1 pos (d9 es X.env)).any (·.1)=false:=by rfl) :
  PE X (.Call (.Name x p) (e::es) [] pos) (a5Q C sp [] E0 t):=by
 obtain⟨f,fd,F,hm,hM,hb⟩:=M.ex
 exact c0D hM F (hr.mono hk) hg hm hb .nil b2t ha hdb he hpl
structure a2k(P:u6)(w:World)(K:Fg)(mg:Str->Option Value)(base:Heap)(k:Nat)(m:Str)(C:Addr)(ps:List Str)(sp:Sp):Prop where
 ex:∃f fd,J1 P w K mg base CX0 k f fd ps sp/\Cls K C/\c1G K C m f/\a2l K fd ps []
theorem c3s{pl:Sem Bool}{k:Nat}{m:Str}{C:Addr}{o e:Expr}{es:List Expr}{ta:TE}{t:TA}{apos:Pos}(M:a2k X.prog X.w X.K X.mg X.base k m C ps sp)(hr:L3 j X.A)(hk:k<=j)(ho:PE X o ta)(ha:PA X (e::es) t)
  (hst:d9 (e::es) X.env=(false,eval e X.env)::d9 es X.env:=by rfl) (hpl:(U1 pos (d9 es X.env)).any (·.1)=false:=by rfl)
  (ht:eval (.Call (.Attribute o m apos) (e::es) [] pos) X.env=(do
   let ov <-eval o X.env
   a7Q apos.atName
   let(f,first) <-a0U [ov] (a5C ov m pl)
   b6Y pos f first (U1 pos (d9 (e::es) X.env)) (a4O pos (a0s [] X.env))):=by rfl) :
  PE X (.Call (.Attribute o m apos) (e::es) [] pos) (a1W C m sp [] E0 ta t):=by
 obtain⟨f,fd,F,c,hm,hb⟩:=M.ex
 exact c0C (pl:=pl) ho c hm F (hr.mono hk) hb .nil b2t ha hst hpl ht
theorem c0B{pl:Sem Bool}{k:Nat}{m:Str}{C:Addr}{o:Expr}{ta:TE}{apos:Pos}(M:a2k X.prog X.w X.K X.mg X.base k m C ps sp)(hr:L3 j X.A)(hk:k<=j)(ho:PE X o ta)
  (ht:eval (.Call (.Attribute o m apos) [] [] pos) X.env=(do
   let ov <-eval o X.env
   a7Q apos.atName
   let(f,first) <-a0U [ov] (a5C ov m pl)
   b6Y pos f first (U1 pos (d9 [] X.env)) (a4O pos (a0s [] X.env))):=by rfl) :
  PE X (.Call (.Attribute o m apos) [] [] pos) (a1W C m sp [] E0 ta g7):=by
 obtain⟨f,fd,F,c,hm,hb⟩:=M.ex
 exact b8s (pl:=pl) ho c hm F (hr.mono hk) hb .nil b2t ht
end
theorem a5Z{env:Env}:∀ {names:List (Str×a4P)} {y:Str},names.lookup y=some .free ->
  (names.map fun(n,k)=>if(k == NameKind.free&&env.scope.kind == .function&&env.kindOf n == some .cell)then (n,NameKind.cell)else (n,k)).lookup y=some .cell \/
  (names.map fun(n,k)=>if(k == NameKind.free&&env.scope.kind == .function&&env.kindOf n == some .cell)then (n,NameKind.cell)else (n,k)).lookup y=some .free
 | [],_,h=>by cases h
 | (n,k0)::r,y,h=>by
  have ih := @a5Z env r y
  rw[D4]at h
  rw[E7]
  dsimp only
  cases hx:y == n with
  | true=>
   rw[hx]at h
   cases h
   by_cases hc:(NameKind.free == NameKind.free&&env.scope.kind == .function&&env.kindOf n == some .cell)=true
   ·rw[if_pos hc,D4,hx];exact .inl rfl
   ·rw[if_neg hc,D4,hx];exact .inr rfl
  | false=>
   rw[hx]at h
   by_cases hc:(k0 == NameKind.free&&env.scope.kind == .function&&env.kindOf n == some .cell)=true
   ·rw[if_pos hc,D4,hx];exact ih h
   ·rw[if_neg hc,D4,hx];exact ih h
theorem b5f{sc1 sc:Scope}(h:∀y∈sc.names,y.2=.free->sc1.names.lookup y.1=some .free):∀y∈sc.names,y.2=.free->(a6u sc1 env).names.lookup y.1=some .cell\/(a6u sc1 env).names.lookup y.1=some .free:=
 fun y hy e=>a5Z (h y hy e)
end L2
namespace PySem
open Sem (wp)
namespace F
end F
section
variable {prog:u6}{w:World}{A:E9}{E:Value->d3->Prop}{h:Heap}{g:Array GenState}{d:Drawn}{t:Nat}{os:OsState}{a:Addr}{xs:Array Value}{n:Nat}{sl:Array (Option Value)}
end
end PySem
namespace PySem
open Sem (wp)
namespace F
end F
section
variable {prog:u6}{w:World}{K:Type}[DecidableEq K]{knd:KeyKind prog w K}{A:E9}{s:d3}{R:b4H->d3->Prop}
end
section
variable {prog:u6}{w:World}{K:Type}[DecidableEq K]{knd:KeyKind prog w K}{A:E9}{E:Value->d3->Prop}{s:d3}
end
end PySem
namespace L2
open PySem PySem.Spec PyProof.Rows
variable{X:Cx}
section
end
section
variable {tg:Expr}
end
section
def a4R(H:Hp)(xs:List V)(b:Addr):Bool:=match H b with
 | some (.tup zs)=>O3 zs xs
 | _=>false
def c2W(neg:Bool):R2:=fun x y H Q=>∃a p xs bs,x=.ref a/\y=.ref p/\H a=some (.tup xs)/\xs.all J0=true/\H p=some (.lst ((bs:List Addr).map V.ref)) /\
 (∀b∈bs,∃zs,H b=some (.tup zs)/\zs.all J0=true)/\Q (.bl (if neg then !(bs.any (a4R H xs))else bs.any (a4R H xs))) H
theorem b4v(xs:List V)(h:xs.all J0=true):O3 xs xs=true:=by
 unfold O3
 rw[a9a,beq_self_eq_true,b3p,A8]
 intro j hj
 have hl:j<xs.length:=by simpa using hj
 have e:xs.getD j .non=xs[j]:=by simp[L0,hl]
 rw[e]
 have f:=A8.mp h _ (z7 hl)
 cases q:xs[j] with
 | non=>rfl
 | bl b=>simp[eqV]
 | int i=>simp[eqV]
 | str s=>simp[eqV]
 | byt b=>rw[q]at f;cases f
 | flt b=>rw[q]at f;cases f
 | ref a=>rw[q]at f;cases f
 | ty n=>rw[q]at f;cases f
theorem b4V:∀ {bs:List Addr} {its:List Value},D6 (bs.map V.ref) its->its=bs.map Value.ref
 | [],_,.nil=>rfl
 | b::bs,_,.cons r t=>by
  cases r
  rw[b4V t];rfl
theorem b8X{pins:List (Addr×Obj)}{s:d3}{σ:St}{H:Hp}{a:Addr}{xs:List V}{bs:List Addr}(I:Inv X pins σ H s)(hu:X.A.in1.units<cLine)(ha:H a=some (.tup xs))(fx:xs.all J0=true)(hb:∀b∈bs,∃zs,H b=some (.tup zs)/\zs.all J0=true) :
  ∃f:Value->Bool,(∀w∈bs.map Value.ref,SeqAt.EqAt X.A.in1 s w (.ref a) (f w))/\(bs.map Value.ref).any f=bs.any (a4R H xs):=by
 refine⟨fun w=>match w with | .ref b=>a4R H xs b | _=>false,fun w hw=>?_,by rw[c6e];rfl⟩
 obtain⟨b,hbm,rfl⟩:=u8.mp hw
 obtain⟨zs,hz,fz⟩:=hb b hbm
 have e:a4R H xs b=O3 zs xs:=by unfold a4R;rw[hz]
 show SeqAt.EqAt X.A.in1 s (.ref b) (.ref a) (a4R H xs b)
 rw[e]
 by_cases q:b=a
 ·subst q
  rw[ha]at hz
  cases hz
  rw[b4v _ fx]
  exact SeqAt.EqAt.same _
 ·refine SeqAt.EqAt.of_refs q ?_
  obtain⟨us,r1,t1,_⟩:=I.tuple (SqT.of hz)
  obtain⟨ws,r2,t2,_⟩:=I.tuple (SqT.of ha)
  have l1:=r1.length
  have l2:=r2.length
  have q1:=SeqAt.RcAt.tuples (A:=X.A.in1) t1 t2 hu (a4C r1 r2 fz fx)
  simp only[g8,<-l1,<-l2]at q1
  exact q1
theorem b8F(hu:X.A.in1.units<cLine):OpR X (p5 .NotIn) (c2W true):=by
 intro pins s σ H x y v u Q I rx ry h
 obtain⟨a,p,xs,bs,rfl,rfl,ha,fx,hp,hb,q⟩:=h
 cases rx
 cases ry
 obtain⟨its,r,pl,hz⟩:=I.list (SqL.of hp)
 obtain rfl:=b4V r
 obtain⟨f,f1,f2⟩:=b8X I hu ha fx hb
 refine SeqAt.notIn_listAt f pl.isList (fun w hw=>f1 w (by simpa using hw)) ⟨.bl _,H,I,rfl,?_⟩
 rw[show(bs.map Value.ref).toArray.any f=(bs.map Value.ref).any f by simp,f2]
 exact q
end
section
end
structure IsC(K:Fg)(C:Addr):Prop where
 cl:Cls K C
 ha:A9 K (.ref C) "__class__" = some (some (.builtin "object.__class__"))
 hn:a7f K (.builtin "object.__class__") "__get__" = some (some (.builtin "getset_descriptor.__get__"))
 htk:b9H K (.builtin "object.__class__")=some true
 hm:c2i K C (.type "object")=some true
section
variable {P:u6}{w:World}{K:Type}[DecidableEq K]{knd:HeapKind P w K}{A:E9}{E:Value->d3->Prop}{s:d3}
end
section
theorem c2g{H:Hp}:∀ {l:List (List Key×V)} {m:List (List Key×Addr×Value)} {i:Nat} {k:List Key} {p:Addr} {v:Value},KT H l m->m[i]? = some (k,p,v)->∃y,l[i]? = some (k,y)/\C7 y v/\H p=some (.tup (k.map kV))
 | c::l,d::m,0,k,p,v,h,e=>by
  have h:Paired _ _ _:=h
  cases h with
  | cons h t=>
   obtain⟨h1,h2,h3⟩:=h
   cases e
   have h1:c.1=k:=h1
   rw[h1]at h2
   exact⟨c.2,by rw[a3E,<-h1],h3,h2⟩
 | c::l,d::m,i+1,k,p,v,h,e=>by
  have h:Paired _ _ _:=h
  cases h with
  | cons h t=>exact c2g (i:=i) (show KT H l m from t) e
 | [],m,i,k,p,v,h,e=>by
  have h:Paired _ _ _:=h
  cases h
  cases e
 | c::l,[],i,k,p,v,h,e=>by
  have h:Paired _ _ _:=h
  cases h
end
end L2
namespace PySem
open Sem (wp)
section
variable {prog:u6}{w:World}{A:E9}{E:Value->d3->Prop}{s:d3}
def Raw(h:Heap)(d:Addr)(es:Array a1C)(ep:Nat):Prop:=∃o,h.get? d=some o/\o.ExactDict/\o.data=.dict es ep
theorem Raw.at{h h':Heap}{d:Addr}{es:Array a1C}{ep:Nat}(x:Raw h d es ep)(e:∀o,h.get? d=some o->h'.get? d=some o):Raw h' d es ep:=let⟨o,h1,r⟩:=x; ⟨o,e _ h1,r⟩
theorem Raw.typeIs{d:Addr}{es:Array a1C}{ep:Nat}(x:Raw s.heap d es ep):s.TypeIs (.ref d) "dict" := let⟨o,h1,h2,_⟩:=x; ⟨o,h1,h2.1⟩
theorem iter_raw{d:Addr}{es:Array a1C}{ep:Nat}{Q:Value->d3->Prop}(hd:(d == V4)=false)(hm:Raw s.heap d es ep)
  (hQ:Q (.ref s.heap.objs.size) { s with heap:=s.heap.push { cls:=.type "dict_keyiterator",data:=.fields #[.ref d,.int 0 0,.int es.size 0,.int ep 0] } }):wpAny (model prog w) A (pyIter (.ref d)) Q E s:=by
 have hT:=hm.typeIs
 obtain⟨o,ho,hc,hdat⟩:=id hm
 refine wpAny_pyIter_slot hT F.slot_dict_iter (K5 F.slot_dict_iter hT F.entry_dict_iter ?_ (F.args_dict_iter_1 _))
 unfold a3I.«dict.__iter__» Builtin.Dict.dictSlotNone
 refine a9 (a9 (wpAny_notOrdered_dict hT (c8 ?_)))
 show wpAny _ _ (Builtin.Dict.showsAll d >>= _) _ _ s
 unfold Builtin.Dict.showsAll
 simp only[hd,a2w,if_false]
 refine a9 (c8 (a9 (b3q ho hdat (a9 (b7g ho hdat (a9 (A6 (c8 ⟨_,rfl,"dict_keyiterator",_,⟨_,h9 _ rfl,rfl⟩,F.slot_dict_keyiterator_next.lookup,?_⟩))))))))
 simpa[rawInt]using hQ
theorem next_raw{it d:Addr}{i ep:Nat}{es:Array a1C}{Q:Option Value->d3->Prop}(hit:s.heap.IsKeyIter it d i es.size ep)(hm:Raw s.heap d es ep)(hi:i<es.size)
  (hQ:∀h',h'.IsKeyIter it d (i+1) es.size ep->Heap.SameBut it s.heap h'->Q (some es[i].key) { s with heap:=h' }):wpAny (model prog w) A (a3G (.ref it)) Q E s:=by
 have hT:=hit.typeIs
 obtain⟨o,ho,hc,hd⟩:=id hit
 obtain⟨od,hod,_,hdd⟩:=hm
 have own:Builtin.Dict_items.ownsTuple "dict_keyiterator" = false:=by decide
 unfold a3G
 refine a9 (wpAny_attempt (L7 (name:=Str.ofString "__next__") hT F.slot_dict_keyiterator_next (K5 F.slot_dict_keyiterator_next hT F.entry_dict_keyiterator_next ?_ (F.args_dict_keyiterator_next_1 _))))
 refine a9 (c8 (a9 (a9 (a9 (Z8 hT (c8 (a9 (wpAny_fieldsOf ho hd ?_))))))))
 simp only[own,a2w,if_false]
 show wpAny _ _ (if(Value.ref d == Value.none)=true then _ else _) _ _ s
 have nn:¬(Value.ref d == Value.none)=true:=(l9:¬false=true)
 rw[if_neg nn]
 refine a9 (c8 (a9 (b3q hod hdd ?_)))
 rw[if_neg (by simp)]
 refine a9 (c8 (a9 (b7g hod hdd ?_)))
 rw[if_neg (by simp)]
 refine c8 ?_
 simp only[show ¬((i:Int)<0) by omega,if_false,l5,y9 hi]
 refine a9 (a9 (Z8 hT (c8 (a9 (c4I hT ?_)))))
 show wpAny _ _ (setField (.ref it) 1 (rawInt ((i:Int)+1)) >>= _) _ _ s
 refine a9 (wpAny_setField ho hd (by simp) ?_)
 have hit':(s.heap.update it (Obj.mapFields (·.setIfInBounds 1 (rawInt ((i:Int)+1))))).IsKeyIter it d (i+1) es.size ep:=
  ⟨_,L6 _ ho (Obj.isFreed_of_fields (Obj.data_mapFields hd _)),(Obj.cls_mapFields ..).trans hc,by rw[Obj.data_mapFields hd];simp[rawInt]⟩
 refine a9 (V7 (a9 (c4I (s:={ s with heap:=s.heap.update it (Obj.mapFields (·.setIfInBounds 1 (rawInt ((i:Int)+1)))) }) hit'.typeIs ?_)))
 show wpAny _ _ (pure es[i].key) _ _ _
 exact c8 (c8 ⟨_,rfl,c8 (hQ _ hit' (E1 ..))⟩)
theorem end_raw{it d:Addr}{i ep:Nat}{es:Array a1C}{Q:Option Value->d3->Prop}(hh:A.handled=none)(hit:s.heap.IsKeyIter it d i es.size ep)(hm:Raw s.heap d es ep)(hi:es.size<=i)
  (hQ:∀h',Heap.ExtBut it s.heap h'->Q none { s with heap:=h' }):wpAny (model prog w) A (a3G (.ref it)) Q E s:=by
 have hT:=hit.typeIs
 obtain⟨o,ho,hc,hd⟩:=id hit
 obtain⟨od,hod,_,hdd⟩:=hm
 have own:Builtin.Dict_items.ownsTuple "dict_keyiterator" = false:=by decide
 unfold a3G
 refine a9 (wpAny_attempt (L7 (name:=Str.ofString "__next__") hT F.slot_dict_keyiterator_next (K5 F.slot_dict_keyiterator_next hT F.entry_dict_keyiterator_next ?_ (F.args_dict_keyiterator_next_1 _))))
 refine a9 (c8 (a9 (a9 (a9 (Z8 hT (c8 (a9 (wpAny_fieldsOf ho hd ?_))))))))
 simp only[own,a2w,if_false]
 show wpAny _ _ (if(Value.ref d == Value.none)=true then _ else _) _ _ s
 have nn:¬(Value.ref d == Value.none)=true:=(l9:¬false=true)
 rw[if_neg nn]
 refine a9 (c8 (a9 (b3q hod hdd ?_)))
 rw[if_neg (by simp)]
 refine a9 (c8 (a9 (b7g hod hdd ?_)))
 rw[if_neg (by simp)]
 refine c8 ?_
 simp only[show ¬((i:Int)<0) by omega,if_false,l5,a0X hi]
 refine a9 (a9 (Z8 hT (c8 ?_)))
 show wpAny _ _ (setField (.ref it) 0 .none >>= _) _ _ s
 refine a9 (wpAny_setField ho hd (by simp) ?_)
 refine a9 ?_
 simp only[newExc,newTuple]
 refine a9 (A6 ?_ (by size_fits))
 refine a9 (m:=firstArgMember _ _) (wpAny_of_eq (a:=Value.none) (by simp only[firstArgMember];rfl) (A6 ?_ (by size_fits)))
 simp only[raiseNew]
 refine a9 (wpAny_handled ?_)
 rw[show A.in1.handled=none from hh]
 refine a9 (c8 (wpAny_throw ?_))
 refine a9 (wpAny_isInstance (T := "StopIteration") (b:=true) (show Shared.TypeIs _ (.ref _) _ from⟨_,h9 _ rfl,rfl⟩) isSubtype_stop (c8 (hQ _ ?_)))
 exact((E1 ..).extBut.push _).push _
theorem walks_raw(hh:A.handled=none)(I d:Addr)(hne:d≠I)(es:Array a1C)(ep:Nat) :
  Walks prog w A I [I,d] [I] es.size (fun i v=>∃e,es[i]? = some e/\v=e.key) (fun i h=>h.IsKeyIter I d i es.size ep/\Raw h d es ep) where
 sub:=fun b hb=>by simp at hb;simp[hb]
 frame:=fun _ _ _ st hk=>⟨st.1.at fun o e=>hk I (by simp) o e,st.2.at fun o e=>hk d (by simp) o e⟩
 item:=fun i s Q E hi st hQ=>next_raw st.1 st.2 hi fun h' hit' hs'=>hQ _ h' s.toks ⟨_,y9 hi,rfl⟩ ⟨hit',st.2.at fun o e=>hs'.extBut d o hne e⟩ fun b o hb e=>hs'.extBut b o (fun h=>hb (by simp[h])) e
 done:=fun s Q E st hQ=>end_raw hh st.1 st.2 (d5 _) fun h' he'=>hQ h' s.toks fun b o hb e=>he' b o (fun h=>hb (by simp[h])) e
 self:=fun _ _ _ _ st hQ=>wpAny_pyIter_keyiter st.1 hQ
theorem list_raw{d:Addr}{es:Array a1C}{ep:Nat}(lo:(d == V4)=false):PySem.W.KdlSrc prog w "dict" d d es.size (fun i v=>∃e,es[i]? = some e/\v=e.key) (fun h=>Raw h d es ep) where
 type:=fun s hm=>Raw.typeIs (s:=s) hm
 there:=fun _ ⟨_,h1,_⟩=>⟨d7 h1,d7 h1⟩
 keep:=fun _ _ hm hk=>hm.at fun o e=>hk d (.inl rfl) o e
 notList:=by decide
 notTuple:=by decide
 hint:=fun _ _ _ _ hm hq=>PySem.W.kdl_hint_dict (Raw.typeIs hm) hq
 iter:=fun _ _ hh hm=>⟨_,_,(fun _ _ hq=>iter_raw lo hm hq),walks_raw hh _ d (o5 (let⟨_,h1,_⟩:=hm;d7 h1)) es ep,⟨⟨_,h9 _ rfl,rfl,rfl⟩,hm.at fun _ e=>c5 _ e⟩⟩
end
end PySem
namespace L2
open PySem PySem.Spec PyProof.Rows
section
variable {X:Cx}
def a4Y(H:Hp)(bs:List Addr)(ks:List (List Key)):Prop:=bs.length=ks.length/\∀(i:Nat) b k,bs[i]? = some b->ks[i]? = some k->H b=some (.tup (k.map kV))
def b3X:List V->Hp->VK->Prop:=fun xs H Q=>∃p kvs,xs=[.ref p]/\H p=some (.dT kvs)/\∀bs:List Addr,a4Y H bs (kvs.map (·.1))->∀l,H l=none->Q (.ref l) (upd H l (.lst (bs.map V.ref)))
theorem c1o{H:Hp}{kvs:List (List Key×V)}{xs:List (List Key×Addr×Value)}(r:KT H kvs xs):a4Y H (xs.map (·.2.1)) (kvs.map (·.1)):=by
 have hl:=Paired.length r
 refine⟨by rw[a8,a8,hl],fun i b k e1 e2=>?_⟩
 rw[b7]at e1 e2
 obtain⟨⟨k',p,v⟩,f1,g1⟩:=t5.mp e1
 obtain⟨⟨k2,y⟩,f2,g2⟩:=t5.mp e2
 obtain⟨y',f3,_,f4⟩:=c2g r f1
 rw[f2]at f3
 cases f3
 cases g1
 cases g2
 exact f4
theorem c2L{P:u6}{w:World}{H:Hp}{h:Heap}{a:Addr}{kvs:List (List Key×V)}(ok:HOk P w H h)(e:H a=some (.dT kvs)):(a == V4)=false/\∃es ep xs,Raw h a es ep/\KT H kvs xs/\es.size=xs.length/\∀(i:Nat) en,es[i]? = some en->∃x,xs[i]? = some x/\en.key=.ref x.2.1:=by
 obtain⟨_,hd,xs,r,o,es,ep,h1,h2,h3,h4,_⟩:=b9i ok e
 refine⟨hd,es,ep,xs,⟨o,h1,h2,h3⟩,r,size_of_entries h4,fun i en he=>?_⟩
 rw[<-C3,h4,b7]at he
 obtain⟨x,hx,rfl⟩:=t5.mp he
 exact⟨x,hx,rfl⟩
theorem b3d(hc:X.calm=true):U3 X (.type "list") b3X:=fun pins s σ H xs us Q I r h=>by
 obtain⟨p,kvs,rfl,hp,q⟩:=h
 obtain⟨u,rfl,ru⟩:=a4Q r
 cases ru
 obtain⟨hz,_,_⟩:=b9i I.hok hp
 obtain⟨hS,es,ep,ys,hR,rk,hs,hk⟩:=c2L I.hok hp
 have hl:=Paired.length rk
 refine b9C (list_raw (es:=es) (ep:=ep) hS) (I.ok.hd hc) hR (by omega) fun h' tk acc c hkp ha hit=>?_
 have ka:=c1o rk
 refine⟨.ref _,_,I.laid (t':=tk) (a:=s.heap.objs.size) (o:=.lst ((ys.map (·.2.1)).map V.ref)) hkp (d5 _) ?_,rfl,q _ ka _ (I.hok.fresh (d5 _))⟩
 refine⟨by rw[a8,a8];omega,acc.toList,c,?_,by simpa using ha⟩
 refine a7D (by have:=hit.1;rw[a8,a8];simp;omega) fun i x u a b=>?_
 obtain⟨en,e1,e2⟩:=hit.2 i u (by rw[<-C3];exact b)
 obtain⟨z,e3,e4⟩:=hk i en e1
 rw[b7,b7,e3]at a
 cases a
 rw[e2,e4]
 rfl
end
end L2
namespace PySem
open Sem (wp)
section
variable {prog:u6}{w:World}{K:Type}[DecidableEq K]{knd:HeapKind prog w K}{A:E9}{s:d3}{R:b4H->d3->Prop}
end
section
variable {prog:u6}{w:World}{K:Type}[DecidableEq K]{knd:HeapKind prog w K}{A:E9}{E:Value->d3->Prop}{s:d3}
end
end PySem
namespace L2
open PySem PySem.Spec PyProof.Rows
variable{X:Cx}{pins:List (Addr×Obj)}{σ:St}{H:Hp}{s:d3}{I a z:Addr}{w:World}{h:Heap}{ks:List Str}{es:Array (Int×Value)}{ep i n:Nat}{Q:Value->d3->Prop}{oz:Obj}
section
end
section
end
abbrev XE:=List Key×Addr×V
section
variable {b:Addr}{xs:List XE}{k:List Key}
end
section
variable {i o:Expr}{ti to:TE}
end
section
end
section
end
section
theorem a6x:∀ {us:List Value} {ss:List Str},StrsAre us ss->D6 (ss.map V.str) us
 | _,_,.nil=>.nil
 | _,_,.cons _ _ h=>.cons ⟨_,rfl⟩ (a6x h)
end
section
variable {P:u6}{A:E9}{E:Value->d3->Prop}
abbrev bt(w:World):Bool:=w.params.followText "set-order"
structure Stx(P:u6)(w:World)(ks:List Str)(es:Array (Int×Value))(t:SetTable):Prop where
 el:ElemsOf (strKind P w) es.toList
 ks:(es.toList.map fun e=>strOf e.2).Perm ks
 sz:es.size<scanBound
 fit:t.fits es.size=true
 led:t.led = !bt w
 pl:es.size≠0->t.plain=false
def a3q(P:u6)(w:World)(h:Heap)(a:Addr)(ks:List Str):Prop:=∃o es ep t,h.get? a=some o/\o.ExactSet/\o.data=.set es ep t/\Stx P w ks es t
theorem a3q.stay{h':Heap}(x:a3q P w h a ks)(k:∀o,h.get? a=some o->h'.get? a=some o):a3q P w h' a ks:=
 let⟨o,es,ep,t,e,r⟩:=x
 ⟨o,es,ep,t,k _ e,r⟩
theorem c1n{t:SetTable}{h:Int}{x:Value}:(layNew t es h x).2.1.led=t.led/\(t.plain=false->(layNew t es h x).2.1.plain=false):=by
 unfold layNew
 split
 ·dsimp only
  unfold SetTable.orStandIn
  split
  ·exact⟨rfl,id⟩
  ·exact⟨rfl,fun _=>rfl⟩
 ·exact⟨rfl,fun _=>rfl⟩
theorem b5W{t:SetTable}:(relayAll t es n).2.1.led=t.led/\(t.plain=false->(relayAll t es n).2.1.plain=false):=by
 unfold relayAll
 split
 ·rename_i t' order e
  unfold SetTable.relaid SetTable.laid at e
  obtain⟨ow,_,e⟩:=Option.bind_eq_some_iff.mp e
  cases e
  dsimp only
  split
  ·exact⟨rfl,id⟩
  ·exact⟨rfl,fun _=>rfl⟩
 ·exact⟨rfl,fun _=>rfl⟩
theorem b3E{k:Str}{v:Value}(h:(strKind P w).is k v=true):∃t,v=.str k t:=by
 cases v with
 | str y t=>
  have e:decide (y=k)=true:=h
  exact⟨t,by rw[of_decide_eq_true e]⟩
 | _=>cases h
theorem b4P{o:Obj}{es':Array (Int×Value)}{t t':SetTable}(ho:h.get? a=some o)(hx:o.ExactSet)(hd:o.data=.set es ep t)(r:Stx P w ks es' t') :
  (h.update a (Obj.putSet es' t')).get? a=some { o with data:=.set es' (ep+1) t' }/\a3q P w (h.update a (Obj.putSet es' t')) a ks:=by
 have e:(h.update a (Obj.putSet es' t')).get? a=some { o with data:=.set es' (ep+1) t' }:=by
  rw[<-putSet_of es' t' hd]
  exact L6 _ ho (by rw[putSet_of es' t' hd];rfl)
 exact⟨e,_,es',ep+1,t',e,hx,rfl,r⟩
theorem a9O{g:Bool->Sem Unit}(hg:∀(b:Bool) (s1:d3) (R:Unit->d3->Prop),R () s1->wpAny (model P w) A (g b) R E s1){o:Obj}{es1:Array (Int×Value)}{t t2:SetTable}{dm:Bool}{R:Option Bool->d3->Prop}
  (ho:s.heap.get? a=some o) (hx:o.ExactSet) (hd:o.data=.set es ep t) (r:Stx P w ks es1 t2) (hp:t2.plain=false) (k:∀h',Heap.SameBut a s.heap h'->a3q P w h' a ks->R (some true) { s with heap:=h' }) :
  wpAny (model P w) A (do
    storeSet a es1 t2
    if (!dm && t2.tooFull) = true then do
        g (relayAll t2 es1 (SetTable.grown es1.size)).2.2
        storeSet a (relayAll t2 es1 (SetTable.grown es1.size)).1 (relayAll t2 es1 (SetTable.grown es1.size)).2.1
        pure (some true)
     else pure (some true)) R E s:=by
 refine a9 (wpAny_storeSet_of ho hd ?_ (fits_of_scanBound r.sz))
 obtain⟨o1,S1⟩:=b4P ho hx hd r
 have b1:=E1 s.heap a (Obj.putSet es1 t2)
 split
 ·have pm:=relayAll_perm t2 es1 (SetTable.grown es1.size)
  have ft:=relayAll_fits t2 es1 (SetTable.grown es1.size)
  have ld:=b5W (t:=t2) (es:=es1) (n:=SetTable.grown es1.size)
  generalize relayAll t2 es1 (SetTable.grown es1.size)=z at pm ft ld ⊢
  obtain⟨es2,t3,gv⟩:=z
  dsimp only at pm ft ld ⊢
  have sz:es2.size=es1.size:=by rw[<-z8,pm.length_eq,z8]
  have r2:Stx P w ks es2 t3:=⟨r.el.perm pm,(pm.map _).trans r.ks,by rw[sz];exact r.sz,ft,ld.1.trans r.led,fun _=>ld.2 hp⟩
  refine a9 (hg _ _ _ ?_)
  refine a9 (wpAny_storeSet_of o1 rfl ?_ (fits_of_scanBound r2.sz))
  exact c8 (k _ (b1.trans (E1 _ a _)) (b4P o1 hx rfl r2).2)
 ·exact c8 (k _ b1 S1)
theorem b7M{y:Str}{tk:Tok}{Q:Bool->d3->Prop}(hS:a3q P w s.heap a ks)(hr:ks.length+1<scanBound)
  (k:∀b h',Heap.SameBut a s.heap h'->a3q P w h' a (if y∈ks then ks else ks++[y])->Q b { s with heap:=h' }):wpAny (model P w) A (setAddHashed a (.str y tk) ((strKind P w).hash y)) Q E s:=by
 obtain⟨o,es,ep,t,ho,hx,hd,r⟩:=hS
 have hk:(strKind P w).is y (.str y tk)=true:=strKind_is _ _ _ _
 have sc:(Value.str y tk).scannable=true:=rfl
 have ln:es.size=ks.length:=by rw[<-z8,<-r.ks.length_eq,a8]
 unfold setAddHashed setAddHashedIn
 refine V7 (a9 (wpAny_setState_of ho hd r.fit ?_))
 dsimp only
 rw[byScan_of sc r.sz r.el,if_pos rfl]
 unfold setAddByScan
 refine a9 ?_
 refine a9 (wpAny_rule ?_)
 refine a9 (wpAny_setScan_of hk ho hd r.fit r.el ?_)
 cases hf:List.findIdx? (fun e=>(strKind P w).is y e.2) es.toList with
 | some j=>
  dsimp only
  obtain⟨hj,pj,_⟩:=List.findIdx?_eq_some_iff_getElem.mp hf
  have hin:y∈ks:=r.ks.mem_iff.mp (u8.mpr ⟨es.toList[j],z7 hj,by obtain⟨t',e⟩:=b3E pj;rw[e];rfl⟩)
  refine c8 (c8 ?_)
  have:=k false s.heap (Heap.SameBut.refl a s.heap) (by rw[if_pos hin];exact⟨o,es,ep,t,ho,hx,hd,r⟩)
  exact this
 | none=>
  dsimp only
  have hin:y∉ks:=fun z=>by
   obtain⟨e,he,q⟩:=u8.mp (r.ks.mem_iff.mpr z)
   obtain⟨⟨k',hk',_⟩,_⟩:=r.el e he
   obtain⟨t',e'⟩:=b3E hk'
   have no:=List.findIdx?_eq_none_iff.mp hf e he
   rw[e']at q no
   have q:k'=y:=q
   rw[q,strKind_is]at no
   cases no
  rw[if_neg hin]at k
  have pm:=layNew_perm t es ((strKind P w).hash y) (.str y tk)
  have ft:=layNew_fits t es ((strKind P w).hash y) (.str y tk)
  have ld:=c1n (t:=t) (es:=es) (h:=(strKind P w).hash y) (x:=.str y tk)
  generalize layNew t es ((strKind P w).hash y) (.str y tk)=z at pm ft ld ⊢
  obtain⟨es1,t1,dm,gv⟩:=z
  dsimp only at pm ft ld ⊢
  rw[b9L]at pm
  have l1:es1.size=es.size+1:=by rw[<-z8,pm.length_eq,c9,z8];rfl
  have base:∀t2:SetTable,t2.fits es1.size=true->t2.led=t1.led->t2.plain=false->Stx P w (ks++[y]) es1 t2:=fun t2 f l p=>⟨(r.el.push hk sc).perm pm,by
   refine(pm.map _).trans ?_
   rw[u9]
   exact r.ks.append (a0K _),by omega,f,l.trans (ld.1.trans r.led),fun _=>p⟩
  have gw:∀(b:Bool) (s1:d3) (R:Unit->d3->Prop),R () s1->wpAny (model P w) A (match b with | true=>rule "set.scan.the-table-gave-way" | false=>pure ()) R E s1:=fun b s1 R q=>by
   cases b
   ·exact c8 q
   ·exact wpAny_rule q
  refine a9 (gw gv _ _ ?_)
  split
  ·rename_i pt
   refine a9 ?_
   rw[hashByValue_scannable 8 sc]
   refine c8 ?_
   refine a9O ?_ ho hx hd (base _ ?_ ?_ ?_) ?_ fun h' sb S'=>?_
   ·intro b s1 R q
    cases b
    ·exact c8 q
    ·exact wpAny_rule q
   ·exact SetTable.fits_plain_off ft
   ·rfl
   ·rfl
   ·rfl
   ·exact c8 (k _ h' sb S')
  ·rename_i pt
   refine a9 (c8 ?_)
   refine a9O ?_ ho hx hd (base _ ?_ ?_ ?_) ?_ fun h' sb S'=>?_
   ·intro b s1 R q
    cases b
    ·exact c8 q
    ·exact wpAny_rule q
   ·exact ft
   ·rfl
   ·exact c1N.mpr pt
   ·exact c1N.mpr pt
   ·exact c8 (k _ h' sb S')
def met(val:Nat->Str):Nat->List Str
 | 0=>[]
 | i+1=>if val i∈met val i then met val i else met val i++[val i]
theorem b5b(val:Nat->Str):∀i,(met val i).length<=i
 | 0=>d5 _
 | i+1=>by
  have:=b5b val i
  unfold met
  split
  ·omega
  ·rw[c9];exact Nat.succ_le_succ this
theorem a8C(val:Nat->Str):∀i,(met val i).Nodup
 | 0=>b1K
 | i+1=>by
  unfold met
  split
  ·exact a8C val i
  ·rename_i h
   exact a3s.mpr ⟨a8C val i,by simp,fun a ha b hb e=>h (by rw[c6.mp hb]at e;rw[<-e];exact ha)⟩
theorem b5a(val:Nat->Str):∀i x,x∈met val i↔∃j,j<i/\val j=x
 | 0,x=>⟨(fun h=>nomatch h),fun⟨j,h,_⟩=>absurd h (a0N _)⟩
 | i+1,x=>by
  have ih:=b5a val i
  unfold met
  split
  ·rename_i h
   rw[ih]
   constructor
   ·rintro⟨j,h1,h2⟩;exact⟨j,by omega,h2⟩
   ·rintro⟨j,h1,h2⟩
    by_cases e:j=i
    ·subst e;rw[h2]at h;exact(ih x).mp h
    ·exact⟨j,by omega,h2⟩
  ·rw[i8,ih,c6]
   constructor
   ·rintro(⟨j,h1,h2⟩ | rfl)
    ·exact⟨j,by omega,h2⟩
    ·exact⟨i,by omega,rfl⟩
   ·rintro⟨j,h1,h2⟩
    by_cases e:j=i
    ·subst e;exact .inr h2.symm
    ·exact .inl ⟨j,by omega,h2⟩
theorem b5N{R:b4H->d3->Prop}{fp wr:List Addr}{G:Array GenState->Array GenState->Prop}{Pr:Nat->Value->Prop}{St:Nat->d3->Prop}(W:WalksS P w A.in1 I fp wr G n Pr St)(z:Addr)(hz:z∉fp)
  (val:Nat->Str) (hv:∀i v,Pr i v->∃t,v=.str (val i) t) (hb:n+1<scanBound):∀(k i:Nat) (s:d3),n - i=k->i<=n->St i s->a3q P w s.heap z (met val i) ->
   (∀s',Moved (z::wr) G s s'->a3q P w s'.heap z (met val n)->R (.ok (.ret .none)) s')->a2o (model P w) A (.builtin "set.update.loop" ⟨[.ref z,.ref I],[]⟩) R s:=by
 have zw:z∉wr:=fun h=>hz (W.sub _ h)
 have sub:∀b∈wr,b∈z::wr:=fun b h=>C6 _ h
 intro k
 induction k with
 | zero=>
  intro i s hk hi st hS hR
  obtain rfl:i=n:=by omega
  refine a1B a3x ?_
  rw[Around.under_plainId X7 _]
  refine a9 (m:=a3G (.ref I)) (W.done s _ _ st fun s' hm=>?_)
  exact c8 (hR s' (hm.mono sub) (hS.stay fun o e=>hm.heap z o zw e))
 | succ k ih=>
  intro i s hk hi st hS hR
  have lt:i<n:=by omega
  refine a1B a3x ?_
  rw[Around.under_plainId X7 _]
  refine a9 (m:=a3G (.ref I)) (W.item i s _ _ lt st fun v s' hP st' hm=>?_)
  obtain⟨t,rfl⟩:=hv i v hP
  have S':a3q P w s'.heap z (met val i):=hS.stay fun o e=>hm.heap z o zw e
  refine a9 (m:=a0U [Value.str (val i) t] (setAdd z (.str (val i) t))) (V7 ?_)
  unfold setAdd
  refine V7 (a9 ((strKind P w).pyHash (k:=val i) (strKind_is _ _ _ _) ?_))
  refine b7M (s:={ s' with toks:=s'.toks+1 }) S' (by have:=b5b val i;omega) fun b h' sb S2=>?_
  refine c8 ⟨a6v X7 _,ih (i+1) _ (by omega) lt (W.frame _ s' _ _ st' (a1Q _) fun c hc o e=>?_) S2 fun s2 hm2 S3=>?_⟩
  ·rw[sb.2 c (fun q:c=z=>hz (q ▸ hc))];exact e
  ·refine hR s2 (Moved.trans W.gtrans ((hm.mono sub).then_heap (a1Q _) fun c o hc e=>?_) hm2) S3
   rw[sb.2 c (fun q:c=z=>hc (q ▸ C2))];exact e
theorem b7L(a:Value)(h:Q (.ref s.heap.objs.size) { s with heap:=s.heap.push { cls:=.type "set",dict:=none,data:=.set #[] 0 (.fresh 0 0 (!bt w)) } }) :
  a2o (model P w) A (.call (.builtin "set.__new__") ⟨[.type "set",a],[]⟩) (wants Q E) s:=by
 refine codeAny_of_tree ?_
 refine a9 (m:=checkBuiltinCall "set.__new__" ⟨[.type "set",a],[]⟩) (wpAny_of_eq (PySem.F.newCall_set_1 a) (c8 ⟨a6v b3m _,a1B PySem.F.entry_set_new ?_⟩))
 rw[Around.under_plainId b3m _]
 unfold a3I.«set.__new__» Builtin.Frozenset.newClass
 have hs:=sub_set_self
 obtain⟨hp,g,d,tk,os⟩:=s
 dsimp only
 wp_walk
 refine wpAny_askSetting (c8 ?_)
 dsimp only
 simp only[newObj]
 exact a9 (wpAny_alloc (c8 (c8 h)))
set_option maxHeartbeats 3200000 in
theorem b5P{l:Addr}{items:Array Value}{ss:List Str}(hh:A.handled=none)(hl:s.heap.IsList l items)(hi:StrsAre items.toList ss)(hb:items.size+1<scanBound)
  (h:∀(h':Heap) (tk:Nat),a3q P w h' s.heap.objs.size (met (fun i=>ss.getD i ⟨#[]⟩) items.size)->(∀b o,b<s.heap.objs.size->s.heap.get? b=some o->h'.get? b=some o)->s.toks<=tk->s.heap.objs.size<h'.objs.size ->
   Q (.ref s.heap.objs.size) { s with heap:=h',toks:=tk }):wpAny (model P w) A (call (.type "set") [.ref l]) Q E s:=by
 obtain⟨cc,tl,hmro⟩:=L4.mro
 have hmade:=L4.made
 have hsub:=L4.sub
 refine wpAny_call (codeAny_of_tree (c:=.call (.type "set") ⟨[.ref l],[]⟩) ?_)
 show wpAny (model P w) _ (callAny (.type "set") _) _ _ _
 refine c8 ⟨Code.quiet_builtin _ (by decide +kernel),a1B PySem.F.entry_type_call ?_⟩
 rw[Around.under_plain (weight_type_call_type "set" [.ref l] []) rfl]
 have z1:=L4.notType
 have z2:=L4.canCreate
 have z3:=PySem.F.typeCall_set_1 (.ref l)
 repeat (any_goals (first | assumption | wp_step))
 obtain⟨O,hO⟩:∃O:Obj,O={ cls:=.type "set",dict:=none,data:=.set #[] 0 (.fresh 0 0 (!bt w)) }:=⟨_,rfl⟩
 refine a2x (b7L (.ref l) (E:=E) (Q:=fun obj s1=>obj=.ref s.heap.objs.size/\s1={ s with heap:=s.heap.push O }) (by rw[hO];exact⟨rfl,rfl⟩)) fun r s1 hr=>?_
 cases r with
 | error e=>exact hr
 | ok fl=>
  cases fl with
  | ret obj=>
   obtain⟨rfl,rfl⟩:=hr
   have gO:(s.heap.push O).get? s.heap.objs.size=some O:=h9 _ (by rw[hO];rfl)
   have hT:Shared.TypeIs { s with heap:=s.heap.push O } (.ref s.heap.objs.size) "set" := ⟨_,gO,by rw[hO]⟩
   have y1:=L4.init.lookup
   have y2:=L4.init.bind (.ref s.heap.objs.size)
   repeat (any_goals (first | assumption | wp_step))
   refine a2x (codeAny_call_builtin (R:=wants (fun r s2=>r=.none/\∃h' tk,s2={ s with heap:=h',toks:=tk }/\a3q P w h' s.heap.objs.size (met (fun i=>ss.getD i ⟨#[]⟩) items.size)/\(∀b o,b<s.heap.objs.size->s.heap.get? b=some o->h'.get? b=some o)/\s.toks<=tk) E) L4.init.plain PySem.F.entry_set_init (check_set_init_1 hT ?_)) fun r2 s2 hr2=>?_
   ·subst hO
    obtain⟨ol,hol,hcl,nl,hdl⟩:=id hl
    have lL:l<s.heap.objs.size:=d7 hol
    obtain⟨ocls,odict,odata,oslots⟩:=ol
    simp only at hcl hdl
    subst hcl hdl
    have hol2:=c5 ({ cls:=.type "set",dict:=none,data:=.set #[] 0 (.fresh 0 0 (!bt w)) }:Obj) hol
    have x1:=PySem.F.sub_list_set
    have x2:=PySem.F.sub_list_frozenset
    have x3:(Value.type "list" == Value.type "dict")=false:=by decide
    have hl1:(s.heap.push ({ cls:=.type "set",dict:=none,data:=.set #[] 0 (.fresh 0 0 (!bt w)) }:Obj)).IsList l items:=⟨_,hol2,rfl,nl,rfl⟩
    unfold a3I.«set.__init__» noKeywords Builtin.Frozenset.updateFrom
    generalize hPI:pyIter=PI
    wp_walk
    subst hPI
    refine a5A (s:={ s with heap:=s.heap.push ({ cls:=.type "set",dict:=none,data:=.set #[] 0 (.fresh 0 0 (!bt w)) }:Obj) }) hl1 ?_
    refine a9 (wpAny_runValue ?_)
    have hh3:A.in1.in1.in1.handled=none:=by simp[hh]
    have nI:l≠(s.heap.push ({ cls:=.type "set",dict:=none,data:=.set #[] 0 (.fresh 0 0 (!bt w)) }:Obj)).objs.size:=by rw[V6];exact o5 (a3z lL)
    have nf:s.heap.objs.size∉[(s.heap.push ({ cls:=.type "set",dict:=none,data:=.set #[] 0 (.fresh 0 0 (!bt w)) }:Obj)).objs.size,l]:=by
     rw[V6]
     simp only[g6,j8,or_false,not_or]
     exact⟨o5 (a4n _),a8Z lL⟩
    have hval:∀(i:Nat) (v:Value),items[i]? = some v->∃t,v=.str (ss.getD i ⟨#[]⟩) t:=fun i v hv=>by
     rw[<-C3]at hv
     obtain⟨x,t,rfl⟩:=hi.all v (N9 hv)
     refine⟨t,?_⟩
     rw[<-hi.strs,Q0,b7,hv]
     rfl
    refine b5N ((Walks.list hh3 _ l nI items).toS) s.heap.objs.size nf (fun i=>ss.getD i ⟨#[]⟩) hval hb (items.size - 0) 0 _ (by omega) (F5 _) ⟨⟨_,h9 _ rfl,rfl,rfl⟩,hl1.push _⟩ ?_ ?_
    ·exact⟨_,#[],0,.fresh 0 0 (!bt w),c5 _ gO,⟨rfl,rfl,rfl⟩,rfl,fun e he=>(by simp at he),List.Perm.nil,by decide,rfl,rfl,fun q=>(q rfl).elim⟩
    ·intro s' hm S'
     obtain⟨h',g',d',tk',os'⟩:=s'
     have eg:g'=s.gens:=hm.gens
     have ed:d'=s.drawn:=hm.drawn
     have eo:os'=s.os:=hm.os
     subst eg ed eo
     refine c8 (c8 ⟨rfl,h',tk',rfl,S',fun b o hb e=>?_,hm.toks⟩)
     refine hm.heap b o ?_ (c5 _ (c5 _ e))
     rw[V6]
     simp only[g6,j8,or_false,not_or]
     exact⟨o5 hb,o5 (a3z hb)⟩
   ·cases r2 with
    | error e=>exact hr2
    | ok f2=>
     cases f2 with
     | ret r=>
      obtain⟨rfl,h',tk,rfl,S',hk',ht⟩:=hr2
      repeat (any_goals (first | assumption | wp_step))
      exact h _ _ S' hk' ht (let⟨_,_,_,_,e,_⟩:=S';d7 e)
     | _=>exact hr2.elim
  | _=>exact hr.elim
end
theorem Y2:Slot "set_iterator" "__next__" "set_iterator.__next__" :=
 Slot.of (owner := "set_iterator") (n := "__next__") (by rw[typeLookup_type,c4L];kernel_rfl) (by decide +kernel) (by decide +kernel) (by decide +kernel) (by first | exact .inl (by decide +kernel) | exact .inr (by decide +kernel)) (by rw[isSubtype_type];kernel_rfl)
theorem a4x:entryFor table "set_iterator.__next__" = some a3I.«set_iterator.__next__» := entryFor_of_tree (by kernel_rfl)
theorem a9L:Manifest.owners.lookup (String.ofList ['r','o','t','a','r','e','t','i','_','t','e','s'].reverse)=some Manifest.sig_set_iterator:=by kernel_rfl
theorem a5V(a:Value):argsOk "set_iterator.__next__" ⟨[a],[]⟩:=by
 unfold argsOk;rw[signature?_of (id := "set_iterator.__next__") (n:=['_','_','t','x','e','n','_','_']) (o:=['r','o','t','a','r','e','t','i','_','t','e','s']) (by kernel_rfl) a9L];kernel_rfl
theorem a9N:Slot "set_iterator" "__iter__" "set_iterator.__iter__" :=
 Slot.of (owner := "set_iterator") (n := "__iter__") (by rw[typeLookup_type,c4L];kernel_rfl) (by decide +kernel) (by decide +kernel) (by decide +kernel) (by first | exact .inl (by decide +kernel) | exact .inr (by decide +kernel)) (by rw[isSubtype_type];kernel_rfl)
theorem b3H:entryFor table "set_iterator.__iter__" = some a3I.«dict_keyiterator.__iter__» :=
 entryFor_alias (id' := "dict_keyiterator.__iter__") (by kernel_rfl) rfl (by decide +kernel) (by kernel_rfl)
theorem b5M(a:Value):argsOk "set_iterator.__iter__" ⟨[a],[]⟩:=by
 unfold argsOk;rw[signature?_of (id := "set_iterator.__iter__") (n:=['_','_','r','e','t','i','_','_']) (o:=['r','o','t','a','r','e','t','i','_','t','e','s']) (by kernel_rfl) a9L];kernel_rfl
theorem a8k:entryFor table "set.__iter__" = some a3I.«frozenset.__iter__» :=
 entryFor_alias (id' := "frozenset.__iter__") (by kernel_rfl) rfl (by decide +kernel) (by kernel_rfl)
def SIt(h:Heap)(I:Addr)(f:Value)(i:Nat)(z:Addr)(n ep:Nat):Prop:=∃o,h.get? I=some o/\o.cls=.type "set_iterator" /\ o.data=.fields #[f,.int i 0,.ref z,.int n 0,.int ep 0]
section
variable {P:u6}{A:E9}{E:Value->d3->Prop}{t:SetTable}{f v:Value}
theorem SIt.ty(h:SIt s.heap I f i z n ep):s.TypeIs (.ref I) "set_iterator" := let⟨o,ho,hc,_⟩:=h; ⟨o,ho,hc⟩
theorem a7G{g:Value}{o:Obj}(ho:h.get? I=some o)(hc:o.cls=.type "set_iterator")(hdt:o.data=.fields #[f,.int i 0,.ref z,.int n 0,.int ep 0]) :
  SIt (h.update I (Obj.mapFields (·.setIfInBounds 1 (rawInt ((i:Int)+1))))) I f (i+1) z n ep/\SIt (h.update I (Obj.mapFields (·.setIfInBounds 0 g))) I g i z n ep:=
 ⟨⟨_,L6 _ ho (Obj.isFreed_of_fields (Obj.data_mapFields hdt _)),(Obj.cls_mapFields ..).trans hc,by rw[Obj.data_mapFields hdt];simp[rawInt]⟩,
  ⟨_,L6 _ ho (Obj.isFreed_of_fields (Obj.data_mapFields hdt _)),(Obj.cls_mapFields ..).trans hc,by rw[Obj.data_mapFields hdt];simp⟩⟩
theorem a9M{sl nx:Nat}{Q:Option Value->d3->Prop}(hit:SIt s.heap I (.int (sl:Int) 0) i z es.size ep)(hz:s.heap.get? z=some oz)(hd:oz.data=.set es ep t)(hf:t.fits es.size=true)
  (hn:∀(E:Value->d3->Prop) (R:Option (Value×Nat)->d3->Prop),R (some (v,nx)) s->wpAny (model P w) A.in1 (setNext z sl i ep) R E s)
  (k:∀h',SIt h' I (.int (nx:Int) 0) (i+1) z es.size ep->Heap.SameBut I s.heap h'->Q (some v) { s with heap:=h' }):wpAny (model P w) A (a3G (.ref I)) Q E s:=by
 obtain⟨o,ho,hc,hdt⟩:=id hit
 unfold a3G
 refine a9 (wpAny_attempt (L7 (name:=Str.ofString "__next__") hit.ty Y2 (K5 Y2 hit.ty a4x ?_ (a5V _))))
 unfold a3I.«set_iterator.__next__»
 refine a9 (c8 ?_)
 refine a9 (wpAny_fieldsOf ho hdt ?_)
 dsimp only
 refine a9 (wpAny_setEntries_of hz hd hf ?_)
 rw[if_neg (by simp)]
 rw[l5,l5,l5]
 refine a9 (hn _ _ ?_)
 dsimp only
 refine a9 (wpAny_setField ho hdt (by simp) ?_)
 obtain⟨o1,h1,c1,d1⟩:=(a7G (g:=rawInt (nx:Int)) ho hc hdt).2
 refine a9 (wpAny_setField h1 d1 (by simp) ?_)
 exact c8 ⟨_,rfl,c8 (k _ (a7G (g:=.none) h1 c1 d1).1 ((E1 ..).trans (E1 ..)))⟩
theorem b2e{sl:Nat}{Q:Option Value->d3->Prop}(hh:A.handled=none)(hit:SIt s.heap I (.int (sl:Int) 0) i z es.size ep)(hz:s.heap.get? z=some oz)(hd:oz.data=.set es ep t)(hf:t.fits es.size=true)
  (hn:∀(E:Value->d3->Prop) (R:Option (Value×Nat)->d3->Prop),R none s->wpAny (model P w) A.in1 (setNext z sl i ep) R E s)
  (k:∀h',Heap.ExtBut I s.heap h'->Q none { s with heap:=h' }):wpAny (model P w) A (a3G (.ref I)) Q E s:=by
 obtain⟨o,ho,hc,hdt⟩:=id hit
 unfold a3G
 refine a9 (wpAny_attempt (L7 (name:=Str.ofString "__next__") hit.ty Y2 (K5 Y2 hit.ty a4x ?_ (a5V _))))
 unfold a3I.«set_iterator.__next__»
 refine a9 (c8 ?_)
 refine a9 (wpAny_fieldsOf ho hdt ?_)
 dsimp only
 refine a9 (wpAny_setEntries_of hz hd hf ?_)
 rw[if_neg (by simp)]
 rw[l5,l5,l5]
 refine a9 (hn _ _ ?_)
 dsimp only
 refine a9 (wpAny_setField ho hdt (by simp) ?_)
 refine a9 ?_
 simp only[newExc,newTuple]
 refine a9 (A6 ?_ (by size_fits))
 refine a9 (m:=firstArgMember _ _) (wpAny_of_eq (a:=Value.none) (by first | rfl | (simp only[firstArgMember];rfl)) ?_)
 refine A6 ?_ (by size_fits)
 simp only[raiseNew]
 refine a9 (wpAny_handled ?_)
 rw[show A.in1.handled=none from hh]
 refine a9 (c8 (wpAny_throw ?_))
 refine a9 (wpAny_isInstance (T := "StopIteration") (b:=true) ⟨_,h9 _ rfl,rfl⟩ isSubtype_stop ?_)
 exact c8 (k _ (((E1 ..).extBut.push _).push _))
theorem b5L{ft:Addr}{ot:Obj}{pl:Array Value}{pn j:Nat}{Q:Option Value->d3->Prop}(hit:SIt s.heap I (.ref ft) i z es.size ep)(hz:s.heap.get? z=some oz)(hd:oz.data=.set es ep t)(hf:t.fits es.size=true)
  (ht:s.heap.get? ft=some ot) (hp:ot.data=.seq pl pn) (hj:pl[i]? = some (.int (j:Int) 0)) (he:(es[j]?).map (·.2)=some v)
  (k:∀h',SIt h' I (.ref ft) (i+1) z es.size ep->Heap.SameBut I s.heap h'->Q (some v) { s with heap:=h' }):wpAny (model P w) A (a3G (.ref I)) Q E s:=by
 obtain⟨o,ho,hc,hdt⟩:=id hit
 unfold a3G
 refine a9 (wpAny_attempt (L7 (name:=Str.ofString "__next__") hit.ty Y2 (K5 Y2 hit.ty a4x ?_ (a5V _))))
 unfold a3I.«set_iterator.__next__»
 refine a9 (c8 ?_)
 refine a9 (wpAny_fieldsOf ho hdt ?_)
 dsimp only
 refine a9 (wpAny_setEntries_of hz hd hf ?_)
 rw[if_neg (by simp)]
 refine a9 (wpAny_seqItems ht hp ?_)
 dsimp only
 rw[l5,hj]
 dsimp only
 unfold setNextDrawn
 refine a9 (a9 (wpAny_setState_of hz hd hf ?_))
 dsimp only
 rw[l5,l5,if_neg (by simp)]
 obtain⟨e,h1,rfl⟩:=t5.mp he
 rw[h1]
 refine c8 ?_
 refine a9 (wpAny_setField ho hdt (by simp) ?_)
 exact c8 ⟨_,rfl,c8 (k _ (a7G (g:=.none) ho hc hdt).1 (E1 ..))⟩
theorem b7J{ft:Addr}{ot:Obj}{pl:Array Value}{pn:Nat}{Q:Option Value->d3->Prop}(hh:A.handled=none)(hit:SIt s.heap I (.ref ft) i z es.size ep)(hz:s.heap.get? z=some oz)(hd:oz.data=.set es ep t)(hf:t.fits es.size=true)
  (ht:s.heap.get? ft=some ot) (hp:ot.data=.seq pl pn) (hj:pl[i]? = none)
  (k:∀h',Heap.ExtBut I s.heap h'->Q none { s with heap:=h' }):wpAny (model P w) A (a3G (.ref I)) Q E s:=by
 obtain⟨o,ho,hc,hdt⟩:=id hit
 unfold a3G
 refine a9 (wpAny_attempt (L7 (name:=Str.ofString "__next__") hit.ty Y2 (K5 Y2 hit.ty a4x ?_ (a5V _))))
 unfold a3I.«set_iterator.__next__»
 refine a9 (c8 ?_)
 refine a9 (wpAny_fieldsOf ho hdt ?_)
 dsimp only
 refine a9 (wpAny_setEntries_of hz hd hf ?_)
 rw[if_neg (by simp)]
 refine a9 (wpAny_seqItems ht hp ?_)
 dsimp only
 rw[l5,hj]
 dsimp only
 refine a9 (wpAny_setField ho hdt (by simp) ?_)
 obtain⟨o1,h1,c1,d1⟩:=(a7G (g:=rawInt 0) ho hc hdt).2
 refine a9 (wpAny_setField h1 d1 (by simp) ?_)
 refine a9 ?_
 simp only[newExc,newTuple]
 refine a9 (A6 ?_ (by size_fits))
 refine a9 (m:=firstArgMember _ _) (wpAny_of_eq (a:=Value.none) (by first | rfl | (simp only[firstArgMember];rfl)) ?_)
 refine A6 ?_ (by size_fits)
 simp only[raiseNew]
 refine a9 (wpAny_handled ?_)
 rw[show A.in1.handled=none from hh]
 refine a9 (c8 (wpAny_throw ?_))
 refine a9 (wpAny_isInstance (T := "StopIteration") (b:=true) ⟨_,h9 _ rfl,rfl⟩ isSubtype_stop ?_)
 exact c8 (k _ ((((E1 ..).trans (E1 ..)).extBut.push _).push _))
end
section
variable {P:u6}{A:E9}{E:Value->d3->Prop}
theorem b5F{src:Source}{Q:Nat->d3->Prop}(hn:n≠0)(h:Q (w.draws src (s.drawn.get src) % n) { s with drawn:=s.drawn.bump src }):wpAny (model P w) A (choose src n) Q E s:=fun _ _ _=>⟨hn,h⟩
theorem a5s{α:Type}:∀(xs:List α) (i:Nat) (h:i<xs.length),(xs[i]::xs.eraseIdx i).Perm xs
 | [],i,h=>absurd h (a0N _)
 | x::r,0,h=>a0K _
 | x::r,i+1,h=>(List.Perm.swap x (r[i]'(b6U h)) _).trans (b9F x (a5s r i (b6U h)))
theorem b5g{α:Type}:∀(n:Nat) (xs:List α) (s:d3) (Q:List α->d3->Prop),xs.length=n->(∀ys d,ys.Perm xs->Q ys { s with drawn:=d })->wpAny (model P w) A (drawOrder n xs) Q E s
 | 0,xs,s,Q,hl,h=>by
  obtain rfl:=a3D.mp hl
  exact c8 (h [] s.drawn (a0K _))
 | n+1,[],s,Q,hl,h=>by cases hl
 | n+1,x::r,s,Q,hl,h=>by
  unfold drawOrder
  refine a9 (b5F (by simp) ?_)
  have hi:w.draws .order (s.drawn.get .order) % (x::r).length<(x::r).length:=Nat.mod_lt _ (by simp)
  generalize w.draws .order (s.drawn.get .order) % (x::r).length=i at hi ⊢
  rw[g9 hi]
  dsimp only
  refine a9 (b5g n _ _ _ (by rw[b7e,if_pos hi,hl];rfl) fun ys d p=>?_)
  exact c8 (h _ d ((b9F _ p).trans (a5s _ _ hi)))
theorem b4Y{α:Type}(nx:Nat->Nat):∀(fuel k:Nat) (left:List α) (out:Array α),left.length=fuel->(pickOrder.go nx fuel k left out).toList.Perm (out.toList++left)
 | 0,k,left,out,hl=>by
  obtain rfl:=a3D.mp hl
  rw[b0j]
  exact a0K _
 | fuel+1,k,left,out,hl=>by
  have hi:nx k % left.length<left.length:=Nat.mod_lt _ (by omega)
  unfold pickOrder.go
  generalize nx k % left.length=i at hi ⊢
  rw[g9 hi]
  dsimp only
  refine(b4Y nx fuel (k+1) _ _ (by rw[b7e,if_pos hi,hl];rfl)).trans ?_
  rw[b9L,List.append_assoc]
  exact List.Perm.append_left _ (a5s _ _ hi)
theorem b6b{α:Type}(nx:Nat->Nat)(xs:Array α):(pickOrder nx xs).toList.Perm xs.toList:=b4Y nx xs.size 0 xs.toList #[] (by simp)
structure SWk(P:u6)(w:World)(A:E9)(s s':d3)(z I:Addr)(ks:List Str):Prop where
 ex:∃(ws:List Value) (fp:List Addr) (St:Nat->Heap->Prop),Walks P w A I fp [I] ws.length (fun i v=>ws[i]? = some v) St/\St 0 s'.heap/\(∀b∈fp,b=z\/s.heap.objs.size<=b)/\(∀v∈ws,∃x t,v=.str x t)/\(ws.map strOf).Perm ks
theorem c1w{t:SetTable}(r:Stx P w ks es t){l:List (Int×Value)}(p:l.Perm es.toList):(∀v∈l.map (·.2),∃x t,v=Value.str x t)/\((l.map (·.2)).map strOf).Perm ks:=by
 refine⟨fun v hv=>?_,?_⟩
 ·obtain⟨e,he,rfl⟩:=u8.mp hv
  obtain⟨⟨k,hk,_⟩,_⟩:=r.el e (p.mem_iff.mp he)
  obtain⟨t,e'⟩:=b3E hk
  exact⟨k,t,e'⟩
 ·rw[M7]
  exact(p.map _).trans r.ks
theorem b8M{t:SetTable}{Q:Option (Value×Nat)->d3->Prop}(hb:bt w=true)(hz:s.heap.get? z=some oz)(hd:oz.data=.set es ep t)(hf:t.fits es.size=true)
  (h:Q (((pickOrder (w.params.setOrder z ep) es)[i]?).map fun e=>(e.2,0)) s):wpAny (model P w) A (setNext z 0 i ep) Q E s:=by
 unfold setNext
 refine a9 (wpAny_setState_of hz hd hf ?_)
 dsimp only
 unfold setsByText
 refine a9 (a9 (wpAny_askSetting (c8 ?_)))
 show wpAny _ _ (if bt w=true then _ else _) _ _ _
 rw[if_pos hb,if_neg (by simp)]
 refine a9 ?_
 unfold setWalk
 refine a9 (wpAny_setState_of hz hd hf ?_)
 dsimp only
 unfold setsByText
 refine a9 (a9 (wpAny_askSetting (c8 ?_)))
 show wpAny _ _ (if bt w=true then _ else _) _ _ _
 rw[if_pos hb]
 refine a9 (wpAny_askSetting (c8 ?_))
 exact c8 h
theorem b8N{sl:Nat}{t:SetTable}{Q:Option (Value×Nat)->d3->Prop}(hb:bt w=false)(hz:s.heap.get? z=some oz)(hd:oz.data=.set es ep t)(hf:t.fits es.size=true)(h1:es.size<=1)(hl:t.led=true)
  (h:Q (match es[SetTable.below t.place sl]?,t.place[SetTable.below t.place sl]? with | some (_,x),some j=>some (x,j+1) | _,_=>none) s):wpAny (model P w) A (setNext z sl i ep) Q E s:=by
 unfold setNext
 refine a9 (wpAny_setState_of hz hd hf ?_)
 dsimp only
 unfold setsByText
 refine a9 (a9 (wpAny_askSetting (c8 ?_)))
 show wpAny _ _ (if bt w=true then _ else if(!t.plain&&decide (es.size > 1))=true then _ else _) _ _ _
 rw[if_neg (by rw[hb];decide),if_neg (by simp;omega)]
 refine a9 ?_
 show wpAny _ _ (if(!t.led && !es.isEmpty)=true then _ else pure ()) _ _ _
 rw[if_neg (by rw[hl];simp)]
 exact c8 (c8 h)
theorem SIt.stay{h':Heap}{f:Value}(x:SIt h I f i z n ep)(k:∀o,h.get? I=some o->h'.get? I=some o):SIt h' I f i z n ep:=let⟨o,e,r⟩:=x; ⟨o,k _ e,r⟩
theorem a8j{f:Value}(hit:SIt s.heap I f i z n ep)(h:Q (.ref I) s):wpAny (model P w) A (pyIter (.ref I)) Q E s:=by
 refine wpAny_pyIter_slot hit.ty a9N (K5 a9N hit.ty b3H ?_ (b5M _))
 show wpAny _ _ (ret (.ref I)) _ _ s
 exact c8 ⟨_,rfl,"set_iterator",_,hit.ty,Y2.lookup,h⟩
theorem c2s{ft:Addr}{ot:Obj}{t:SetTable}{od:List Nat}(hh:A.handled=none)(nz:z≠I)(nt:ft≠I)(hd:oz.data=.set es ep t)(hf:t.fits es.size=true)(ht:ot.data=.seq (od.map fun(i:Nat)=>rawInt i).toArray)(hp:od.Perm (A0 es.size)) :
  Walks P w A I [I,z,ft] [I] (od.map fun j=>((es[j]?).map (·.2)).getD .none).length (fun i v=>(od.map fun j=>((es[j]?).map (·.2)).getD .none)[i]? = some v) (fun i h=>SIt h I (.ref ft) i z es.size ep/\h.get? z=some oz/\h.get? ft=some ot) where
 sub:=fun b hb=>by rw[c6.mp hb];exact C2
 frame:=fun i h h' st k=>⟨st.1.stay fun o e=>k I (by simp) o e,k z (by simp) _ st.2.1,k ft (by simp) _ st.2.2⟩
 item:=fun i s Q E hi st k=>by
  rw[a8]at hi
  obtain⟨j,hj⟩:∃j,od[i]? = some j:=⟨_,g9 hi⟩
  have lj:j<es.size:=N4.mp (hp.mem_iff.mp (N9 hj))
  refine b5L (v:=es[j].2) st.1 st.2.1 hd hf st.2.2 ht (j:=j) (by simp[hj,rawInt]) (by rw[y9 lj];rfl) fun h' S1 sb=>?_
  refine k _ h' s.toks (by rw[b7,hj,a1x,y9 lj];rfl) ⟨S1,(sb.2 z nz).trans st.2.1,(sb.2 ft nt).trans st.2.2⟩ fun b o nb e=>(sb.2 b fun q=>nb (by rw[q];exact c6.mpr rfl)).trans e
 done:=fun s Q E st k=>by
  rw[a8]at st
  refine b7J hh st.1 st.2.1 hd hf st.2.2 ht (by simp) fun h' eb=>?_
  exact k h' s.toks fun b o nb e=>eb b o (fun q=>nb (by rw[q];exact c6.mpr rfl)) e
 self:=fun i s Q E st k=>a8j st.1 k
theorem c2q{t:SetTable}(hh:A.handled=none)(hb:bt w=true)(nz:z≠I)(hd:oz.data=.set es ep t)(hf:t.fits es.size=true) :
  Walks P w A I [I,z] [I] ((pickOrder (w.params.setOrder z ep) es).toList.map (·.2)).length (fun i v=>((pickOrder (w.params.setOrder z ep) es).toList.map (·.2))[i]? = some v) (fun i h=>SIt h I (.int ((0:Nat):Int) 0) i z es.size ep/\h.get? z=some oz) where
 sub:=fun b hb=>by rw[c6.mp hb];exact C2
 frame:=fun i h h' st k=>⟨st.1.stay fun o e=>k I (by simp) o e,k z (by simp) _ st.2⟩
 item:=fun i s Q E hi st k=>by
  rw[a8,z8]at hi
  refine a9M (nx:=0) (v:=(pickOrder (w.params.setOrder z ep) es)[i].2) st.1 st.2 hd hf (fun E R q=>b8M hb st.2 hd hf (by rw[y9 hi];exact q)) fun h' S1 sb=>?_
  refine k _ h' s.toks (by rw[b7,C3,y9 hi];rfl) ⟨S1,(sb.2 z nz).trans st.2⟩ fun b o nb e=>(sb.2 b fun q=>nb (by rw[q];exact c6.mpr rfl)).trans e
 done:=fun s Q E st k=>by
  rw[a8,z8]at st
  refine b2e hh st.1 st.2 hd hf (fun E R q=>b8M hb st.2 hd hf (by rw[a0X (d5 _)];exact q)) fun h' eb=>?_
  exact k h' s.toks fun b o nb e=>eb b o (fun q=>nb (by rw[q];exact c6.mpr rfl)) e
 self:=fun i s Q E st k=>a8j st.1 k
theorem b5p(xs:Array Nat):SetTable.below xs 0=0:=by
 unfold SetTable.below
 have:∀fuel hi,SetTable.below.go xs 0 fuel 0 hi=0:=by
  intro fuel
  induction fuel with
  | zero=>intro hi;rfl
  | succ n ih=>
   intro hi
   unfold SetTable.below.go
   split
   ·rw[if_neg (a0N _)];exact ih _
   ·rfl
 exact this _ _
theorem c1y{xs:Array Nat}{j:Nat}(h1:xs.size=1)(h:xs[0]? = some j):SetTable.below xs (j+1)=1:=by
 unfold SetTable.below
 rw[h1]
 unfold SetTable.below.go
 rw[if_pos (by decide)]
 show(if xs.getD 0 (j+1)<j+1 then SetTable.below.go xs (j+1) 0 1 1 else _)=1
 rw[a1V,h,if_pos (by simp)]
 rfl
theorem c2r{t:SetTable}(hh:A.handled=none)(hb:bt w=false)(nz:z≠I)(hd:oz.data=.set es ep t)(hf:t.fits es.size=true)(h1:es.size<=1)(hl:t.led=true) :
  Walks P w A I [I,z] [I] (es.toList.map (·.2)).length (fun i v=>(es.toList.map (·.2))[i]? = some v) (fun i h=>SIt h I (.int ((if i=0 then 0 else t.place.getD 0 0+1:Nat):Int) 0) i z es.size ep/\h.get? z=some oz) where
 sub:=fun b hb=>by rw[c6.mp hb];exact C2
 frame:=fun i h h' st k=>⟨st.1.stay fun o e=>k I (by simp) o e,k z (by simp) _ st.2⟩
 item:=fun i s Q E hi st k=>by
  rw[a8,z8]at hi
  obtain rfl:i=0:=by omega
  have e1:es.size=1:=by omega
  have ps:t.place.size=es.size:=by
   simp only[SetTable.fits,M4,beq_iff_eq]at hf
   exact hf.1
  have pj:t.place[0]? = some (t.place.getD 0 0):=by
   rw[a1V,y9 (by omega)];rfl
  refine a9M (sl:=0) (nx:=t.place.getD 0 0+1) (v:=es[0].2) st.1 st.2 hd hf (fun E R q=>b8N hb st.2 hd hf h1 hl (by rw[b5p,y9 hi,pj];exact q)) fun h' S1 sb=>?_
  refine k _ h' s.toks (by rw[b7,C3,y9 hi];rfl) ⟨S1,(sb.2 z nz).trans st.2⟩ fun b o nb e=>(sb.2 b fun q=>nb (by rw[q];exact c6.mpr rfl)).trans e
 done:=fun s Q E st k=>by
  rw[a8,z8]at st
  have ps:t.place.size=es.size:=by
   simp only[SetTable.fits,M4,beq_iff_eq]at hf
   exact hf.1
  refine b2e hh st.1 st.2 hd hf (fun E R q=>b8N hb st.2 hd hf h1 hl ?_) fun h' eb=>?_
  ·by_cases e0:es.size=0
   ·rw[if_pos e0,b5p,a0X (by omega)];exact q
   ·have pj:t.place[0]? = some (t.place.getD 0 0):=by
     rw[a1V,y9 (by omega)];rfl
    rw[if_neg e0,c1y (by omega) pj,a0X (by omega)];exact q
  ·exact k h' s.toks fun b o nb e=>eb b o (fun q=>nb (by rw[q];exact c6.mpr rfl)) e
 self:=fun i s Q E st k=>a8j st.1 k
end
section
variable {P:u6}{A:E9}{E:Value->d3->Prop}
theorem a3q.ty(h:a3q P w s.heap z ks):s.TypeIs (.ref z) "set" := let⟨o,_,_,_,ho,hx,_⟩:=h; ⟨o,ho,hx.1⟩
theorem b1n{t:SetTable}(r:Stx P w ks es t){l:List Value}(p:l.Perm (es.toList.map (·.2))):(∀v∈l,∃x t,v=Value.str x t)/\(l.map strOf).Perm ks:=by
 obtain⟨a,b⟩:=c1w r (a0K es.toList)
 exact⟨fun v hv=>a v (p.mem_iff.mp hv),(p.map _).trans b⟩
theorem b8E{od:List Nat}(p:od.Perm (A0 es.size)):(od.map fun j=>((es[j]?).map (·.2)).getD .none).Perm (es.toList.map (·.2)):=by
 refine(p.map _).trans (List.Perm.of_eq ?_)
 refine c1M fun i=>?_
 rw[b7,b7]
 by_cases h:i<es.size
 ·have e:es.toList[i]? = some es[i]:=by simp[h]
  rw[a1U h,e]
  simp[h]
 ·rw[a1l (by simpa using h),a1l (by simpa using h)];rfl
theorem b5O{A':E9}(hh:A'.handled=none)(hS:a3q P w s.heap z ks)
  (k:∀(s':d3) (I:Addr),(∀b o,s.heap.get? b=some o->s'.heap.get? b=some o)->s'.gens=s.gens->s'.os=s.os->s'.toks=s.toks->s.heap.objs.size<=I->SWk P w A' s s' z I ks->Q (.ref I) s'):wpAny (model P w) A (pyIter (.ref z)) Q E s:=by
 obtain⟨o,es,ep,t,ho,hx,hd,r⟩:=id hS
 have hz:=d7 ho
 refine wpAny_pyIter_slot hS.ty b3l (K5 b3l hS.ty a8k ?_ (PySem.F.args_set_iter_1 _))
 unfold a3I.«frozenset.__iter__» Builtin.Frozenset.slot0
 refine a9 (a9 (c8 (c8 ?_)))
 unfold Builtin.Frozenset.sizeOf
 refine a9 (a9 (wpAny_setEntries_of ho hd r.fit (c8 ?_)))
 unfold setDrawn
 refine a9 (a9 (wpAny_setState_of ho hd r.fit ?_))
 dsimp only
 unfold setsByText
 refine a9 (a9 (wpAny_askSetting (c8 (c8 ?_))))
 show wpAny _ _ (if(!bt w&&(!t.plain&&decide (es.size > 1)))=true then _ else _) _ _ _
 have hsc:es.size<=j6:=fits_of_scanBound r.sz
 cases hb:(!bt w&&(!t.plain&&decide (es.size > 1)))with
 | true=>
  rw[if_pos rfl]
  refine a9 (b5g es.size (A0 es.size) s _ (by simp) fun od d p=>?_)
  have lo:od.length=es.size:=by rw[p.length_eq,Z5]
  refine a9 (wpAny_newTuple ?_ (by rw[a8,lo];exact hsc))
  refine a9 (wpAny_setEpoch_of (s:={ s with heap:=_,drawn:=d }) (c5 _ ho) hd r.fit ?_)
  refine a9 (A6 (c8 ⟨_,rfl,"set_iterator",_,⟨_,h9 _ rfl,rfl⟩,Y2.lookup,?_⟩))
  refine k _ _ (fun b o e=>c5 _ (c5 _ e)) rfl rfl rfl (by show _<=(s.heap.push _).objs.size;rw[V6];exact a1Q _) ?_
  have nI:∀b,b<s.heap.objs.size+1->b≠(s.heap.push { cls:=.type "tuple",data:=.seq (od.map fun(i:Nat)=>rawInt i).toArray }).objs.size:=fun b hb=>by rw[V6];exact o5 hb
  obtain⟨v1,v2⟩:=b1n r (b8E p)
  refine⟨_,[_,z,s.heap.objs.size],_,c2s (oz:=o) (ot:={ cls:=.type "tuple",data:=.seq (od.map fun(i:Nat)=>rawInt i).toArray }) hh (nI z (a3z hz)) (nI _ (a4n _)) hd r.fit rfl p,⟨⟨_,h9 _ rfl,rfl,rfl⟩,c5 _ (c5 _ ho),c5 _ (h9 _ rfl)⟩,fun b hb=>?_,v1,v2⟩
  simp only[g6,j8,or_false]at hb
  rcases hb with rfl | rfl | rfl
  ·exact .inr (by rw[V6];exact a1Q _)
  ·exact .inl rfl
  ·exact .inr (d5 _)
 | false=>
  rw[if_neg (by decide)]
  refine a9 (c8 ?_)
  refine a9 (wpAny_setEpoch_of ho hd r.fit ?_)
  refine a9 (A6 (c8 ⟨_,rfl,"set_iterator",_,⟨_,h9 _ rfl,rfl⟩,Y2.lookup,?_⟩))
  refine k _ _ (fun b o e=>c5 _ e) rfl rfl rfl (d5 _) ?_
  have nz:z≠s.heap.objs.size:=o5 hz
  have fp:∀b∈[s.heap.objs.size,z],b=z\/s.heap.objs.size<=b:=fun b hb=>by
   simp only[g6,j8,or_false]at hb
   rcases hb with rfl | rfl
   ·exact .inr (d5 _)
   ·exact .inl rfl
  cases hw:bt w with
  | true=>
   obtain⟨v1,v2⟩:=b1n r ((b6b (w.params.setOrder z ep) es).map (·.2))
   exact⟨_,_,_,c2q hh hw nz hd r.fit,⟨⟨_,h9 _ rfl,rfl,rfl⟩,c5 _ ho⟩,fp,v1,v2⟩
  | false=>
   have h1:es.size<=1:=by
    rw[hw]at hb
    rcases Nat.lt_or_ge 1 es.size with q | q
    ·exfalso
     rw[r.pl (by omega),c7I q]at hb
     cases hb
    ·exact q
   obtain⟨v1,v2⟩:=b1n r (a0K _)
   exact⟨_,_,_,c2r hh hw nz hd r.fit h1 (by rw[r.led,hw];rfl),⟨⟨_,h9 _ rfl,rfl,rfl⟩,c5 _ ho⟩,fp,v1,v2⟩
theorem b7O{Q:Bool->d3->Prop}(hS:a3q P w s.heap z ks)(h:Q false s):wpAny (model P w) A (Builtin.List.listLengthHint (.ref z)) Q E s:=by
 unfold Builtin.List.listLengthHint
 refine a9 (wpAny_specialOf hS.ty PySem.F.slot_set_len.lookup ?_)
 generalize hid:("set.__len__" : String)=id0
 wp_delta
 rw[show splitId id0=some ("set","__len__")from by subst hid;decide +kernel]
 subst hid
 refine a9 (wpAny_isInstance (T := "set") (b:=true) hS.ty (by rw[isSubtype_type];kernel_rfl) ?_)
 refine wpAny_ite_split (fun q=>absurd q (by decide)) (fun _=>?_)
 refine wpAny_ite_split (fun _=>?_) (fun q=>absurd (by decide +kernel) q)
 exact a9 (c4G hS.ty (c8 h))
theorem b2h{R:b4H->d3->Prop}{D:Addr}{res:Value}{c0:Nat}(hh:A.handled=none)(hS:a3q P w s.heap z ks)(hD:s.heap.get? D=some { cls:=.type "list",data:=.seq #[] c0 })(hl:ks.length<=j6)
  (hR:∀s' (acc:Array Value) c',(∀b o,b≠D->s.heap.get? b=some o->s'.heap.get? b=some o)->s'.gens=s.gens->s'.os=s.os->s.toks<=s'.toks->s'.heap.get? D=some { cls:=.type "list",dict:=none,data:=.seq acc c',slots := #[] }->(∀v∈acc.toList,∃x t,v=.str x t)->(acc.toList.map strOf).Perm ks->R (.ok (.ret res)) s') :
  wpAny (model P w) A.in1 (Builtin.List.listExtendWith (.ref D) (.ref z) res) (fun fin s'=>match fin with | .done f=>R (.ok f) s' | .again c'=>c'.quiet=true/\a2o (model P w) A c' R s') (fun e s'=>R (.error e) s') s:=by
 have lD:=d7 hD
 have nDz:D≠z:=fun e=>by
  obtain⟨o,es,ep,t,ho,hx,_⟩:=hS
  rw[<-e,hD]at ho
  cases ho
  exact absurd (Value.type.inj hx.1) (by decide)
 unfold Builtin.List.listExtendWith
 refine a9 (c4G (T := "set") hS.ty ?_)
 have h1:Builtin.List.listSameRef (.ref D) (.ref z)=false:=by simp[Builtin.List.listSameRef,nDz]
 have h2:(Value.type "set" == Value.type "list")=false:=by decide
 have h3:(Value.type "set" == Value.type "tuple")=false:=by decide
 simp only[h1,h2,h3,c5V,a2w,if_false]
 refine a9 (b5O (A':=A.in1) (by simpa using hh) hS fun s1 I k1 g1 o1 t1 lI W=>?_)
 obtain⟨ws,fp,St,W,st,hfp,vs,pm⟩:=W.ex
 have lw:ws.length=ks.length:=by have:=pm.length_eq;rw[a8]at this;exact this
 have Df:D∉fp:=fun h=>by
  rcases hfp D h with e | e
  ·exact nDz e
  ·exact absurd lD (Nat.not_lt.mpr e)
 have D1:=k1 _ _ hD
 have key:∀(h:Heap) (c1:Nat),St 0 h->(∀b o,b≠D->s1.heap.get? b=some o->h.get? b=some o)->h.get? D=some { cls:=.type "list",data:=.seq #[] c1 } ->
   a2o (model P w) A (.builtin "list.extend.loop" ⟨[.ref D,.ref I,res],[]⟩) R { s1 with heap:=h }:=fun h c1 hst hk hD1=>by
  refine codeAny_extend_loopS W.toS (by rw[lw];exact hl) D Df res ws.length 0 _ #[] c1 rfl (F5 _) hst hD1 (ItemsOf.nil _) fun s' acc c' hm hD' hacc=>?_
  have ea:acc.toList=ws:=by
   refine c1M fun i=>?_
   by_cases hi:i<ws.length
   ·have ha:i<acc.size:=by rw[hacc.1];exact hi
    have e1:acc[i]? = some acc[i]:=y9 ha
    rw[C3,e1]
    exact(hacc.2 i _ e1).symm
   ·rw[a1l (by rw[z8,hacc.1];omega),a1l (by omega)]
  refine hR s' acc c' (fun b o nb e=>hm.heap b o (fun hmem=>?_) (hk b o nb (k1 _ _ e))) (hm.gens.trans g1) (hm.os.trans o1) (E3 (b6V t1.symm) hm.toks) hD' (by rw[ea];exact vs) (by rw[ea];exact pm)
  rcases g6.mp hmem with q | q
  ·exact nb q
  ·exact absurd (d7 e) (by rw[c6.mp q];exact Nat.not_lt.mpr lI)
 refine a9 (V7 (b7O (s:=s1) (hS.stay fun o e=>k1 _ _ e) ?_))
 refine wpAny_ite_split (fun _=>?_) (fun _=>c8 ⟨a6v b0g _,key s1.heap c0 st (fun b o _ e=>e) D1⟩)
 refine a9 (wpAny_rule ?_)
 refine a9 ?_
 show wpAny (model P w) _ (updateSeq D (·.push .none) >>= fun _=>updateSeq D (·.pop)) _ _ _
 refine a9 (wpAny_updateSeq D1 rfl ?_)
 have D2:=L6 (Obj.mapSeq (·.push Value.none)) D1 rfl
 refine wpAny_updateSeq (hz:=by seq_fits) D2 rfl ?_
 have D3:=L6 (Obj.mapSeq (·.pop)) D2 rfl
 have off:∀b o,b≠D->s1.heap.get? b=some o->((s1.heap.update D (Obj.mapSeq (·.push Value.none))).update D (Obj.mapSeq (·.pop))).get? b=some o:=fun b o nb e=>(a1e _ _ (Ne.symm nb)).trans ((a1e _ _ (Ne.symm nb)).trans e)
 exact c8 ⟨a6v b0g _,key _ _ (W.frame 0 _ _ st fun b hb o e=>off b o (fun q=>Df (q ▸ hb)) e) off D3⟩
theorem b0z{R:List Value->d3->Prop}(hh:A.handled=none)(hS:a3q P w s.heap z ks)(hl:ks.length<=j6)
  (h:∀s' (acc:List Value),(∀b o,s.heap.get? b=some o->s'.heap.get? b=some o)->s'.gens=s.gens->s'.os=s.os->s.toks<=s'.toks->(∀v∈acc,∃x t,v=.str x t)->(acc.map strOf).Perm ks->R acc s'):wpAny (model P w) A (collect (.ref z)) R E s:=by
 unfold collect
 refine a9 (wpAny_runValue (a1B entry_proto_collect' ?_))
 rw[Around.under_plainId PySem.F.plain_proto_collect _]
 show wpAny (model P w) A.in1 (newList [] >>= fun l=>again (.builtin "list.__iadd__" ⟨[l,.ref z],[]⟩)) _ _ s
 refine a9 (A6 ?_)
 refine c8 ⟨a6v b1J _,a1B entry_list_iadd' ?_⟩
 rw[Around.under_plainId b1J _]
 have D1:(s.heap.push { cls:=.type "list",data:=.seq ([]:List Value).toArray }).get? s.heap.objs.size=some { cls:=.type "list",data:=.seq #[] }:=h9 _ rfl
 show wpAny (model P w) A.in1 (Builtin.List.listExtendWith (.ref s.heap.objs.size) (.ref z) (.ref s.heap.objs.size)) _ _ _
 have main:=b2h (A:=A) (P:=P) (w:=w) (s:={ s with heap:=s.heap.push { cls:=.type "list",data:=.seq ([]:List Value).toArray } }) (res:=.ref s.heap.objs.size)
  (R:=fun(q:b4H) (s':d3)=>∃(acc:Array Value) (c':Nat),q=.ok (.ret (.ref s.heap.objs.size))/\(∀b o,s.heap.get? b=some o->s'.heap.get? b=some o)/\s'.gens=s.gens/\s'.os=s.os/\s.toks<=s'.toks/\s'.heap.get? s.heap.objs.size=some { cls:=.type "list",dict:=none,data:=.seq acc c',slots := #[] }/\(∀v∈acc.toList,∃x t,v=.str x t)/\(acc.toList.map strOf).Perm ks)
  hh (hS.stay fun o e=>c5 _ e) D1 hl
  (fun s' acc c' k1 g1 o1 t1 e1 v1 p1=>⟨acc,c',rfl,fun b o e=>k1 b o (o5 (d7 e)) (c5 _ e),g1,o1,t1,e1,v1,p1⟩)
 refine a0f main (fun fin s' x=>?_) fun e s' x=>?_
 ·cases fin with
  | done f=>
   obtain⟨acc,c',e,k1,g1,o1,t1,e1,v1,p1⟩:=x
   cases e
   refine a9 (m:=load s.heap.objs.size) (wpAny_load e1 ?_)
   exact c8 (h s' acc.toList k1 g1 o1 t1 v1 p1)
  | again c1=>
   refine⟨x.1,a2x x.2 fun q s2 y=>?_⟩
   obtain⟨acc,c',rfl,k1,g1,o1,t1,e1,v1,p1⟩:=y
   refine a9 (m:=load s.heap.objs.size) (wpAny_load e1 ?_)
   exact c8 (h s2 acc.toList k1 g1 o1 t1 v1 p1)
 ·obtain⟨_,_,e',_⟩:=x
  cases e'
theorem b2d{Q:Fin->d3->Prop}{acc:List Value}{ss:List Str}(hA:StrsAre acc ss)(hl:acc.length<64)
  (h:∀(h':Heap) (ts:List Str) (out:Array Value) (e:Nat),(∀b o,s.heap.get? b=some o->h'.get? b=some o)->h'.get? s.heap.objs.size=some (seqObj "list" out e)->StrsAre out.toList ts->ts.Perm ss->sortedS ts=true->Q (.done (.ret (.ref s.heap.objs.size))) { s with heap:=h' }) :
  wpAny (model P w) A (do let l <-newList acc;let _ <-a0U [l] (call (.builtin "list.sort") [l] []);ret l) Q E s:=by
 refine a9 (wpAny_newList ?_ (by rw[sizeLine_eq];omega))
 have hL:(s.heap.push (seqObj "list" acc.toArray 0)).get? s.heap.objs.size=some (seqObj "list" acc.toArray 0):=h9 _ rfl
 show wpAny (model P w) _ _ _ _ { s with heap:=s.heap.push (seqObj "list" acc.toArray 0) }
 refine a9 (V7 (K5 slot_list_sort ⟨_,hL,rfl⟩ entry_list_sort (list_sort_treeK strKind_oneLt hL hA.keysOf (fun v1 v2 a3V e=>keyKind_strs (by rw[<-e];exact hA)) hl fun st pm so=>⟨_,rfl,?_⟩) (args_list_sort _)))
 refine c8 ?_
 obtain⟨ts,a1,a2,a3⟩:=sorted_out_str hA pm so
 obtain⟨e,he⟩:=sortedHeap_at (out:=(arrOf st).map (·.2)) hL
 refine h _ ts _ e (fun b o q=>?_) he a1 a2 a3
 have l1:=d7 q
 exact(sortedHeap_old (o5 l1) (by rw[size_push'];exact a3z l1)).trans (c5 _ q)
theorem b2g(hh:A.handled=none)(hS:a3q P w s.heap z ks)(hl:ks.length<64)
  (h:∀(s':d3) (p:Addr) (ts:List Str) (out:Array Value) (e:Nat),(∀b o,s.heap.get? b=some o->s'.heap.get? b=some o)->s'.gens=s.gens->s'.os=s.os->s.toks<=s'.toks->z<p->s'.heap.get? p=some (seqObj "list" out e)->StrsAre out.toList ts->ts.Perm ks->sortedS ts=true->Q (.ref p) s') :
  wpAny (model P w) A (call (.builtin "sorted") [.ref z]) Q E s:=by
 refine Calls.call_function_entry kind_sorted plain_sorted entry_sorted (args_sorted1 _) ?_
 unfold a3I.«sorted»
 refine a9 (m:=checkCount "sorted" 1 1 _) (c8 ?_)
 refine a9 (b0z (by simpa using hh) hS (by rw[sizeLine_eq];omega) fun s1 acc k1 g1 o1 t1 v1 p1=>?_)
 have la:acc.length=ks.length:=by have:=p1.length_eq;rw[a8]at this;exact this
 have hA:=strsAre_map acc v1
 have zl:z<s1.heap.objs.size:=by
  obtain⟨o,_,_,_,ho,_⟩:=hS
  exact d7 (k1 _ _ ho)
 refine b2d hA (by rw[la];exact hl) fun h' ts out e k2 he a1 a2 a3=>⟨_,rfl,?_⟩
 exact h { s1 with heap:=h' } s1.heap.objs.size ts out e (fun b o q=>k2 _ _ (k1 _ _ q)) g1 o1 t1 zl he a1 (a2.trans p1) a3
end
section
theorem Inv.drw(I:Inv X pins σ H s)(d:Drawn):Inv X pins σ H { s with drawn:=d }:=⟨I.ok,I.os,I.bare,I.base,I.loc,I.cell,I.free,I.freeC,I.pin,I.hok,I.len⟩
def tSS(te:TE):TE:=fun σ H Q=>te σ H fun x H1=>∃(l:Addr) (ss:List Str),x=.ref l/\H1 l=some (.lst (ss.map V.str))/\ss.length<4000/\(∀ds:List Str,ds.Nodup->(∀x∈ds,x∈ss)->ds.length<64) /\
 ∀(p:Addr) (ts:List Str),ts.Nodup->(∀x,x∈ts↔x∈ss)->sortedS ts=true->H1 p=none->Q (.ref p) (upd H1 p (.lst (ts.map V.str)))
theorem c5v{e:Expr}{te:TE}{p p' pos pos':Pos}(hc:X.calm=true)(hg:Gl X "sorted")(hm:X.mg "sorted" = none)(hv:O9 "sorted" = some (.builtin "sorted"))(hg':Gl X "set")(hm':X.mg "set" = none)(hv':O9 "set" = some (.type "set"))(he:PE X e te)
  (hs1:d9 [e] X.env=[(false,eval e X.env)]:=by rfl) (hs2:d9 [Expr.Call (.Name "set" p') [e] [] pos'] X.env=[(false,eval (.Call (.Name "set" p') [e] [] pos') X.env)]:=by rfl) :
  PE X (.Call (.Name "sorted" p) [.Call (.Name "set" p') [e] [] pos'] [] pos) (tSS te):=by
 intro pins s σ H Q I h
 refine V8 (a4g I hg hm hv ?_ (by decide) (by decide))
 refine a5y ?_ hs2 rfl
 rw[hs2]
 refine Calls.spliced_cons ?_
 refine V8 (a4g I hg' hm' hv' ?_ (by decide) (by decide))
 refine N3 ?_ hs1 rfl
 rw[hs1]
 refine Calls.spliced_cons (thn (he pins s σ H _ I h) fun u s1 ⟨x,H1,I1,r1,l,ss,ex,hl,l4,l64,q⟩=>Calls.spliced_nil ?_)
 subst ex
 obtain rfl:u=Value.ref l:=r1
 obtain⟨its,rv,pl,hz⟩:=I1.list (SqL.of hl)
 have hi:=a2S rv (a5d ss)
 have hil:=rv.length
 rw[a8]at hil
 have hh:=I.ok.hd hc
 obtain⟨val,hval⟩:∃val:Nat->Str,val=fun i=>ss.getD i ⟨#[]⟩:=⟨_,rfl⟩
 have mm:∀x,x∈met val its.toArray.size↔x∈ss:=fun x=>by
  rw[b5a,hval]
  constructor
  ·rintro⟨j,hj,rfl⟩
   rw[g8]at hj
   show ss.getD j ⟨#[]⟩∈ss
   rw[Q0,g9 (show j<ss.length by omega)]
   exact z7 _
  ·intro hx
   obtain⟨j,hj,e⟩:=b7c.mp hx
   exact⟨j,by rw[g8];omega,by show ss.getD j ⟨#[]⟩=x;rw[Q0,g9 hj];exact e⟩
 refine b5P hh pl.isList (by simpa using hi) (by rw[g8];show its.length+1<4096;omega) fun h2 tk S2 kp ht lt=>Calls.spliced_nil ?_
 rw[<-hval]at S2
 refine b2g (s:={ s1 with heap:=h2,toks:=tk }) hh S2 (l64 _ (a8C _ _) fun x hx=>(mm x).mp hx) fun s3 a ts out c k3 g3 o3 t3 zl he a1 a2 a3=>?_
 obtain⟨h3,gg,dd,tt,oo⟩:=s3
 have g3:gg=s1.gens:=g3
 have o3:oo=s1.os:=o3
 subst g3 o3
 have fresh:H1 a=none:=I1.hok.fresh (a1h zl)
 have nd:ts.Nodup:=a2.nodup_iff.mpr (a8C _ _)
 have J:=(I1.laid (h':=h3) (t':=tt) (a:=a) (o:=.lst (ts.map V.str)) (fun b u z=>k3 _ _ (kp b u (d7 z) z)) (a1h zl) ⟨by rw[a8,a2.length_eq,sizeLine_eq];have:=l64 _ (a8C val its.toArray.size) fun x hx=>(mm x).mp hx;omega,out.toList,c,a6x a1,he⟩).drw dd
 exact⟨.ref a,_,J,rfl,q a ts nd (fun x=>(a2.mem_iff).trans (mm x)) a3 fresh⟩
end
section
theorem b9n{A:E9}{d:Addr}{vs:List (Key×Value)}{P:u6}{E:Value->d3->Prop}{R:List Value->d3->Prop}(hs:(d == V4)=false)(hh:A.handled=none)(hat:s.heap.DictAt (M6 P w) d vs ep)(hn:vs.length<=j6)
  (h:∀(h':Heap) (tk:Nat) (acc:Array Value),(∀b o,s.heap.get? b=some o->h'.get? b=some o)->ItemsOf (fun i v=>∃k x,vs[i]? = some (k,x)/\(M6 P w).is k v=true) acc vs.length->R acc.toList { s with heap:=h',toks:=tk }) :
  wpAny (model P w) A (collect (.ref d)) R E s:=PySem.W.kdu_collect (b9B hs) hh hat hn h
def b3W:List V->Hp->VK->Prop:=fun vs H Q=>∃(d:Addr) (kvs:List (Key×V)) (ss:List Str),vs=[.ref d]/\H d=some (.dK kvs)/\kvs.map (·.1)=ss.map Sum.inr/\ss.length<64/\∀(p:Addr) (ts:List Str),ts.Perm ss->sortedS ts=true->H p=none->Q (.ref p) (upd H p (.lst (ts.map V.str)))
theorem b3c(hc:X.calm=true):U3 X (.builtin "sorted") b3W:=fun pins s σ H xs us Q I r h=>by
 obtain⟨d,kvs,ss,rfl,hd,hk,hn,q⟩:=h
 obtain⟨u,rfl,ru⟩:=a4Q r
 cases ru
 obtain⟨z,hs,vs,rel,o,es,ep,ho,hx,hdt,hks,hp,nd⟩:=b5h I.hok hd
 have hh:=I.ok.hd hc
 have lk:kvs.length=ss.length:=by have:=congrArg a9D hk;rw[a8,a8]at this;exact this
 have lv:vs.length=kvs.length:=(Paired.length rel).symm
 refine Calls.call_function_entry kind_sorted plain_sorted entry_sorted (args_sorted1 _) ?_
 unfold a3I.«sorted»
 refine a9 (m:=checkCount "sorted" 1 1 _) (c8 ?_)
 refine a9 (b9n hs (by simpa using hh) (⟨o,es,ho,hx,hdt,hks,hp,nd⟩:s.heap.DictAt (M6 X.prog X.w) d vs ep) (by rw[lv,lk,sizeLine_eq];omega) fun h1 tk acc k1 hacc=>?_)
 have V0:D6 (ss.map V.str) acc.toList:=a7D (by have:=hacc.1;rw[a8];simp;omega) fun i x u a b=>by
  obtain⟨k,y,e1,e2⟩:=hacc.2 i u (by rw[<-C3];exact b)
  obtain⟨y',e3⟩:=b8V rel e1
  have e4:(kvs.map (·.1))[i]? = some k:=by rw[b7,e3];rfl
  rw[hk,b7]at e4
  obtain⟨s',e5,rfl⟩:=t5.mp e4
  rw[b7,e5]at a
  cases a
  exact c2h e2
 generalize acc.toList=al at V0 ⊢
 have hA:=a2S V0 (a5d ss)
 have la:al.length=ss.length:=by rw[<-V0.length,a8]
 have I1:=I.kept (t':=tk) k1
 refine b2d (s:={ s with heap:=h1,toks:=tk }) hA (by rw[la];exact hn) fun h' ts out c k2 he a1 a2 a3=>⟨_,rfl,?_⟩
 have lt:=a2.length_eq
 have J:=I1.laid (h':=h') (t':=tk) (a:=h1.objs.size) (o:=.lst (ts.map V.str)) k2 (d5 _) ⟨by rw[a8,sizeLine_eq];omega,out.toList,c,a6x a1,he⟩
 exact⟨.ref h1.objs.size,_,J,rfl,q _ ts a2 a3 (I1.hok.fresh (d5 _))⟩
end
end L2
namespace Y
open PySem PySem.Spec PyProof.Rows L2
structure y'E(X:Cx)(e:Expr)(t:TE):Prop where h:PE X e t
structure y'A(X:Cx)(e:List Expr)(t:TA):Prop where h:PA X e t
structure y'S(X:Cx)(e:Stmt)(t:TS):Prop where h:PS X e t
structure a9i(X:Cx)(e:List Stmt)(t:TS):Prop where h:PSs X e t
structure y'T(X:Cx)(e:Expr)(t:TT):Prop where h:PT X e t
structure y'W(X:Cx)(e:Expr)(t:TT):Prop where h:PW X e t
structure b7v(X:Cx)(e:List Expr)(t:TT):Prop where h:PTs X e t
structure b0o(X:Cx)(tg e:Expr)(t:TI):Prop where h:PI X tg e t
structure y'G(X:Cx)(e:Expr)(t:TG):Prop where h:PG X e t
structure b9T(X:Cx)(e:List Expr)(t:TGs):Prop where h:PGs X e t
structure y'O(X:Cx)(e:Option Expr)(t:TO):Prop where h:PO X e t
structure Q2(X:Cx)(f:Value->Value->Sem Value)(r:R2):Prop where h:OpR X f r
structure c6G(X:Cx)(f:Value->Sem Value)(r:V->Hp->VK->Prop):Prop where h:UnR X f r
structure Z0(X:Cx)(f:Value)(r:List V->Hp->VK->Prop):Prop where h:U3 X f r
structure a7W(X:Cx)(id:String)(r:V->List V->Hp->VK->Prop):Prop where h:MtR X id r
structure c1S(X:Cx)(r:R2):Prop where h:IxR X r
structure b7w(X:Cx)(r:V->Option Int->Option Int->Hp->VK->Prop):Prop where h:SlR X r
structure b3z(X:Cx)(t:a9y):Prop where h:b9w X t
structure b7x(X:Cx)(t:V->V->Hp->VK->Prop):Prop where h:c4t X t
structure c1T(X:Cx)(op:b6Z)(t:TIp):Prop where h:PIp X op t
section
variable {X:Cx}{st:Stmt}{a3V:List Stmt}{t u:TS}{e a b c o i:Expr}{es more:List Expr}{te ta tb tc to ti:TE}{tt tu:TT}{tr:TA}{pos p pos':Pos}{x:Str}
theorem o0:a9i X [] C8:=⟨L2.c0s⟩
theorem b6(h1:y'S X st t)(h2:a9i X a3V u):a9i X (st::a3V) (u7 t u):=⟨L2.b8l h1.h h2.h⟩
theorem b9(h1:y'S X st t):a9i X [st] t:=⟨L2.c0r h1.h⟩
theorem b7k{n:Nat}(hN:X.N.Nodup)(hi:X.N[n]? = some x)(hx:Loc X.env.scope x)(he:y'E X e te)(hs:a1z e (some (.Name x pos')) pos.line X.env=pure false:=by rfl)(hf:X.fn x=true\/X.env.scope.names.lookup x=some .local:=by first | exact .inl rfl | exact .inr rfl) :
  y'S X (.Assign [.Name x pos'] e pos) (D5 te (o9 n)):=⟨L2.c3d hN hi hx he.h hs hf⟩
theorem a3K{tg:Expr}{g:TG}(he:y'E X e te)(hg:y'G X tg g)(hs:swapsWithSole [tg] e pos.line X.env=pure false:=by rfl)(hw:swappedStores [tg] e X.env=pure none:=by rfl)
  (h1:(a0P [tg] X.env).map (·.2)=[a9E tg X.env]:=by rfl):y'S X (.Assign [tg] e pos) (D5 te g):=⟨L2.c3h he.h hg.h hs hw h1⟩
theorem b5w{tget:V->V->Hp->VK->Prop}{tip:TIp}{tset:a9y}{op:b6Z}(ho:y'E X o to)(hi:y'E X i ti)(hg:b7x X tget)(he:y'E X e te)(hp:c1T X op tip)(hs:b3z X tset)
  (ha:∀ov iv new,augStore i ov iv new=(do a0U [new,ov,iv] (c2m ov iv new);release [new,ov,iv] [];pure .next):=by intros;rfl):y'S X (.AugAssign (.Subscript o i p) op e pos) (b4O to ti te tget tip tset):=⟨L2.c0v ho.h hi.h hg.h he.h hp.h hs.h ha⟩
theorem u5{la lb:List Stmt}(hc:y'T X c tt)(ha:a9i X la t)(hb:a9i X lb u):y'S X (.If c la lb pos) (K9 tt t u):=⟨L2.c5t hc.h ha.h hb.h⟩
theorem o4(he:y'E X e te):y'S X (.Return (some e) pos) (I0 te):=⟨L2.c3e he.h⟩
theorem J9(he:y'E X e te)(hs:a1z e none pos.line X.env=pure false:=by rfl):y'S X (.Expr e pos) (a0t te):=⟨L2.c0t he.h hs⟩
theorem G9{tg:Expr}{wi:TI}{g:TG}{body:List Stmt}(hp:c4M (model X.prog X.w) X.A X.env X.xe)(hc:X.calm=true)(hi:b0o X tg e wi)(hg:y'G X tg g)(hb:a9i X body t)
  (hs:∀x,R9 e X.env x=pure x:=by intro _;rfl):y'S X (.For tg e body [] pos) (a1o wi g t):=⟨L2.c3f hp hc hi.h hg.h hb.h hs⟩
theorem b5y{n:Nat}(hN:X.N.Nodup)(hi:X.N[n]? = some x)(hx:Loc X.env.scope x)(hf:X.fn x=true\/X.env.scope.names.lookup x=some .local:=by first | exact .inl rfl | exact .inr rfl):y'G X (.Name x pos) (o9 n):=⟨L2.b0S hN hi hx hf⟩
theorem a2A:b9T X [] b1m:=⟨L2.b4Z⟩
theorem R5{g:TG}{gs:TGs}(h1:y'G X e g)(h2:b9T X es gs)(h:(a0P (e::es) X.env).map (·.2)=a9E e X.env::(a0P es X.env).map (·.2):=by rfl):b9T X (e::es) (a1m g gs):=⟨L2.a8t h1.h h2.h h⟩
theorem a3L{k n:Nat}{gs:TGs}(hc:X.calm=true)(h:b9T X es gs)(hn:(a0P es X.env).length=n:=by rfl)(hst:(a0P es X.env).findIdx? (·.1)=none:=by rfl):y'G X (.Tuple es k pos) (b1l X.K n gs):=⟨L2.b8q hc h.h hn hst⟩
theorem a7S{ts:a9y}(ho:y'E X o to)(hi:y'E X i ti)(hs:b3z X ts)
  (ha:∀v,a9E (.Subscript o i pos) X.env v=(do
   let ov <-a0U [v] (eval o X.env)
   let iv <-a0U [v,ov] (eval i X.env)
   a7Q pos
   a0U [v,ov,iv] (c2m ov iv v)
   release [v,ov,iv] []):=by intro _;rfl):y'G X (.Subscript o i pos) (b6B to ti ts):=⟨L2.c3k ho.h hi.h hs.h ha⟩
theorem F7{tg:Expr}(hg:Gl X "range")(hm:X.mg "range" = none)(ha:y'A X [a] tr)(hs:d9 [a] X.env=[(false,eval a X.env)]:=by rfl):b0o X tg (.Call (.Name "range" p) [a] [] pos) (a0S tr):=⟨L2.b6c hg hm ha.h hs⟩
theorem F0{tg:Expr}(h:y'E X e te):b0o X tg e (W0 X.K te):=⟨L2.c0z h.h⟩
theorem L9:y'A X [] g7:=⟨L2.c3z⟩
theorem E2(ha:y'E X e te)(hr:y'A X es tr)(hs:d9 (e::es) X.env=(false,eval e X.env)::d9 es X.env:=by rfl):y'A X (e::es) (b4 te tr):=⟨L2.c0K ha.h hr.h hs⟩
theorem F3:b7v X [] U2:=⟨L2.c0p⟩
theorem b5v(h:y'T X e tt):b7v X [e] tt:=⟨L2.c0o h.h⟩
theorem K0{elt iter:Expr}{px:Pos}{ifs:List Expr}{scope:Scope}{wi:TI}(hc:M9 X.N X.env.scope scope x)(hcalm:X.calm=true)(hi:b0o X (.Name x px) iter wi)
  (ht:∀cl C fp s3 H3,b7v (P9 X scope cl C x fp s3 H3) ifs tt) (he:∀cl C fp s3 H3,y'E (P9 X scope cl C x fp s3 H3) elt te)
  (hs:∀x,R9 iter X.env x=pure x:=by intro _;rfl):y'E X (.ListComp elt [⟨.Name x px,iter,ifs,0⟩] scope pos) (V9 wi tt te):=
 ⟨L2.c0G hc hcalm hi.h (fun cl C fp s3 H3=>(ht cl C fp s3 H3).h) (fun cl C fp s3 H3=>(he cl C fp s3 H3).h) hs⟩
theorem a5D{elt iter:Expr}{px py spos:Pos}{ifs:List Expr}{scope:Scope}{wi:TI}{n:Nat}{y:Str}(hN:X.N.Nodup)(hiy:X.N[n]? = some y)(hy:X.env.scope.names.lookup y=some .local)(hc:M9 X.N X.env.scope scope x)(hcalm:X.calm=true)(hi:b0o X (.Name x px) iter wi)
  (ht:∀cl C fp s3 H3,b7v (P9 X scope cl C x fp s3 H3) ifs tt) (he:∀cl C fp s3 H3,y'E (P9 X scope cl C x fp s3 H3) elt te)
  (hsw:a1z (.ListComp elt [⟨.Name x px,iter,ifs,0⟩] scope pos) (some (.Name y py)) spos.line X.env=pure true:=by rfl)
  (hs:∀x,R9 iter X.env x=pure x:=by intro _;rfl) :
  y'S X (.Assign [.Name y py] (.ListComp elt [⟨.Name x px,iter,ifs,0⟩] scope pos) spos) (fun D σ H=>V9 wi tt te σ H fun v H1=>D.nx (σ.set n (some v)) H1):=
 ⟨L2.b3Z hN hiy hy hc hcalm hi.h (fun cl C fp s3 H3=>(ht cl C fp s3 H3).h) (fun cl C fp s3 H3=>(he cl C fp s3 H3).h) hsw hs⟩
theorem b5{n:Int}{j}:y'E X (.Constant (.int n) j pos) (tC (.int n)):=⟨L2.c3u⟩
theorem X3{v:Bool}{j}:y'E X (.Constant (.bool v) j pos) (tC (.bl v)):=⟨L2.c5B⟩
theorem a5E{j}:y'E X (.Constant .none j pos) (tC .non):=⟨L2.c3r⟩
theorem o6{j}:y'E X (.Constant (.str x) j pos) (tC (.str x)):=⟨L2.c3n⟩
theorem c7(n:Nat)(hN:X.N[n]? = some x:=by rfl)(hv:Vis X.env.scope x:=by first | exact Or.inl rfl | exact Or.inr (Or.inl rfl) | exact Or.inr (Or.inr rfl))(hd:(x == ("__debug__" : Str))=false:=by decide)
  (hcd:(x == ("__classdict__" : Str))=false:=by decide):y'E X (.Name x pos) (b8 n):=⟨L2.c3l hN hv hd hcd⟩
theorem T8{v:V}{u:Value}(hg:Gl X x)(hm:X.mg x=none)(hv:O9 x=some u)(r:C7 v u)(hn:x ≠ "__name__" := by decide)(hd:(x == ("__debug__" : Str))=false:=by decide):y'E X (.Name x pos) (tC v):=⟨L2.c0J hg hm hv r hn hd⟩
theorem U7{v:V}(hm:∃u,X.mg x=some u/\C7 v u)(hg:Gl X x)(hd:(x == ("__debug__" : Str))=false:=by decide):y'E X (.Name x pos) (tC v):=by
 obtain⟨u,h1,h2⟩:=hm
 exact⟨L2.c0E hg h1 h2 hd⟩
theorem z9{op:b6Z}{r:R2}(ho:Q2 X (R0 op) r)(ha:y'E X a ta)(hb:y'E X b tb):y'E X (.BinOp a op b pos) (tOp r ta tb):=⟨L2.c5x ho.h ha.h hb.h⟩
theorem b7o(ha:y'E X a ta):y'E X (.UnaryOp .Not a pos) (b1Z ta):=⟨L2.c3q ha.h⟩
theorem Y8{op:CmpOp}{r:R2}(ho:Q2 X (p5 op) r)(ha:y'E X a ta)(hb:y'E X b tb)(hm:L8 op b=false):y'E X (.Compare a [op] [b] pos) (tOp r ta tb):=⟨L2.c0H ho.h ha.h hb.h hm⟩
theorem Y7{op:CmpOp}{r:R2}(ho:Q2 X (p5 op) r)(ha:y'E X a ta)(hb:y'E X b tb)(hm:L8 op b=false):y'T X (.Compare a [op] [b] pos) (C0 (tOp r ta tb)):=⟨L2.c0q ho.h ha.h hb.h hm⟩
theorem a7U{op op':CmpOp}{r r':R2}(ho:Q2 X (p5 op) r)(ho':Q2 X (p5 op') r')(ha:y'E X a ta)(hb:y'E X b tb)(hc:y'E X c tc)
  (hm:c4K [op,op'] [b,c]=false:=by with_unfolding_all rfl):y'E X (.Compare a [op,op'] [b,c] pos) (a3O r r' ta tb tc):=⟨L2.b8x ho.h ho'.h ha.h hb.h hc.h hm⟩
theorem b3t{op op':CmpOp}{r r':R2}(ho:Q2 X (p5 op) r)(ho':Q2 X (p5 op') r')(ha:y'E X a ta)(hb:y'E X b tb)(hc:y'E X c tc)
  (hm:c4K [op,op'] [b,c]=false:=by with_unfolding_all rfl):y'T X (.Compare a [op,op'] [b,c] pos) (C0 (a3O r r' ta tb tc)):=⟨L2.b8k ho.h ho'.h ha.h hb.h hc.h hm⟩
theorem T7{op}(h:y'E X a te):y'E X (.BoolOp op [a] pos) te:=⟨L2.c3p h.h⟩
theorem P0(ha:y'E X a ta)(hb:y'E X (.BoolOp .And (b::more) pos) tb):y'E X (.BoolOp .And (a::b::more) pos) (a0u ta tb):=⟨L2.c3y ha.h hb.h⟩
theorem b9O(ha:y'E X a ta)(hb:y'E X (.BoolOp .Or (b::more) pos) tb):y'E X (.BoolOp .Or (a::b::more) pos) (b9V ta tb):=⟨L2.c5w ha.h hb.h⟩
theorem a2P(hc:y'T X c tt)(ha:y'E X a ta)(hb:y'E X b tb):y'E X (.IfExp c a b pos) (tIf tt ta tb):=⟨L2.b8t hc.h ha.h hb.h⟩
theorem J5{k}(h:y'A X es tr):y'E X (.Tuple es k pos) (a1S tr):=⟨L2.c3m h.h⟩
theorem v8(h:y'A X es tr):y'E X (.List es pos) (P3 tr):=⟨L2.c3t h.h⟩
theorem a4q:y'O X none a2R:=⟨L2.c0y⟩
theorem a4p(h:y'E X e te):y'O X (some e) (a8d te):=⟨L2.c0x h.h⟩
theorem a2O{lo hi:Option Expr}{tl th:TO}{r:V->Option Int->Option Int->Hp->VK->Prop}(hr:b7w X r)(he:y'E X e te)(hl:y'O X lo tl)(hu:y'O X hi th):y'E X (.Subscript e (.Slice lo hi none p) pos) (tSl r te tl th):=⟨L2.b8r hr.h he.h hl.h hu.h⟩
theorem b9Q{r:R2}(hr:c1S X r)(ha:y'E X a ta)(hb:y'E X b tb)(hs:b1E b):y'E X (.Subscript a b pos) (tOp r ta tb):=⟨L2.c5z hr.h ha.h hb.h hs⟩
theorem b7n{k j:Nat}{ps:List Str}{sp:Sp}(C:C9 X.prog X.w X.K X.mg X.base k x ps sp)(hr:L3 j X.A)(hk:k<=j)(hg:Gl X x)(ha:y'A X (e::es) tr)
  (hdb:(x == ("__debug__" : Str))=false:=by decide) (he:d9 (e::es) X.env=(false,eval e X.env)::d9 es X.env:=by rfl) (hpl:(U1 pos (d9 es X.env)).any (·.1)=false:=by rfl) :
  y'E X (.Call (.Name x p) (e::es) [] pos) (u0 sp [] E0 tr):=⟨L2.c3o C hr hk hg ha.h hdb he hpl⟩
theorem j7{id:String}{r:List V->Hp->VK->Prop}(hc:Z0 X (.builtin id) r)(hg:Gl X x)(hm:X.mg x=none)(hv:O9 x=some (.builtin id))(ha:y'A X (e::es) tr)(hn:x ≠ "__name__" := by decide)(hdb:(x == ("__debug__" : Str))=false:=by decide)
  (he:d9 (e::es) X.env=(false,eval e X.env)::d9 es X.env:=by rfl) (hpl:(U1 pos (d9 es X.env)).any (·.1)=false:=by rfl):y'E X (.Call (.Name x p) (e::es) [] pos) (tCB r tr):=⟨L2.b8y hc.h hg hm hv ha.h hn hdb he hpl⟩
theorem a0m{id:String}{r:List V->Hp->VK->Prop}(hc:Z0 X (.type id) r)(hg:Gl X x)(hm:X.mg x=none)(hv:O9 x=some (.type id))(ha:y'A X (e::es) tr)(hn:x ≠ "__name__" := by decide)(hdb:(x == ("__debug__" : Str))=false:=by decide)
  (he:d9 (e::es) X.env=(false,eval e X.env)::d9 es X.env:=by rfl) (hpl:(U1 pos (d9 es X.env)).any (·.1)=false:=by rfl):y'E X (.Call (.Name x p) (e::es) [] pos) (tCB r tr):=⟨L2.b6d hc.h hg hm hv ha.h hn hdb he hpl⟩
theorem Y9{ty id:String}{name:Str}{r:V->List V->Hp->VK->Prop}{apos:Pos}(pa:c1Q ty)(slot:Slot ty name id)(hty:typeOf (.builtin id)=pure (.type "method_descriptor"))(hm:a7W X id r)(ho:y'E X o to)(ha:y'A X (e::es) tr)
  (hbase:Z6 o name X.env (eval o X.env)=eval o X.env:=by rfl)
  (hfew:((U1 pos (d9 (e::es) X.env)).all (fun x => !x.1)&&(a4O pos (a0s [] X.env)).all (fun x=>x.1.isSome)
   && decide ((e::es).length+([]:List b0l).length+(if([]:List b0l).isEmpty then 0 else 1)<30))=true:=by rfl)
  (hline:(apos.endLine == pos.line)=true:=by rfl) (hs:d9 (e::es) X.env=(false,eval e X.env)::d9 es X.env:=by rfl) (hplain:(U1 pos (d9 es X.env)).any (·.1)=false:=by rfl) :
  y'E X (.Call (.Attribute o name apos) (e::es) [] pos) (tBM X.K ty r to tr):=⟨L2.c5A pa slot hty hm.h ho.h ha.h hbase hfew hline hs hplain⟩
theorem Y0(ha:y'T X a tt):y'T X (.UnaryOp .Not a pos) (a5P tt):=⟨L2.c3c ha.h⟩
theorem a1u(ha:y'T X a tt):y'W X (.BoolOp .And [a] pos) tt:=⟨L2.c0l ha.h⟩
theorem Z9(ha:y'T X a tt):y'W X (.BoolOp .Or [a] pos) tt:=⟨L2.c2Z ha.h⟩
theorem a2y(ha:y'T X a tt)(hb:y'W X (.BoolOp .And (b::more) pos) tu):y'W X (.BoolOp .And (a::b::more) pos) (b0s tt tu):=⟨L2.c3a ha.h hb.h⟩
theorem a0Y(ha:y'T X a tt)(hb:y'W X (.BoolOp .Or (b::more) pos) tu):y'W X (.BoolOp .Or (a::b::more) pos) (tOr tt tu):=⟨L2.c5q ha.h hb.h⟩
theorem T0(h:y'W X e tt):y'T X e tt:=⟨PW.pt h.h⟩
theorem T6(h:y'E X e te)(he:∀whole,isTrue e X.env whole=(do let v <-whole;a7Q e.pos;a0U [v] (truthy v)):=by intro _;rfl):y'T X e (tB te):=⟨L2.c3b h.h he⟩
theorem F9:Q2 X (R0 .Add) a0V:=⟨L2.c0U⟩
theorem a2C:Q2 X (R0 .Sub) b3V:=⟨L2.c0L⟩
theorem a1w:Q2 X (R0 .Mult) b2r:=⟨L2.c0O⟩
theorem W2:Q2 X (R0 .Mod) a7x:=⟨L2.c0P⟩
theorem a9F:Q2 X (R0 .FloorDiv) c0k:=⟨L2.c0T⟩
theorem b5A:Q2 X (R0 .Pow) c2U:=⟨L2.c0M⟩
theorem z5{k:Nat}(hr:L3 k X.A):Q2 X (p5 .Eq) qEq:=⟨L2.c3H hr.units0⟩
theorem b1P{k:Nat}(hr:L3 k X.A):Q2 X (p5 .NotEq) qNe:=⟨L2.c3B hr.units0⟩
theorem a1n:Z0 X (.type "list") a3X:=⟨L2.b4D⟩
theorem a1E:Q2 X (p5 .Lt) qLt:=⟨L2.c3C⟩
theorem a5F:Q2 X (p5 .LtE) qLe:=⟨L2.c3D⟩
theorem a2E:Q2 X (p5 .Gt) qGt:=⟨L2.c3F⟩
theorem b7t:Q2 X (p5 .GtE) qGe:=⟨L2.c3G⟩
theorem a2D:Q2 X (p5 .In) (qIn false):=⟨L2.c3E⟩
theorem a7j:Q2 X (p5 .NotIn) (qIn true):=⟨L2.b6f⟩
theorem a7k:Q2 X (p5 .IsNot) b0O:=⟨L2.b6g⟩
theorem a5b:y'E X (.Dict [] [] pos) a6B:=⟨L2.b8v⟩
theorem b7q{k:Nat}(hr:L3 k X.A)(hi:y'E X i ti)(ho:y'E X o to)(h1:L8 .In o=false):y'E X (.Compare i [.In] [o] pos) (b0r ti to):=⟨L2.c3w (L2.b8A (b5e hr) hi.h ho.h) h1⟩
theorem b1O{k:Nat}(hr:L3 k X.A)(hi:y'E X i ti)(ho:y'E X o to)(h1:L8 .In o=false):y'T X (.Compare i [.In] [o] pos) (tB (b0r ti to)):=⟨L2.b8j (L2.b8A (b5e hr) hi.h ho.h) h1⟩
theorem a2z{k:Nat}(hr:L3 k X.A)(ho:y'E X o to)(hi:y'E X i ti)(hv:y'E X e te)(hs:a1z e (some (.Subscript o i pos')) pos.line X.env=pure false:=by rfl):y'S X (.Assign [.Subscript o i pos'] e pos) (a3U to ti te):=⟨L2.c0u (b5e hr) ho.h hi.h hv.h hs⟩
theorem b7m{tg:Expr}(h:y'E X e te):b0o X tg e (c1r te):=⟨L2.c3j h.h⟩
theorem a7l(hc:X.calm=true):Z0 X (.builtin "all") b0P:=⟨L2.b6O hc⟩
theorem c2p:c1S X qIx:=⟨L2.c6w⟩
theorem b3s:b7w X qSl:=⟨L2.c6i⟩
theorem b5u:b7w X (c2M X.K):=⟨L2.b4Q⟩
theorem a7C:b3z X b0N:=⟨L2.c4P⟩
theorem b9R:b7x X b5Y:=⟨L2.c5M⟩
theorem b7u:c1T X .Add (ipI fun i j=>i+j):=⟨L2.c4h⟩
theorem t9:Z0 X (.builtin "len") X2:=⟨L2.b6L⟩
theorem b1U:Z0 X (.builtin "abs") b8i:=⟨L2.b6P⟩
theorem M0:Z0 X (.builtin "isinstance") a3Y:=⟨L2.b6M⟩
theorem Q1:a7W X "list.append" Z3:=⟨L2.b4m⟩
theorem b3y:a7W X "str.join" a9R:=⟨L2.b8Q⟩
end
theorem b1R{P:u6}{w:World}{K:Fg}{mg:Str->Option Value}{base:Heap}{x qual:Str}{st:Stmt}{f:Addr}{fd:X6}{N ps:List Str}{k:Nat}{sp:Sp}(F:Fun K x qual st f fd)(y'S:y7 N ps (j4 st))(len:∀vs H Q y'E,sp vs H Q y'E->vs.length=ps.length)
  (hbody:∀(cdv:Value) (y'A:E9) (outer:List Env) (s:d3) (H:Hp) (vs:List V) (Q:VK) (y'E:XK),L3 k (y'A.deeper (b1N qual (j4 st) s.heap.objs.size f cdv))->sp vs H Q y'E ->
   ∃t,a9i (b2S CX0 P w K mg base N qual (j4 st) f cdv y'A outer s H y'E).nox (a0E st) t/\t { nx:=fun _ H'=>Q .non H',rt:=Q } (a5R N vs) H):J1 P w K mg base CX0 (k+1) f fd ps sp:=
 F.ok y'S len fun cdv y'A outer s H vs Q y'E hr h=>let⟨t,a,b⟩:=hbody cdv y'A outer s H vs Q y'E hr h; ⟨t,a.h,b⟩
end Y
namespace Y
open PySem PySem.Spec PyProof.Rows L2
section
variable {X:Cx}{st:Stmt}{a3V:List Stmt}{t u:TS}{e a b c o i:Expr}{es more:List Expr}{te ta tb tc to ti:TE}{tt tu:TT}{tr:TA}{pos p pos':Pos}{x y:Str}
theorem a4r{elts:List Expr}{x1}{tp:Pos}(hg:Gl X "enumerate")(hm:X.mg "enumerate" = none)(ha:y'A X [a] tr)(hs:d9 [a] X.env=[(false,eval a X.env)]:=by rfl) :
  b0o X (.Tuple elts x1 tp) (.Call (.Name "enumerate" p) [a] [] pos) (a8G X.K tr):=⟨L2.c0A hg hm ha.h hs⟩
theorem b7l{elts:List Expr}{x1}{tp:Pos}(hg:Gl X "zip")(hm:X.mg "zip" = none)(ha:y'A X [a,b] tr)(hs:d9 [a,b] X.env=[(false,eval a X.env),(false,eval b X.env)]:=by rfl)(hs2:d9 [b] X.env=[(false,eval b X.env)]:=by rfl) :
  b0o X (.Tuple elts x1 tp) (.Call (.Name "zip" p) [a,b] [] pos) (c1q X.K tr):=⟨L2.c3i hg hm ha.h hs hs2⟩
theorem a7T{elt iter:Expr}{px py pt:Pos}{kt}{ifs:List Expr}{scope:Scope}{wi:TI}(hc:a3r X.N X.env.scope scope x y)(hcalm:X.calm=true)(hi:b0o X (.Tuple [.Name x px,.Name y py] kt pt) iter wi)
  (ht:∀cl C fp s3 H3,b7v (O4 X scope cl C x y fp s3 H3) ifs tt) (he:∀cl C fp s3 H3,y'E (O4 X scope cl C x y fp s3 H3) elt te)
  (hs:∀x,R9 iter X.env x=pure x:=by intro _;rfl):y'E X (.ListComp elt [⟨.Tuple [.Name x px,.Name y py] kt pt,iter,ifs,0⟩] scope pos) (a8e X.K wi tt te):=
 ⟨L2.b8w hc hcalm hi.h (fun cl C fp s3 H3=>(ht cl C fp s3 H3).h) (fun cl C fp s3 H3=>(he cl C fp s3 H3).h) hs⟩
theorem b3u{body:List Stmt}(hp:c4M (model X.prog X.w) X.A X.env X.xe)(hc:y'T X c tt)(hb:a9i X body t):y'S X (.While c body [] pos) (b0q tt t):=⟨L2.b8m hp hc.h hb.h⟩
theorem a1D{e c:Option Expr}:y'S X (.Raise e c pos) (fun _ _ _=>False):=⟨L2.b8n⟩
theorem a3M{f:Str}(he:y'E X e te)(hb:Z6 e f X.env (eval e X.env)=eval e X.env:=by rfl):y'E X (.Attribute e f pos) (b2a X.K te f):=⟨L2.c3v he.h hb⟩
theorem a7R{f:Str}(ha:y'E X o to)(hv:y'E X e te)(hs:a1z e (some (.Attribute o f pos')) pos.line X.env=pure false:=by rfl):y'S X (.Assign [.Attribute o f pos'] e pos) (b5V X.K to te f):=⟨L2.c3g ha.h hv.h hs⟩
theorem b9P{k j:Nat}{C:Addr}{ps:List Str}{sp:Sp}(M:b3i X.prog X.w X.K X.mg X.base k x C ps sp)(hr:L3 j X.A)(hk:k+1<=j)(hg:Gl X x)(ha:y'A X (e::es) tr)
  (hdb:(x == ("__debug__" : Str))=false:=by decide) (he:d9 (e::es) X.env=(false,eval e X.env)::d9 es X.env:=by rfl) (hpl:(U1 pos (d9 es X.env)).any (·.1)=false:=by rfl) :
  y'E X (.Call (.Name x p) (e::es) [] pos) (a5Q C sp [] E0 tr):=⟨L2.c5y M hr hk hg ha.h hdb he hpl⟩
theorem b7p{pl:Sem Bool}{k j:Nat}{m:Str}{C:Addr}{ps:List Str}{sp:Sp}{apos:Pos}(M:a2k X.prog X.w X.K X.mg X.base k m C ps sp)(hr:L3 j X.A)(hk:k<=j)(ho:y'E X o to)(ha:y'A X (e::es) tr)
  (hst:d9 (e::es) X.env=(false,eval e X.env)::d9 es X.env:=by rfl) (hpl:(U1 pos (d9 es X.env)).any (·.1)=false:=by rfl)
  (ht:eval (.Call (.Attribute o m apos) (e::es) [] pos) X.env=(do
   let ov <-eval o X.env
   a7Q apos.atName
   let(f,first) <-a0U [ov] (a5C ov m pl)
   b6Y pos f first (U1 pos (d9 (e::es) X.env)) (a4O pos (a0s [] X.env))):=by rfl) :
  y'E X (.Call (.Attribute o m apos) (e::es) [] pos) (a1W C m sp [] E0 to tr):=⟨L2.c3s (pl:=pl) M hr hk ho.h ha.h hst hpl ht⟩
theorem a1v{pl:Sem Bool}{k j:Nat}{m:Str}{C:Addr}{ps:List Str}{sp:Sp}{apos:Pos}(M:a2k X.prog X.w X.K X.mg X.base k m C ps sp)(hr:L3 j X.A)(hk:k<=j)(ho:y'E X o to)
  (ht:eval (.Call (.Attribute o m apos) [] [] pos) X.env=(do
   let ov <-eval o X.env
   a7Q apos.atName
   let(f,first) <-a0U [ov] (a5C ov m pl)
   b6Y pos f first (U1 pos (d9 [] X.env)) (a4O pos (a0s [] X.env))):=by rfl) :
  y'E X (.Call (.Attribute o m apos) [] [] pos) (a1W C m sp [] E0 to g7):=⟨L2.c0B (pl:=pl) M hr hk ho.h ht⟩
theorem b7r{ty id:String}{name:Str}{r:V->List V->Hp->VK->Prop}{apos:Pos}(pa:c1Q ty)(slot:Slot ty name id)(hty:typeOf (.builtin id)=pure (.type "method_descriptor"))(hm:a7W X id r)(ho:y'E X o to)
  (hbase:Z6 o name X.env (eval o X.env)=eval o X.env:=by rfl) (hline:(apos.endLine == pos.line)=true:=by rfl):y'E X (.Call (.Attribute o name apos) [] [] pos) (b9W X.K ty r to):=⟨L2.c3x pa slot hty hm.h ho.h hbase hline⟩
structure b9S(X:Cx)(pos:Pos)(ks:List (Option Expr))(vs:List Expr)(trs:List (TE×TE)):Prop where h:PPs X pos ks vs trs
theorem b5x:b9S X pos [] [] []:=⟨L2.c0w⟩
theorem b3v{ks:List (Option Expr)}{vs:List Expr}{trs:List (TE×TE)}(hk:y'E X a ta)(hv:y'E X b tb)(hr:b9S X pos ks vs trs):b9S X pos (some a::ks) (b::vs) ((ta,tb)::trs):=⟨L2.b8o hk.h hv.h hr.h⟩
theorem b5z{keys:List (Option Expr)}{values:List Expr}{trs:List (TE×TE)}(h:b9S X pos keys values trs)(hall:keys.all (·.isSome)=true:=by rfl)(hl:keys.length=values.length:=by rfl)(h0:keys≠[]:=by intro z;cases z)
  (h15:keys.length<=15:=by decide):y'E X (.Dict keys values pos) (b7I trs):=⟨L2.c0F h.h hall hl h0 h15⟩
theorem a3J{k:Nat}(hr:L3 k X.A)(hi:y'E X i ti)(ho:y'E X o to)(h1:L8 .NotIn o=false):y'T X (.Compare i [.NotIn] [o] pos) (tB (a4t ti to)):=⟨L2.b8j (L2.b6e (b5e hr) hi.h ho.h) h1⟩
theorem b1S(hc:X.calm=true):Z0 X (.builtin "min") b8h:=⟨L2.b6K hc⟩
theorem b1T(hc:X.calm=true):Z0 X (.builtin "any") b3Y:=⟨L2.b6N hc⟩
theorem a7V:Z0 X (.builtin "sorted") a4z:=⟨L2.b1u⟩
theorem a9h(hc:X.calm=true):Z0 X (.type "list") a6K:=⟨L2.b3e hc⟩
theorem b1Q:a7W X "list.index" a6L:=⟨L2.b6n⟩
theorem a2Q:a7W X "list.extend" a2d:=⟨L2.b4l⟩
theorem b5E:a7W X "list.pop" b5X:=⟨L2.c1e⟩
theorem a4s{k:Nat}(hr:L3 k X.A):Q2 X (p5 .Eq) (b5Z X.K):=⟨L2.c0R hr⟩
theorem b5B{k:Nat}(hr:L3 k X.A):Q2 X (p5 .NotEq) (c2V X.K):=⟨L2.c0N hr⟩
theorem b5D{k:Nat}(hr:L3 k X.A):Q2 X (p5 .Eq) (c2Y X.K):=⟨L2.c0S hr⟩
theorem b5C:Q2 X (p5 .In) (c2X X.K):=⟨L2.c0Q⟩
end
end Y
namespace Y
open PySem PySem.Spec PyProof.Rows L2
end Y
namespace Y
open PySem PySem.Spec PyProof.Rows L2
end Y
namespace Y
open PySem PySem.Spec PyProof.Rows L2
end Y
namespace Y
open PySem PySem.Spec PyProof.Rows L2
theorem b3x{X:Cx}{k:Nat}(hr:L3 k X.A):Q2 X (p5 .NotIn) (c2W true):=⟨L2.b8F (by have:=hr.units;show X.A.units+1<cLine;omega)⟩
end Y
namespace Y
open PySem PySem.Spec PyProof.Rows L2
end Y
namespace Y
open PySem PySem.Spec PyProof.Rows L2
section
variable {X:Cx}{e0 e1 e2 e3 e4:Expr}{t0 t1 t2 t3 t4:TE}
theorem j9(h0:y'E X e0 t0)(s0:d9 [e0] X.env=(false,eval e0 X.env)::d9 [] X.env:=by rfl):y'A X [e0] (b4 t0 g7):=(E2 h0 L9 s0)
theorem y8(h0:y'E X e0 t0)(h1:y'E X e1 t1)(s0:d9 [e0,e1] X.env=(false,eval e0 X.env)::d9 [e1] X.env:=by rfl)(s1:d9 [e1] X.env=(false,eval e1 X.env)::d9 [] X.env:=by rfl):y'A X [e0,e1] (b4 t0 (b4 t1 g7)):=(E2 h0 (E2 h1 L9 s1) s0)
theorem a2B(h0:y'E X e0 t0)(h1:y'E X e1 t1)(h2:y'E X e2 t2)(s0:d9 [e0,e1,e2] X.env=(false,eval e0 X.env)::d9 [e1,e2] X.env:=by rfl)(s1:d9 [e1,e2] X.env=(false,eval e1 X.env)::d9 [e2] X.env:=by rfl)(s2:d9 [e2] X.env=(false,eval e2 X.env)::d9 [] X.env:=by rfl):y'A X [e0,e1,e2] (b4 t0 (b4 t1 (b4 t2 g7))):=(E2 h0 (E2 h1 (E2 h2 L9 s2) s1) s0)
theorem b4I(h0:y'E X e0 t0)(h1:y'E X e1 t1)(h2:y'E X e2 t2)(h3:y'E X e3 t3)(s0:d9 [e0,e1,e2,e3] X.env=(false,eval e0 X.env)::d9 [e1,e2,e3] X.env:=by rfl)(s1:d9 [e1,e2,e3] X.env=(false,eval e1 X.env)::d9 [e2,e3] X.env:=by rfl)(s2:d9 [e2,e3] X.env=(false,eval e2 X.env)::d9 [e3] X.env:=by rfl)(s3:d9 [e3] X.env=(false,eval e3 X.env)::d9 [] X.env:=by rfl):y'A X [e0,e1,e2,e3] (b4 t0 (b4 t1 (b4 t2 (b4 t3 g7)))):=(E2 h0 (E2 h1 (E2 h2 (E2 h3 L9 s3) s2) s1) s0)
theorem b7s(h0:y'E X e0 t0)(h1:y'E X e1 t1)(h2:y'E X e2 t2)(h3:y'E X e3 t3)(h4:y'E X e4 t4)(s0:d9 [e0,e1,e2,e3,e4] X.env=(false,eval e0 X.env)::d9 [e1,e2,e3,e4] X.env:=by rfl)(s1:d9 [e1,e2,e3,e4] X.env=(false,eval e1 X.env)::d9 [e2,e3,e4] X.env:=by rfl)(s2:d9 [e2,e3,e4] X.env=(false,eval e2 X.env)::d9 [e3,e4] X.env:=by rfl)(s3:d9 [e3,e4] X.env=(false,eval e3 X.env)::d9 [e4] X.env:=by rfl)(s4:d9 [e4] X.env=(false,eval e4 X.env)::d9 [] X.env:=by rfl):y'A X [e0,e1,e2,e3,e4] (b4 t0 (b4 t1 (b4 t2 (b4 t3 (b4 t4 g7))))):=(E2 h0 (E2 h1 (E2 h2 (E2 h3 (E2 h4 L9 s4) s3) s2) s1) s0)
end
end Y
local macro_rules | `(tactic| walk_at "sc") => `(tactic| exact ⟨rfl, rfl, rfl, by decide +kernel, rfl, by decide +kernel, by decide +kernel⟩)
namespace Y
open PySem PySem.Spec PyProof.Rows L2
section
variable {X:Cx}{e a b o:Expr}{es:List Expr}{te ta tb to:TE}{tr:TA}{pos p pos':Pos}{x:Str}
theorem t8(n:Nat)(hN:X.N.Nodup)(he:y'E X e te)(hi:X.N[n]? = some x:=by rfl)(hx:Loc X.env.scope x:=by first | exact Or.inl rfl | exact Or.inr rfl)(hs:a1z e (some (.Name x pos')) pos.line X.env=pure false:=by rfl)(hf:X.fn x=true\/X.env.scope.names.lookup x=some .local:=by first | exact .inl rfl | exact .inr rfl) :
  y'S X (.Assign [.Name x pos'] e pos) (D5 te (o9 n)):=b7k hN hi hx he hs hf
theorem L1(n:Nat)(hN:X.N.Nodup)(hi:X.N[n]? = some x:=by rfl)(hx:Loc X.env.scope x:=by first | exact Or.inl rfl | exact Or.inr rfl)(hf:X.fn x=true\/X.env.scope.names.lookup x=some .local:=by first | exact .inl rfl | exact .inr rfl):y'G X (.Name x pos) (o9 n):=b5y hN hi hx hf
theorem o8{k j:Nat}{ps:List Str}{sp:Sp}(C:C9 X.prog X.w X.K X.mg X.base k x ps sp)(hr:L3 j X.A)(ha:y'A X (e::es) tr)(hk:k<=j:=by decide)(hg:Gl X x:=by rfl)
  (hdb:(x == ("__debug__" : Str))=false:=by decide) (he:d9 (e::es) X.env=(false,eval e X.env)::d9 es X.env:=by rfl) (hpl:(U1 pos (d9 es X.env)).any (·.1)=false:=by rfl) :
  y'E X (.Call (.Name x p) (e::es) [] pos) (u0 sp [] E0 tr):=b7n C hr hk hg ha hdb he hpl
theorem b9M{k j:Nat}{ps:List Str}{sp:Sp}(C:C9 X.prog X.w X.K X.mg X.base k x ps sp)(hr:L3 j X.A)(hk:k<=j:=by decide)(hg:Gl X x:=by rfl)
  (hdb:(x == ("__debug__" : Str))=false:=by decide):y'E X (.Call (.Name x p) [] [] pos) (u0 sp [] E0 g7):=by
 obtain⟨f,fd,F,hm,hkp,hb⟩:=C.ex
 exact⟨b8z F (hr.mono hk) hg hm hkp hb .nil b2t hdb⟩
theorem b0n{k j:Nat}{C:Addr}{ps:List Str}{sp:Sp}(M:b3i X.prog X.w X.K X.mg X.base k x C ps sp)(hr:L3 j X.A)(ha:y'A X (e::es) tr)(hk:k+1<=j:=by decide)(hg:Gl X x:=by rfl)
  (hdb:(x == ("__debug__" : Str))=false:=by decide) (he:d9 (e::es) X.env=(false,eval e X.env)::d9 es X.env:=by rfl) (hpl:(U1 pos (d9 es X.env)).any (·.1)=false:=by rfl) :
  y'E X (.Call (.Name x p) (e::es) [] pos) (a5Q C sp [] E0 tr):=b9P M hr hk hg ha hdb he hpl
theorem t7(ha:y'E X a ta)(hb:y'E X b tb)(hs:b1E b:=by exact fun _ _=>rfl):y'E X (.Subscript a b pos) (tOp qIx ta tb):=b9Q c2p ha hb hs
theorem a6w{op:CmpOp}{r:R2}(ho:Q2 X (p5 op) r)(ha:y'E X a ta)(hb:y'E X b tb)(hm:L8 op b=false:=by exact a4d _):y'E X (.Compare a [op] [b] pos) (tOp r ta tb):=Y8 ho ha hb hm
theorem C1{op:CmpOp}{r:R2}(ho:Q2 X (p5 op) r)(ha:y'E X a ta)(hb:y'E X b tb)(hm:L8 op b=false:=by exact a4d _):y'T X (.Compare a [op] [b] pos) (C0 (tOp r ta tb)):=Y7 ho ha hb hm
end
end Y
namespace Y
open PySem PySem.Spec PyProof.Rows L2
section
variable {X:Cx}{e o i:Expr}{te to ti:TE}{t:TS}{pos p:Pos}{k:Nat}
theorem b3w:y'E X (.Dict [] [] pos) b3D:=⟨L2.b8u⟩
theorem a9g(hc:X.calm=true):Z0 X (.type "list") b3X:=⟨L2.b3d hc⟩
end
end Y
namespace Y
open PySem PySem.Spec PyProof.Rows L2
end Y
namespace Y
open PySem PySem.Spec PyProof.Rows L2
section
variable {X:Cx}{i o:Expr}{ti to:TE}{pos:Pos}{k:Nat}
end
end Y
namespace Y
open PySem PySem.Spec PyProof.Rows L2
section
variable {X:Cx}{k:Nat}
end
end Y
namespace Y
open PySem PySem.Spec PyProof.Rows L2
section
variable {X:Cx}{e o i:Expr}{te to ti:TE}{t:TS}{pos p:Pos}{k:Nat}
end
end Y
namespace Y
open PySem PySem.Spec PyProof.Rows L2
section
variable {X:Cx}{k:Nat}
theorem a9f(hc:X.calm=true):Z0 X (.builtin "sorted") b3W:=⟨L2.b3c hc⟩
theorem b9N{e:Expr}{te:TE}{p p' pos pos':Pos}(hc:X.calm=true)(hg:Gl X "sorted")(hm:X.mg "sorted" = none)(hv:O9 "sorted" = some (.builtin "sorted"))(hg':Gl X "set")(hm':X.mg "set" = none)(hv':O9 "set" = some (.type "set"))(he:y'E X e te)
  (hs1:d9 [e] X.env=[(false,eval e X.env)]:=by rfl) (hs2:d9 [Expr.Call (.Name "set" p') [e] [] pos'] X.env=[(false,eval (.Call (.Name "set" p') [e] [] pos') X.env)]:=by rfl) :
  y'E X (.Call (.Name "sorted" p) [.Call (.Name "set" p') [e] [] pos'] [] pos) (tSS te):=⟨L2.c5v hc hg hm hv hg' hm' hv' he.h hs1 hs2⟩
end
end Y
namespace RD
open PySem PySem.Spec L2
variable{C a b c d dx na p ra:Addr}{H H' H0 H1:Hp}{o:HO}{xs ys:List V}{i m n:Nat}{D:Nat->Option (List Key)}{σ:St}{ta te:TE}{tt:TT}{Q:VK}{v:V}{s z:Str}{ks l:List Nat}{ss:List Str}{QD:Hp->Prop}{R:It->Hp->Prop}{M N:Nt}{ns:List Int}{as ps rs:List Addr}{RC:Nat->List V}
def A7(b:Addr)(H H':Hp):Prop:=(∀a o,H a=some o->a≠b->H' a=some o)/\∀o,H b=some o->∃o',H' b=some o'
theorem A7.refl(b:Addr)(H:Hp):A7 b H H:=⟨fun _ _ h _=>h,fun o h=>⟨o,h⟩⟩
theorem A7.trans{H2:Hp}(x:A7 b H H1)(y:A7 b H1 H2):A7 b H H2:=
 ⟨fun a o h n=>y.1 a o (x.1 a o h n) n,fun o h=>let⟨o',h'⟩:=x.2 o h;y.2 o' h'⟩
theorem A7.upd(b:Addr)(H:Hp)(o:HO):A7 b H (upd H b o):=⟨fun a u h n=>by rw[j5 n];exact h,fun _ _=>⟨o,d8⟩⟩
theorem A7.new(h:H p=none):A7 b H (L2.upd H p o):=
 ⟨fun a u e _=>by rw[j5 (d4 e h)];exact e,fun u e=>⟨u,by rw[j5 (d4 e h)];exact e⟩⟩
theorem A7.of_same(s:p9 H H'):A7 b H H':=⟨fun a o h _=>s a o h,fun o h=>⟨o,s _ _ h⟩⟩
theorem w4(h:H p=none):p9 H (L2.upd H p o):=fun a u e=>by rw[j5 (d4 e h)];exact e
theorem A7.none(k:A7 b H H')(h:H' p=Option.none):H p=Option.none:=by
 cases e:H p with
 | none=>rfl
 | some o=>
  by_cases z:p=b
  ·subst z
   obtain⟨o',h'⟩:=k.2 o e
   rw[h]at h'
   cases h'
  ·rw[k.1 p o e z]at h
   cases h
theorem A7.tup{b a:Addr}{H H':Hp}{xs ys:List V}(k:A7 b H H')(hb:H b=some (.lst ys))(h:H a=some (.tup xs)):H' a=some (.tup xs):=
 k.1 a _ h (O0 h hb (by intro z;cases z))
structure Bag(H:Hp)(b c:Addr):Prop where
 ex:∃(i0 i1 i2:Int) (ns:List Int),H b=some (.lst [.int i0,.int i1,.int i2,.ref c])/\H c=some (.lst (ns.map V.int))/\0<=i0/\0<=i1/\i1<2147483647/\0<=i2/\∀x∈ns,0<=x
theorem Bag.lst{H:Hp}{b c:Addr}(h:Bag H b c):∃xs,H b=some (.lst xs):=by
 obtain⟨i0,i1,i2,ns,h,_⟩:=h.ex
 exact⟨_,h⟩
theorem Bag.same(h:Bag H b c)(s:p9 H H'):Bag H' b c:=by
 obtain⟨i0,i1,i2,ns,h1,h2,r⟩:=h.ex
 exact⟨i0,i1,i2,ns,s _ _ h1,s _ _ h2,r⟩
theorem Bag.new(h:Bag H b c)(n:H p=none):Bag (L2.upd H p o) b c:=h.same (w4 n)
theorem Bag.put(h:Bag H b c)(n1:p≠b)(n2:p≠c):Bag (L2.upd H p o) b c:=by
 obtain⟨i0,i1,i2,ns,h1,h2,r⟩:=h.ex
 exact⟨i0,i1,i2,ns,by rw[j5 n1.symm];exact h1,by rw[j5 n2.symm];exact h2,r⟩
theorem Bag.nb(h:Bag H b c)(n:H p=none):p≠b/\p≠c:=by
 obtain⟨i0,i1,i2,ns,h1,h2,r⟩:=h.ex
 exact⟨(d4 h1 n).symm,(d4 h2 n).symm⟩
theorem A7.put(k:A7 b H H')(n:H p=Option.none):A7 b H (L2.upd H' p o):=
 ⟨fun a u e z=>by rw[j5 (d4 e n)];exact k.1 a u e z,fun u e=>by
  obtain⟨o',h⟩:=k.2 u e
  exact⟨o',by rw[j5 (d4 e n)];exact h⟩⟩
theorem a0Q{α:Type}(a:α)(r:List α):atI (a::r) 0=some a:=by
 have := @a1t α (a::r) 0 a rfl
 simpa using this
theorem a3p{α:Type}(a b:α)(r:List α):atI (a::b::r) 1=some b := @a1t α (a::b::r) 1 b rfl
theorem a4I{α:Type}(a b c:α)(r:List α):atI (a::b::c::r) 2=some c := @a1t α (a::b::c::r) 2 c rfl
theorem c5Q{α:Type}(a b c d:α)(r:List α):atI (a::b::c::d::r) 3=some d := @a1t α (a::b::c::d::r) 3 d rfl
theorem a1O{α:Type}{xs:List α}{i:Int}(h0:0<=i)(h1:i<xs.length):∃v,atI xs i=some v/\xs[i.toNat]? = some v:=by
 have hl:i.toNat<xs.length:=by omega
 have e:xs[i.toNat]? = some (xs[i.toNat]'hl):=by simp[hl]
 refine⟨_,?_,e⟩
 have:=a1t e
 rwa [Int.toNat_of_nonneg h0]at this
section
variable {t u:TS}{D:a7c}{tb tc to ti:TE}{tu:TT}{tr:TA}{QB:Bool->Hp->Prop}{QA:List V->Hp->Prop}{QO:Option Int->Hp->Prop}{x y:V}{i j:Int}{r r':R2}{K:Fg}
theorem a0x(h:t { D with nx:=u D } σ H):u7 t u D σ H:=h
theorem a0z{P:St->Hp->Prop}(tail:∀σ H,P σ H->u D σ H)(main:∀nx:St->Hp->Prop,(∀σ H,P σ H->nx σ H)->t { D with nx:=nx } σ H):u7 t u D σ H:=main _ tail
theorem c5c{g:TG}(h:te σ H fun x H1=>g x σ H1 D.nx):D5 te g D σ H:=h
theorem b0H{QS:St->Hp->Prop}(h:QS (σ.set n (some v)) H):o9 n v σ H QS:=h
theorem c2F{QS:St->Hp->Prop}{ts:a9y}(h:to σ H fun o H1=>ti σ H1 fun i H2=>ts o i v H2 fun H3=>QS σ H3):b6B to ti ts v σ H QS:=h
theorem c4U(h:te σ H D.rt):I0 te D σ H:=h
theorem c2G(h:te σ H fun _ H1=>D.nx σ H1):a0t te D σ H:=h
theorem c6n(h:tt σ H fun b H1=>if b=true then t D σ H1 else u D σ H1):K9 tt t u D σ H:=h
theorem c2C(h:D.nx σ H):C8 D σ H:=h
theorem c2y(h:te σ H fun x H'=>∃k,x=.bl k/\QB k H'):C0 te σ H QB:=h
theorem c6j(h:te σ H fun x H'=>∃k,x=.bl k/\QB k H'):tB te σ H QB:=h
theorem c4X(h:tt σ H fun c H1=>QB (!c) H1):a5P tt σ H QB:=h
theorem c5d(h:tt σ H fun c H1=>if c=true then tu σ H1 QB else QB false H1):b0s tt tu σ H QB:=h
theorem c6m(h:tt σ H fun c H1=>if c=true then QB true H1 else tu σ H1 QB):tOr tt tu σ H QB:=h
theorem c2J(h:ta σ H fun x H1=>∃c,x=.bl c/\if c=true then tb σ H1 Q else Q (.bl false) H1):a0u ta tb σ H Q:=h
theorem c4V(h:ta σ H fun x H1=>∃c,x=.bl c/\if c=true then Q (.bl true) H1 else tb σ H1 Q):b9V ta tb σ H Q:=h
theorem c2B(h:ta σ H fun x H1=>∃c,x=.bl c/\Q (.bl (!c)) H1):b1Z ta σ H Q:=h
theorem c4Z(h:tt σ H fun c H1=>if c=true then ta σ H1 Q else tb σ H1 Q):tIf tt ta tb σ H Q:=h
theorem c4W(h:ta σ H fun x H1=>tb σ H1 fun y H2=>r x y H2 Q):tOp r ta tb σ H Q:=h
theorem c0h(h:ta σ H fun x H1=>tb σ H1 fun y H2=>r x y H2 fun z H3=>∃k,z=.bl k/\(if k=true then tc σ H3 fun w' H4=>r' y w' H4 Q else Q (.bl false) H3)):a3O r r' ta tb tc σ H Q:=h
theorem c4S(e:σ[n]? = some (some v))(h:Q v H):b8 n σ H Q:=⟨v,e,h⟩
theorem s_c(h:Q v H):tC v σ H Q:=h
theorem b7Z(h:te σ H fun x H1=>tr σ H1 fun xs H2=>QA (x::xs) H2):b4 te tr σ H QA:=h
theorem c1Y(h:QA [] H):g7 σ H QA:=h
theorem c2H{sp:Sp}{E:XK}(h:tr σ H fun vs H1=>sp (vs++[]) H1 Q E):u0 sp [] E tr σ H Q:=h
theorem c6o{f:List V->Hp->VK->Prop}(h:tr σ H fun vs H1=>f vs H1 Q):tCB f tr σ H Q:=h
def New(o:HO)(n:Nat)(H:Hp)(Q:VK):Prop:=n<=j6/\∀p,H p=none->Q (.ref p) (upd H p o)
theorem z6(hl:n<=100000)(h:∀p H',H p=none->H' p=some o->p9 H H'->Q (.ref p) H'):New o n H Q:=
 ⟨E3 hl (by rw[a2M];decide),fun p hp=>h p _ hp d8 (w4 hp)⟩
theorem c4T(h:tr σ H fun xs H1=>New (.tup xs) xs.length H1 Q):a1S tr σ H Q:=h
theorem c4Y(h:tr σ H fun xs H1=>New (.lst xs) xs.length H1 Q):P3 tr σ H Q:=h
theorem c6l{f:V->Option Int->Option Int->Hp->VK->Prop}{tl th:TO}(h:te σ H fun x H1=>tl σ H1 fun l H2=>th σ H2 fun u H3=>f x l u H3 Q):tSl f te tl th σ H Q:=h
theorem c2A(h:te σ H fun x H1=>∃i,x=.int i/\QO (some i) H1):a8d te σ H QO:=h
theorem b7W(h:QO none H):a2R σ H QO:=h
theorem b3O(h:QB true H):U2 σ H QB:=h
theorem a6J{f:V->List V->Hp->VK->Prop}(h:to σ H fun x H1=>tyV K "list" x H1/\tr σ H1 fun xs H2=>f x xs H2 Q):tBM K "list" f to tr σ H Q:=h
theorem c5a{f:V->List V->Hp->VK->Prop}(h:tr σ H fun xs H2=>f (.str s) xs H2 Q):tBM K "str" f (tC (.str s)) tr σ H Q:=⟨rfl,h⟩
theorem c2I{tget:V->V->Hp->VK->Prop}{tip:TIp}{tset:a9y}(h:to σ H fun o H1=>ti σ H1 fun i H2=>tget o i H2 fun x H3=>te σ H3 fun y H4=>tip x y H4 fun z H5=>tset o i z H5 fun H6=>D.nx σ H6):b4O to ti te tget tip tset D σ H:=h
theorem c5o(h:Q (.int (i+j)) H):a0V (.int i) (.int j) H Q:=h
theorem b3T{a b:Str}(hl:a.length+b.length<=j6)(h:Q (.str (a++b)) H):a0V (.str a) (.str b) H Q:=⟨hl,h⟩
theorem b3U(ha:H a=some (.lst xs))(hb:H b=some (.lst ys))(h:New (.lst (xs++ys)) (xs.length+ys.length) H Q):a0V (.ref a) (.ref b) H Q:=by
 unfold a0V
 simp only[ha,hb]
 exact h
theorem c2R{g:Int->Int->V}(h:Q (g i j) H):b2s g (.int i) (.int j) H Q:=h
theorem a0c{C:Int->Int->Prop}{g:Int->Int->V}(hc:C i j)(h:Q (g i j) H):q2I C g (.int i) (.int j) H Q:=⟨hc,h⟩
theorem c6t{f:Int->Int->Int}(h:Q (.int (f i j)) H):ipI f (.int i) (.int j) H Q:=⟨i,j,rfl,rfl,h⟩
theorem J2(hp:H p=some (.lst xs))(he:atI xs i=some v)(h:Q v H):qIx (.ref p) (.int i) H Q:=by
 unfold qIx
 simp only[hp]
 exact⟨v,he,h⟩
theorem F4(hp:H p=some (.tup xs))(he:atI xs i=some v)(h:Q v H):qIx (.ref p) (.int i) H Q:=by
 unfold qIx
 simp only[hp]
 exact⟨v,he,h⟩
theorem b8g{c:Nat}(hz:z.length<=j6)(he:atI z.cps.toList i=some c)(h:Q (.str ⟨#[c]⟩) H):qIx (.str z) (.int i) H Q:=⟨hz,c,he,h⟩
theorem b4W{QH:Hp->Prop}{k:Nat}(hp:H p=some (.lst xs))(he:ixN xs.length i=some k)(h:QH (upd H p (.lst (xs.set k v)))):b0N (.ref p) (.int i) v H QH:=by
 unfold b0N
 simp only[hp]
 exact⟨k,he,h⟩
theorem c5l(hp:H p=some (.lst xs))(h0:0<=i)(he:xs[i.toNat]? = some v)(h:Q v H):b5Y (.ref p) (.int i) H Q:=by
 unfold b5Y
 simp only[hp]
 exact⟨h0,v,he,h⟩
theorem R7(hp:H p=some (.lst xs))(h:Q (.int xs.length) H):X2 [.ref p] H Q:=by
 unfold X2
 simp only[hp]
 exact h
theorem a3W(hp:H p=some (.tup xs))(h:Q (.int xs.length) H):X2 [.ref p] H Q:=by
 unfold X2
 simp only[hp]
 exact h
theorem c2P(hz:z.length<=j6)(h:Q (.int z.length) H):X2 [.str z] H Q:=⟨hz,h⟩
theorem c5p(h:Q (.int (if i<0 then -i else i)) H):b8i [.int i] H Q:=h
theorem c6u(hs:b2i x y=true)(h:Q (.bl (decide (x=y))) H):qEq x y H Q:=⟨_,if_pos hs,h⟩
theorem c6s(hs:b2i x y=true)(h:Q (.bl (!decide (x=y))) H):qNe x y H Q:=⟨_,if_pos hs,h⟩
theorem c1v(ha:H a=some (.lst xs))(hb:H b=some (.lst ys))(fx:xs.all J0=true)(fy:ys.all J0=true):eqO (.ref a) (.ref b) H=some (O3 xs ys):=by
 unfold eqO
 rw[if_neg (by intro z;cases z)]
 simp only[ha,hb]
 rw[if_pos ⟨fx,fy⟩]
theorem b9e(v:V)(h:J0 v=true):eqV v v=true:=by
 cases v with
 | non=>rfl
 | bl b=>simp[eqV]
 | int i=>simp[eqV]
 | str s=>simp[eqV]
 | byt b=>cases h
 | flt b=>cases h
 | ref a=>cases h
 | ty n=>cases h
theorem b2O(xs:List V)(h:xs.all J0=true):O3 xs xs=true:=by
 unfold O3
 rw[a9a,beq_self_eq_true,b3p,A8]
 intro j hj
 have hl:j<xs.length:=by simpa using hj
 have e:xs.getD j .non=xs[j]:=by simp[L0,hl]
 rw[e]
 exact b9e _ (A8.mp h _ (z7 _))
theorem c2O(hp:H p=some (.tup ys))(h:∀l H',H l=none->H' l=some (.lst ys)->p9 H H'->Q (.ref l) H'):a3X [.ref p] H Q:=by
 unfold a3X
 simp only[hp]
 exact fun l hl=>h l _ hl d8 (w4 hl)
theorem a6a(hp:H p=some (.tup xs))(hx:J0 x=true)(ha:xs.all J0=true)(h:Q (.bl (inV x xs)) H):qIn false x (.ref p) H Q:=by
 unfold qIn
 cases x <;> first | (simp only[hp];exact⟨hx,ha,h⟩) | cases hx
theorem c2N(hp:H p=some (.lst xs))(hx:J0 x=true)(ha:xs.all J0=true)(h:Q (.bl (!inV x xs)) H):qIn true x (.ref p) H Q:=by
 unfold qIn
 cases x <;> first | (simp only[hp];exact⟨hx,ha,h⟩) | cases hx
theorem a0B{l:Addr}(hp:H l=some (.lst xs))(hl:xs.length<j6)(h:Q .non (upd H l (.lst (xs++[y])))):Z3 (.ref l) [y] H Q:=by
 unfold Z3
 simp only[hp]
 exact⟨hl,h⟩
theorem c2c{lo hi:Option Int}(ha:H a=some (.tup xs))(hw:¬(HT.sIx xs.length 0 lo=0/\HT.sIx xs.length xs.length hi=xs.length))(h:∀p H',H p=none->H' p=some (.tup (a5t xs lo hi))->p9 H H'->Q (.ref p) H'):qSl (.ref a) lo hi H Q:=by
 unfold qSl
 simp only[ha]
 exact⟨hw,fun p hp=>h p _ hp d8 (w4 hp)⟩
theorem c5i{lo hi:Option Int}(ha:H a=some (.lst xs))(h:∀p H',H p=none->H' p=some (.lst (a5t xs lo hi))->p9 H H'->Q (.ref p) H'):qSl (.ref a) lo hi H Q:=by
 unfold qSl
 simp only[ha]
 exact fun p hp=>h p _ hp d8 (w4 hp)
theorem a1L{s c:String}(e:a1F x H=some s)(hc:c∈a6W)(h:Q (.bl (b4t s c)) H):a3Y [x,.ty c] H Q:=⟨s,e,hc,h⟩
theorem c2Q{l:Addr}(hp:H l=some (.lst xs))(e:a2p xs=some ss)(hl:(ss.map (·.length)).sum+ss.length * s.length<=16777216)(h:Q (.str (Txt.join s ss)) H):a9R (.str s) [.ref l] H Q:=by
 unfold a9R
 simp only[hp]
 exact⟨ss,e,hl,h⟩
end
section
variable {D:Addr}{K:Fg}
theorem a2H{lo:Int}(Pv:Nat->List V->Hp->Prop)(h0:Pv 0 [] (upd H1 D (.lst [])))(hP:∀i ys H,Pv i ys H->H D=some (.lst ys))
  (step:∀i ys H2,i<n->Pv i ys H2->∀R:VK,(∀y H5,H5 D=some (.lst ys)->ys.length<j6->Pv (i+1) (ys++[y]) (upd H5 D (.lst (ys++[y])))->R y H5)->te (some (.int (lo+i))::σ) H2 R)
  (done:∀ys H2,Pv n ys H2->QD H2) :
  ∃W:Nat->Nat->List V->Hp->Prop,(∃m,W 0 m [] (upd H1 D (.lst [])))/\∀i m ys H2,W i m ys H2->H2 D=some (.lst ys) /\
   (((Itr lo n).stop i H2 /\ QD H2) \/ ((Itr lo n).go i H2 /\ ∀ x H3,(Itr lo n).yld i H2 x H3 -> U2 (some x :: σ) H3 fun ok H4 => if ok = true then
     te (some x::σ) H4 (fun y H5=>H5 D=some (.lst ys)/\ys.length<j6/\∃m',m'<m/\W (i+1) m' (ys++[y]) (upd H5 D (.lst (ys++[y]))))
     else ∃m',m'<m/\W (i+1) m' ys H4)):=by
 refine⟨fun i m ys H=>m=n - i/\i<=n/\Pv i ys H,⟨n,rfl,F5 _,h0⟩,?_⟩
 rintro i m ys H2 ⟨rfl,hi,p⟩
 refine⟨hP i ys H2 p,?_⟩
 by_cases hlt:i<n
 ·refine .inr ⟨hlt,fun x H3 y=>?_⟩
  obtain⟨e,y⟩:=y
  subst e y
  refine b3O ?_
  rw[if_pos rfl]
  exact step i ys _ hlt p _ fun y H5 h1 h2 h3=>⟨h1,h2,n - (i+1),by omega,rfl,hlt,h3⟩
 ·have e:i=n:=by omega
  subst e
  exact .inl ⟨d5 _,done ys H2 p⟩
theorem Y4(Pv:Nat->List V->Hp->Prop)(h0:Pv 0 [] (upd H1 D (.lst [])))(hP:∀i ys H,Pv i ys H->H D=some (.lst ys))(hl:∀i ys H,i<=xs.length->Pv i ys H->SqL K H a xs)
  (step:∀i x ys H2,xs[i]? = some x->Pv i ys H2->∀R:VK,(∀y H5,H5 D=some (.lst ys)->ys.length<j6->Pv (i+1) (ys++[y]) (upd H5 D (.lst (ys++[y])))->R y H5)->te (some x::σ) H2 R)
  (done:∀ys H2,Pv xs.length ys H2->QD H2) :
  ∃W:Nat->Nat->List V->Hp->Prop,(∃m,W 0 m [] (upd H1 D (.lst [])))/\∀i m ys H2,W i m ys H2->H2 D=some (.lst ys) /\
   (((Itl K a).stop i H2 /\ QD H2) \/ ((Itl K a).go i H2 /\ ∀ x H3,(Itl K a).yld i H2 x H3 -> U2 (some x :: σ) H3 fun ok H4 => if ok = true then
     te (some x::σ) H4 (fun y H5=>H5 D=some (.lst ys)/\ys.length<j6/\∃m',m'<m/\W (i+1) m' (ys++[y]) (upd H5 D (.lst (ys++[y]))))
     else ∃m',m'<m/\W (i+1) m' ys H4)):=by
 refine⟨fun i m ys H=>m=xs.length - i/\i<=xs.length/\Pv i ys H,⟨xs.length,rfl,F5 _,h0⟩,?_⟩
 rintro i m ys H2 ⟨rfl,hi,p⟩
 refine⟨hP i ys H2 p,?_⟩
 have q:=hl i ys H2 hi p
 by_cases hlt:i<xs.length
 ·refine .inr ⟨⟨xs,xs[i],q,by simp[hlt]⟩,fun x H3 y=>?_⟩
  obtain⟨e,y⟩:=y
  subst e
  refine b3O ?_
  rw[if_pos rfl]
  exact step i x ys _ (y xs q) p _ fun y H5 h1 h2 h3=>⟨h1,h2,xs.length - (i+1),by omega,rfl,hlt,h3⟩
 ·have e:i=xs.length:=by omega
  subst e
  exact .inl ⟨⟨xs,q,d5 _⟩,done ys H2 p⟩
theorem X1{wi:TI}(h:wi σ H1 fun J H1=>∀D,H1 D=none->∃W:Nat->Nat->List V->Hp->Prop,
 (∃m,W 0 m [] (upd H1 D (.lst [])))/\∀i m ys H2,W i m ys H2->H2 D=some (.lst ys) /\
  ((J.stop i H2 /\ Q (.ref D) H2) \/ (J.go i H2 /\ ∀ x H3,J.yld i H2 x H3 -> tt (some x :: σ) H3 fun ok H4 => if ok = true then
    te (some x::σ) H4 (fun y H5=>H5 D=some (.lst ys)/\ys.length<j6/\∃m',m'<m/\W (i+1) m' (ys++[y]) (upd H5 D (.lst (ys++[y]))))
    else ∃m',m'<m/\W (i+1) m' ys H4))):V9 wi tt te σ H1 Q:=h
theorem a0y{ta:TA}(h:ta σ H1 fun vs H2=>∃j:Int,vs=[.int j] /\ -(2 ^ 62)<=j/\j<2 ^ 62/\R (Itr 0 j.toNat) H2):a0S ta σ H1 R:=h
theorem T9(h:ta σ H1 fun x H2=>∃a,x=.ref a/\(∃xs,SqL K H2 a xs)/\R (Itl K a) H2):W0 K ta σ H1 R:=h
theorem a0n{wi:TI}{g:TG}{tb:TS}{D:a7c}(h:wi σ H1 fun J H1=>∃W:Nat->Nat->St->Hp->Prop,(∃m,W 0 m σ H1)/\∀i m σ H,W i m σ H ->
 (J.stop i H/\D.nx σ H)\/(J.go i H/\∃N:St->Hp->Prop,(∀σ' H',N σ' H'->∃m',m'<m/\W (i+1) m' σ' H')/\∀x H',J.yld i H x H'->g x σ H' fun σ2 H2=>tb { D with nx:=N,ct:=N,bk:=D.nx } σ2 H2)):a1o wi g tb D σ H1:=h
end
def K7(H H':Hp):Prop:=∀a xs,H a=some (.tup xs)->H' a=some (.tup xs)
theorem K7.put(h:H p=some (.lst ys)):K7 H (upd H p o):=fun a xs e=>by
 rw[j5 (O0 e h (by intro z;cases z))];exact e
theorem p9.ts(s:p9 H H'):K7 H H':=fun a xs h=>s a _ h
theorem A7.ts(k:A7 b H H')(hB:Bag H b c):K7 H H':=fun a xs h=>by
 obtain⟨ys,hb⟩:=hB.lst
 exact k.tup hb h
def OpV(v:V):Prop:=(∃s,v=.str s)\/∃n:Int,v=.int n/\0<=n/\n<1000000000000
def c4z(H:Hp)(p:Addr):Prop:=∃k v1 v2,H p=some (.tup [.str k,v1,v2])/\OpV v1/\OpV v2/\k∈(["plus","minus","times","less","same"]:List Str)
inductive b0e(H:Hp):List V->Prop
 | set (n:Str) (p:Addr):c4z H p->b0e H [.str "set",.str n,.ref p]
 | copy (n:Str) (v:V):OpV v->b0e H [.str "copy",.str n,v]
 | take (n:Str):b0e H [.str "take",.str n]
 | tell (v:V):OpV v->b0e H [.str "tell",v]
 | ask (v:V):OpV v->b0e H [.str "ask",v]
 | skip:b0e H [.str "skip"]
structure c6H(H:Hp)(a:Addr):Prop where
 ex:∃ss:List Str,H a=some (.lst (ss.map V.str))/\ss≠[]/\ss.length<=8
theorem small(h:n<=100000):n<=j6:=E3 h (by rw[a2M];decide)
theorem F6(h:n<100000):n<j6:=v5 h (by rw[a2M];decide)
theorem D9{c:Bool}{A B:Prop}(hc:c=true)(h:A):if c=true then A else B:=by rw[if_pos hc];exact h
theorem y0{c:Bool}{A B:Prop}(hc:c=false)(h:B):if c=true then A else B:=by rw[hc];exact L2.c4g h
section
variable {t u:TS}{D:a7c}{tb tc to ti:TE}{tu:TT}{tr:TA}{QB:Bool->Hp->Prop}{QA:List V->Hp->Prop}{x y:V}{i j:Int}{K:Fg}
theorem b3R(h:∀p H',H p=none->H' p=some (.dK [])->p9 H H'->Q (.ref p) H'):a6B σ H Q:=fun p hp=>h p _ hp d8 (w4 hp)
theorem b7Y(h:ti σ H fun y H1=>to σ H1 fun x H2=>∃a o,x=.ref a/\a9A H2 a y o/\Q (.bl o.isSome) H2):b0r ti to σ H Q:=h
theorem a8q(h:ti σ H fun y H1=>to σ H1 fun x H2=>∃a o,x=.ref a/\a9A H2 a y o/\Q (.bl (!o.isSome)) H2):a4t ti to σ H Q:=h
theorem a8p(h:te σ H fun v H1=>to σ H1 fun x H2=>ti σ H2 fun y H3=>∃a H4,x=.ref a/\a8V H3 a y v H4/\D.nx σ H4):a3U to ti te D σ H:=h
theorem b2p{f:Str}(h:ta σ H fun x H1=>∃a C dx fs v,x=.ref a/\H1 a=some (.ins C dx fs)/\Cls K C/\a1P K C f/\fs.lookup f=some v/\Q v H1):b2a K ta f σ H Q:=h
theorem b3Q{f:Str}(h:te σ H fun y H1=>ta σ H1 fun x H2=>∃a C dx fs,x=.ref a/\H2 a=some (.ins C dx fs)/\Cls K C/\a1P K C f/\fs.length<1000/\D.nx σ (upd H2 a (.ins C dx (a1T f y fs)))):b5V K ta te f D σ H:=h
theorem a5g{m:Str}{sp:Sp}{E:XK}(h:ta σ H fun x H1=>∃a dx fs,x=.ref a/\H1 a=some (.ins C dx fs)/\fs.lookup m=none/\tr σ H1 fun vs H2=>sp (x::(vs++[])) H2 Q E):a1W C m sp [] E ta tr σ H Q:=h
theorem b0G{sp:Sp}{E:XK}(h:tr σ H fun vs H1=>∀x dx,H1 x=none->H1 dx=none->dx≠x ->
 sp (.ref x::(vs++[])) (upd (upd H1 dx (.own x)) x (.ins C dx [])) (fun v H2=>v=.non/\Q (.ref x) H2) E):a5Q C sp [] E tr σ H Q:=h
theorem c5b{f:V->List V->Hp->VK->Prop}(h:to σ H fun x H1=>tyV K "list" x H1/\f x [] H1 Q):b9W K "list" f to σ H Q:=h
theorem Z1(h:H p=some (.lst xs)):tyV K "list" (.ref p) H:=.inl ⟨rfl,xs,SqL.of h⟩
theorem a5X{a b:Nat}{QS:St->Hp->Prop}(hp:SqT K H p [x,y])(h:QS ((σ.set a (some x)).set b (some y)) H):b1l K 2 (a1m (o9 a) (a1m (o9 b) b1m)) (.ref p) σ H QS:=
 ⟨p,_,rfl,hp,rfl,_,_,rfl,_,_,rfl,rfl,h⟩
theorem a7H(h:tr σ H fun vs H1=>∃a,vs=[.ref a]/\(∃xs,SqL K H1 a xs)/\R (Ite K a) H1):a8G K tr σ H R:=h
theorem c2D(h:tr σ H fun vs H1=>∃a b,vs=[.ref a,.ref b]/\(∃xs,SqL K H1 a xs)/\(∃xs,SqL K H1 b xs)/\R (Itz K a b) H1):c1q K tr σ H R:=h
theorem c0g(h:∃W:Nat->St->Hp->Prop,(∃m,W m σ H)/\∀m σ H,W m σ H ->
 tt σ H fun b H1=>if b=true then ∃N:St->Hp->Prop,(∀σ' H',N σ' H'->∃m',m'<m/\W m' σ' H')/\t { D with nx:=N,ct:=N,bk:=D.nx } σ H1 else D.nx σ H1):b0q tt t D σ H:=h
theorem c2z(h:te σ H fun v H1=>D.nx (σ.set n (some v)) H1):(fun D σ H=>te σ H fun v H1=>(D:a7c).nx (σ.set n (some v)) H1:TS) D σ H:=h
theorem b4S{wi:TI}(h:wi σ H1 fun J H1=>∀D,H1 D=none->∃W:Nat->Nat->List V->Hp->Prop,
 (∃m,W 0 m [] (upd H1 D (.lst [])))/\∀i m ys H2,W i m ys H2->H2 D=some (.lst ys) /\
  ((J.stop i H2 /\ Q (.ref D) H2) \/ (J.go i H2 /\ ∀ x H3,J.yld i H2 x H3 -> ∃ a u v,x = .ref a /\ SqT K H3 a [u,v] /\ tt (some u :: some v :: σ) H3 fun ok H4 => if ok = true then
    te (some u::some v::σ) H4 (fun y H5=>H5 D=some (.lst ys)/\ys.length<j6/\∃m',m'<m/\W (i+1) m' (ys++[y]) (upd H5 D (.lst (ys++[y]))))
    else ∃m',m'<m/\W (i+1) m' ys H4))):a8e K wi tt te σ H1 Q:=h
theorem b9p{J:It}{D:Addr}(n:Nat)(Pv:Nat->List V->Hp->Prop)(h0:Pv 0 [] (upd H1 D (.lst [])))(hP:∀i ys H,Pv i ys H->H D=some (.lst ys))(stop:∀ys H,Pv n ys H->J.stop n H/\QD H)(go:∀i ys H,i<n->Pv i ys H->J.go i H)
  (step:∀i ys H2,i<n->Pv i ys H2->∀x H3,J.yld i H2 x H3->∃a u v,x=.ref a/\SqT K H3 a [u,v]/\∀(R:VK) (S:Hp->Prop),(∀y H5,H5 D=some (.lst ys)->ys.length<j6->Pv (i+1) (ys++[y]) (upd H5 D (.lst (ys++[y])))->R y H5)->(∀H4,Pv (i+1) ys H4->S H4) ->
   tt (some u::some v::σ) H3 fun ok H4=>if ok=true then te (some u::some v::σ) H4 R else S H4) :
  ∃W:Nat->Nat->List V->Hp->Prop,(∃m,W 0 m [] (upd H1 D (.lst [])))/\∀i m ys H2,W i m ys H2->H2 D=some (.lst ys) /\
   ((J.stop i H2 /\ QD H2) \/ (J.go i H2 /\ ∀ x H3,J.yld i H2 x H3 -> ∃ a u v,x = .ref a /\ SqT K H3 a [u,v] /\ tt (some u :: some v :: σ) H3 fun ok H4 => if ok = true then
     te (some u::some v::σ) H4 (fun y H5=>H5 D=some (.lst ys)/\ys.length<j6/\∃m',m'<m/\W (i+1) m' (ys++[y]) (upd H5 D (.lst (ys++[y]))))
     else ∃m',m'<m/\W (i+1) m' ys H4)):=by
 refine⟨fun i m ys H=>m=n - i/\i<=n/\Pv i ys H,⟨n,rfl,F5 _,h0⟩,?_⟩
 rintro i m ys H2 ⟨rfl,hi,p⟩
 refine⟨hP i ys H2 p,?_⟩
 by_cases hlt:i<n
 ·refine .inr ⟨go i ys H2 hlt p,fun x H3 hy=>?_⟩
  obtain⟨a,u,v,e,hs,st⟩:=step i ys H2 hlt p x H3 hy
  exact⟨a,u,v,e,hs,st _ _ (fun y H5 h1 h2 h3=>⟨h1,h2,n - (i+1),by omega,rfl,hlt,h3⟩) fun H4 h4=>⟨n - (i+1),by omega,rfl,hlt,h4⟩⟩
 ·have e:i=n:=by omega
  subst e
  exact .inl (stop ys H2 p)
theorem b9d{J:It}{g:TG}{tb:TS}(n:Nat)(Pv:Nat->St->Hp->Prop)(h0:Pv 0 σ H)(stop:∀σ H,Pv n σ H->J.stop n H/\D.nx σ H)(go:∀i σ H,i<n->Pv i σ H->J.go i H)
  (hs:∀i σ H,i<n->Pv i σ H->∀x H',J.yld i H x H'->g x σ H' fun σ2 H2=>tb { D with nx:=Pv (i+1),ct:=Pv (i+1),bk:=D.nx } σ2 H2) :
  ∃W:Nat->Nat->St->Hp->Prop,(∃m,W 0 m σ H)/\∀i m σ H,W i m σ H ->
   (J.stop i H/\D.nx σ H)\/(J.go i H/\∃N:St->Hp->Prop,(∀σ' H',N σ' H'->∃m',m'<m/\W (i+1) m' σ' H')/\∀x H',J.yld i H x H'->g x σ H' fun σ2 H2=>tb { D with nx:=N,ct:=N,bk:=D.nx } σ2 H2):=by
 refine⟨fun i m σ H=>m=n - i/\i<=n/\Pv i σ H,⟨n,rfl,F5 _,h0⟩,?_⟩
 rintro i m σ H ⟨rfl,hi,p⟩
 by_cases hlt:i<n
 ·exact .inr ⟨go i σ H hlt p,Pv (i+1),fun σ' H' p'=>⟨n - (i+1),by omega,rfl,hlt,p'⟩,fun x H' hy=>hs i σ H hlt p x H' hy⟩
 ·have e:i=n:=by omega
  subst e
  exact .inl (stop σ H p)
theorem c5k(h:Q (.int (if j<i then j else i)) H):b8h [.int i,.int j] H Q:=h
theorem a7t(bs:List Bool):Q6 (bs.map V.bl)=some bs:=by
 induction bs with
 | nil=>rfl
 | cons s r ih=>simp[Q6,ih]
theorem c5m{l:Addr}{bs:List Bool}(hl:H l=some (.lst (bs.map V.bl)))(h:Q (.bl (bs.any id)) H):b3Y [.ref l] H Q:=by
 unfold b3Y
 simp only[hl]
 exact⟨bs,a7t bs,h⟩
theorem c5n{l:Addr}{bs:List Bool}(hl:H l=some (.lst (bs.map V.bl)))(h:Q (.bl (bs.all id)) H):b0P [.ref l] H Q:=by
 unfold b0P
 simp only[hl]
 exact⟨bs,a7t bs,h⟩
theorem a8s{l:Addr}{zs:List V}(hl:H l=some (.lst xs))(hb:H b=some (.lst zs))(hz:xs.length+zs.length<=j6)(h:Q .non (upd H l (.lst (xs++zs)))):a2d (.ref l) [.ref b] H Q:=by
 unfold a2d
 simp only[hl,hb]
 exact⟨hz,h⟩
theorem c5j{l:Addr}(hl:H l=some (.lst (xs++[y])))(h:Q y (upd H l (.lst xs))):b5X (.ref l) [] H Q:=by
 unfold b5X
 simp only[hl]
 refine⟨y,by simp,?_⟩
 simpa using h
theorem b0M(hp:H p=some (.lst ys))(h:∀l H',H l=none->H' l=some (.lst ys)->p9 H H'->Q (.ref l) H'):a3X [.ref p] H Q:=by
 unfold a3X
 simp only[hp]
 exact fun l hl=>h l _ hl d8 (w4 hl)
end
def IL(l:List Nat):List V:=l.map fun(n:Nat)=>V.int (n:Int)
theorem R8(l:List Nat):(IL l).length=l.length:=by simp[IL]
theorem c1I(l:List Nat):(IL l).all J0=true:=by
 rw[A8]
 intro x hx
 obtain⟨s,_,rfl⟩:=u8.mp hx
 rfl
def KS(ks:List Nat):List (Key×V):=ks.map fun(k:Nat)=>(Sum.inl (k:Int),V.bl true)
theorem b9x(ks:List Nat)(k:Nat):(a5J (KS ks) (Sum.inl (k:Int))).isSome=decide (k∈ks):=by
 induction ks with
 | nil=>rfl
 | cons a r ih=>
  by_cases e:a=k
  ·subst e
   rw[show KS (a::r)=(Sum.inl (a:Int),V.bl true)::KS r from rfl,a5G rfl]
   simp
  ·rw[show KS (a::r)=(Sum.inl (a:Int),V.bl true)::KS r from rfl,a5H (by intro z;have:=Sum.inl.inj z;exact e (by omega)),ih]
   have:(k∈a::r)↔k∈r:=by
    rw[g6]
    exact⟨fun h=>h.elim (fun z=>absurd z.symm e) id,.inr⟩
   simp[this]
def a3Z(ks:List Nat)(k:Nat):List Nat:=if k∈ks then ks else ks++[k]
theorem c4u(ks:List Nat)(k:Nat):a1r (KS ks) (Sum.inl (k:Int)) (V.bl true)=KS (a3Z ks k):=by
 unfold a1r a3Z
 rw[a5I,b9x]
 by_cases h:k∈ks
 ·rw[if_pos (c7I h),if_pos h]
  unfold KS
  rw[M7]
  apply V3
  intro a _
  show(if(Sum.inl (a:Int):Key)=Sum.inl (k:Int)then ((Sum.inl (a:Int):Key),V.bl true)else ((Sum.inl (a:Int):Key),V.bl true))=_
  split <;> rfl
 ·rw[if_neg (by simpa using h),if_neg h]
  simp[KS]
theorem Y3{k j:Nat}:j∈a3Z ks k↔j∈ks\/j=k:=by
 unfold a3Z
 split
 ·rename_i h
  exact⟨.inl,fun q=>q.elim id fun z=>z ▸ h⟩
 ·simp
theorem a7J{k:Nat}(h:ks.Nodup):(a3Z ks k).Nodup:=by
 unfold a3Z
 split
 ·exact h
 ·rename_i hk
  rw[a3s]
  exact⟨h,by simp,fun a ha b hb=>by rw[c6.mp hb];intro z;exact hk (z ▸ ha)⟩
theorem c4v(ks:List Nat):(KS ks).length=ks.length:=by simp[KS]
theorem a8B:∀(n:Nat) (ks:List Nat),ks.Nodup->(∀k∈ks,k<n)->ks.length<=n:=by
 intro n
 induction n with
 | zero=>
  intro ks _ h
  cases ks with
  | nil=>exact d5 _
  | cons a r=>exact absurd (h a C2) (a0N _)
 | succ n ih=>
  intro ks nd h
  by_cases hn:n∈ks
  ·have:=ih (ks.erase n) (nd.erase n) fun k hk=>by
    have h1:=(List.Nodup.mem_erase_iff nd).mp hk
    have:=h k h1.2
    have:=h1.1
    omega
   rw[a3A hn]at this
   omega
  ·have:=ih ks nd fun k hk=>by
    have:=h k hk
    have:k≠n:=fun z=>hn (z ▸ hk)
    omega
   omega
theorem a4D(h:H d=some (.dK (KS ks)))(k:Nat):∃o,a9A H d (.int (k:Int)) o/\o.isSome=decide (k∈ks):=⟨_,a9A.k (k:=Sum.inl (k:Int)) h,b9x ks k⟩
theorem b1o(h:H d=some (.dK (KS ks)))(hl:ks.length<100000)(k:Nat):a8V H d (.int (k:Int)) (.bl true) (upd H d (.dK (KS (a3Z ks k)))):=by
 rw[<-c4u]
 exact a8V.k (k:=Sum.inl (k:Int)) h (F6 (by rw[c4v];exact hl))
end RD
namespace RD
variable{C a b c d dx na p ra:Addr}{H H' H0 H1:Hp}{o:HO}{xs ys:List V}{i m n:Nat}{D:Nat->Option (List Key)}{σ:St}{ta te:TE}{tt:TT}{Q:VK}{v:V}{s z:Str}{ks l:List Nat}{ss:List Str}{QD:Hp->Prop}{R:It->Hp->Prop}{M N:Nt}{ns:List Int}{as ps rs:List Addr}{RC:Nat->List V}
theorem b8O:∀(l m:List Nat),l.Nodup->(∀x∈l,x∈m)->l.length<=m.length
 | [],_,_,_=>F5 _
 | a::r,m,nd,h=>by
  have ha:=h a C2
  have:=b8O r (m.erase a) (S0.mp nd).2 fun x hx=>(b7d (show x≠a from fun z=>(S0.mp nd).1 (z ▸ hx))).mpr (h x (C6 _ hx))
  rw[a3A ha]at this
  have:=a4H ha
  rw[v7]
  omega
inductive Gd(N:Nt):Nat->Prop
 | stop {k:Nat}:N[k]? = some []->Gd N k
 | step {k t:Nat} {l:List Nat}:N[k]? = some l->t∈l->Gd N t->Gd N k
inductive Rc(N:Nt):Nat->Prop
 | zero:Rc N 0
 | step {k t:Nat} {l:List Nat}:Rc N k->N[k]? = some l->t∈l->Rc N t
structure a2J(N:Nt):Prop where
 pos:0<N.length
 le:N.length<=400
 two:∀l∈N,l.length<=2
 lt:∀l∈N,∀t∈l,t<N.length
 rc:∀k,k<N.length->Rc N k
 gd:∀k,k<N.length->Gd N k
def a2e(N:Nt)(G:List Nat):List (List Nat):=(A0 N.length).map fun k=>if k∈G then N.getD k [] else (N.length - 1)::(N.getD k []).drop 1
theorem a9V(N:Nt)(G:List Nat):(a2e N G).length=N.length:=by simp[a2e]
theorem a8D{G:List Nat}{k:Nat}(h:k<N.length):(a2e N G)[k]? = some (if k∈G then N.getD k [] else (N.length - 1)::(N.getD k []).drop 1):=by
 unfold a2e
 rw[b7,a1U h]
 rfl
theorem a6c{G:List Nat}{k:Nat}(h:N[k]? = some l)(hk:k∈G):(a2e N G)[k]? = some l:=by
 have hl:=(l7.mp h).1
 rw[a8D hl,if_pos hk]
 simp[L0,h]
theorem a9U{G:List Nat}{k:Nat}(h:N[k]? = some l)(hk:¬k∈G):(a2e N G)[k]? = some ((N.length - 1)::l.drop 1):=by
 have hl:=(l7.mp h).1
 rw[a8D hl,if_neg hk]
 simp[L0,h]
theorem c1u{G:List Nat}(hG:∀k∈G,Gd N k)(hl:N[N.length - 1]? = some [])(hm:N.length - 1∈G):∀k,k<N.length->Gd (a2e N G) k:=by
 have last:Gd (a2e N G) (N.length - 1):=.stop (a6c hl hm)
 have out:∀k,k<N.length->¬k∈G->Gd (a2e N G) k:=fun k hk h=>.step (a9U (l:=N[k]) (by simp) h) C2 last
 have go:∀k,Gd N k->Gd (a2e N G) k:=by
  intro k h
  induction h with
  | @stop k h=>
   by_cases hk:k∈G
   ·exact .stop (a6c h hk)
   ·exact out k (l7.mp h).1 hk
  | @step k t l h ht _ ih=>
   by_cases hk:k∈G
   ·exact .step (a6c h hk) ht ih
   ·exact out k (l7.mp h).1 hk
 intro k hk
 by_cases h:k∈G
 ·exact go k (hG k h)
 ·exact out k hk h
theorem b2H{G:List Nat}(hp:0<N.length)(hs:∀l∈N,l.length<=2/\∀t∈l,t<N.length)(hl:N[N.length - 1]? = some [])(hm:N.length - 1∈G):∀l∈a2e N G,l.length<=2/\∀t∈l,t<N.length:=by
 intro l hl'
 obtain⟨k,hk⟩:=F1.mp hl'
 have hkl:k<N.length:=by have:=(l7.mp hk).1;rwa [a9V]at this
 rw[a8D hkl]at hk
 have e:N.getD k []=N[k]:=by simp[L0,hkl]
 rw[e]at hk
 obtain⟨h1,h2⟩:=hs N[k] (z7 _)
 by_cases hg:k∈G
 ·rw[if_pos hg]at hk
  cases hk
  exact⟨h1,h2⟩
 ·rw[if_neg hg]at hk
  cases hk
  refine⟨?_,fun t ht=>?_⟩
  ·rw[v7,a9e];omega
  ·rcases g6.mp ht with z | z
   ·omega
   ·exact h2 t (List.drop_subset _ _ z)
def a5c(N:Nt)(O:List Nat):List (List Nat):=O.map fun k=>(N.getD k []).map fun t=>O.idxOf t
theorem b8Y{O:List Nat}{t:Nat}(h:t∈O):O.idxOf t<O.length:=b3n.mpr h
theorem b0t{O:List Nat}{k:Nat}(hk:k∈O)(h:N[k]? = some l):(a5c N O)[O.idxOf k]? = some (l.map fun t=>O.idxOf t):=by
 unfold a5c
 have:O[O.idxOf k]? = some k:=by
  rw[g9 (b8Y hk)]
  simp
 rw[b7,this]
 simp[L0,h]
theorem b4x{O:List Nat}(h0:0∈O)(hs:O.Pairwise (· <= ·)):O.idxOf 0=0:=by
 cases O with
 | nil=>cases h0
 | cons a r=>
  have:a=0:=by
   rcases g6.mp h0 with z | z
   ·exact z.symm
   ·have:=(b9J.mp hs).1 0 z
    omega
  subst this
  simp
theorem b5G{O:List Nat}(h0:0∈O)(hs:O.Pairwise (· <= ·))(hnd:O.Nodup)(hlt:∀k∈O,k<N.length)(hN:N.length<=400)(hcl:∀k∈O,∀l,N[k]? = some l->∀t∈l,t∈O)(hrc:∀k∈O,Rc N k)
  (hsm:∀l∈N,l.length<=2) (hgd:∀k,k<N.length->Gd N k):a2J (a5c N O):=by
 have hlen:(a5c N O).length=O.length:=by simp[a5c]
 have rc:∀k,Rc N k->k∈O/\Rc (a5c N O) (O.idxOf k):=by
  intro k h
  induction h with
  | zero=>
   refine⟨h0,?_⟩
   rw[b4x h0 hs]
   exact .zero
  | @step k t l _ hl ht ih=>
   obtain⟨i1,i2⟩:=ih
   exact⟨hcl k i1 l hl t ht,.step i2 (b0t i1 hl) (u8.mpr ⟨t,ht,rfl⟩)⟩
 have gd:∀k,Gd N k->k∈O->Gd (a5c N O) (O.idxOf k):=by
  intro k h
  induction h with
  | @stop k h=>
   intro hk
   exact .stop (by rw[b0t hk h];rfl)
  | @step k t l h ht _ ih=>
   intro hk
   exact .step (b0t hk h) (u8.mpr ⟨t,ht,rfl⟩) (ih (hcl k hk l h t ht))
 have at_:∀i,i<O.length->∃k∈O,O.idxOf k=i:=fun i hi=>⟨O[i],z7 _,hnd.idxOf_getElem i hi⟩
 have mem:∀l∈a5c N O,∃k∈O,∃l',N[k]? = some l'/\l=l'.map fun t=>O.idxOf t:=by
  intro l hl
  obtain⟨k,hk,rfl⟩:=u8.mp hl
  refine⟨k,hk,N[k]'(hlt k hk),by simp[hlt k hk],?_⟩
  simp[L0,hlt k hk]
 refine⟨?_,?_,fun l hl=>?_,fun l hl t ht=>?_,fun i hi=>?_,fun i hi=>?_⟩
 ·rw[hlen]
  exact a4H h0
 ·rw[hlen]
  exact E3 (a8B _ _ hnd hlt) hN
 ·obtain⟨k,hk,l',e,rfl⟩:=mem l hl
  rw[a8]
  exact hsm l' (N9 e)
 ·obtain⟨k,hk,l',e,rfl⟩:=mem l hl
  obtain⟨t',ht',rfl⟩:=u8.mp ht
  rw[hlen]
  exact b8Y (hcl k hk l' e t' ht')
 ·rw[hlen]at hi
  obtain⟨k,hk,rfl⟩:=at_ i hi
  exact(rc k (hrc k hk)).2
 ·rw[hlen]at hi
  obtain⟨k,hk,rfl⟩:=at_ i hi
  exact gd k (hgd k (hlt k hk)) hk
end RD
namespace RD
open PySem PySem.Spec PyProof.Rows L2
variable{C a b c d dx na p ra:Addr}{H H' H0 H1:Hp}{o:HO}{xs ys:List V}{i m n:Nat}{D:Nat->Option (List Key)}{σ:L2.St}{ta te:TE}{tt:TT}{Q:VK}{v:V}{s z:Str}{ks l:List Nat}{ss:List Str}{QD:Hp->Prop}{R:It->Hp->Prop}{M N:Nt}{ns:List Int}{as ps rs:List Addr}{RC:Nat->List V}
structure Cn where
 F2:Addr
 a3t:Addr
 a0M:Addr
structure a7e(K:Fg)(c:Cn):Prop where
 Y6:Cls K c.F2
 a0j:a1P K c.F2 "entries"
 a0e:a1P K c.F2 "nexts"
 a0L:a1P K c.F2 "rows"
 b1G:∀H,SqT K H c.a3t [.str "plus",.str "minus",.str "times",.str "less",.str "same"]
 a6r:∀H,SqT K H c.a0M [.int (-1),.int (0)]
def spD(n m:Nat)(t:TS):Sp:=fun vs H Q _=>vs.length=n/\t { nx:=fun _ H'=>Q .non H',rt:=Q } (vs.map some++z4 (m - vs.length) none) H
def c1X(K:Fg):TS:=I0 (P3 (b4 (tC (.int 0)) (b4 (tC (.int 1234567891)) (b4 (tC (.int 0)) (b4 (V9 (W0 K (tSl (c2M K) (b8 0) a2R (a8d (tC (.int 63))))) U2 (tCB b8i (b4 (b8 0) g7))) g7)))))
def b0x(K:Fg):Sp:=spD 1 1 (c1X K)
def b7D(K:Fg):TS:=u7 (K9 (C0 (tOp qEq (tOp qIx (b8 0) (tC (.int 0))) (tC (.int 0)))) (u7 (D5 (tC (.int 12345)) (o9 2)) (u7 (K9 (C0 (tOp qLt (tOp qIx (b8 0) (tC (.int 2))) (tCB X2 (b4 (tOp qIx (b8 0) (tC (.int 3))) g7)))) (u7 (D5 (tOp qIx (tOp qIx (b8 0) (tC (.int 3))) (tOp qIx (b8 0) (tC (.int 2)))) (o9 3)) (u7 (b4O (b8 0) (tC (.int 2)) (tC (.int 1)) b5Y (ipI fun i j=>i+j) b0N) (u7 (K9 (C0 (tOp qGe (b8 3) (tC (.int 1000000000000000000)))) (D5 (b8 3) (b6B (b8 0) (tC (.int 0)) b0N)) C8) (D5 (tOp a0V (tOp a7x (b8 3) (tC (.int 2147483647))) (tC (.int 1))) (o9 2))))) C8) (D5 (tOp a7x (tOp a0V (tOp b2r (tOp qIx (b8 0) (tC (.int 1))) (tC (.int 48271))) (b8 2)) (tC (.int 2147483647))) (b6B (b8 0) (tC (.int 1)) b0N)))) C8) (u7 (K9 (C0 (tOp qGt (tOp qIx (b8 0) (tC (.int 0))) (tC (.int 0)))) (u7 (D5 (tOp a7x (tOp qIx (b8 0) (tC (.int 0))) (b8 1)) (o9 4)) (u7 (D5 (tOp c0k (tOp qIx (b8 0) (tC (.int 0))) (b8 1)) (b6B (b8 0) (tC (.int 0)) b0N)) (I0 (b8 4)))) C8) (u7 (D5 (tOp a7x (tOp b2r (tOp qIx (b8 0) (tC (.int 1))) (tC (.int 39373))) (tC (.int 1000000007))) (o9 5)) (u7 (D5 (tOp a7x (tOp b2r (b8 5) (tC (.int 30011))) (tC (.int 998244353))) (o9 6)) (u7 (K9 (C0 (tOp qGt (b8 1) (tC (.int 1000000)))) (I0 (tOp a7x (tOp a0V (tOp b2r (b8 6) (tC (.int 1000000000))) (b8 5)) (b8 1))) C8) (I0 (tOp a7x (tOp c0k (b8 6) (tC (.int 3))) (b8 1)))))))
def C5(K:Fg):Sp:=spD 2 7 (b7D K)
def a6A(K:Fg):TS:=I0 (tIf (C0 (tOp qEq (tOp qIx (b8 0) (tC (.int 0))) (tC (.str "set")))) (tOp qIx (b8 0) (tC (.int 2))) (tC .non))
def a1J(K:Fg):Sp:=spD 1 1 (a6A K)
def a5O(K:Fg):TS:=u7 (D5 b3D (o9 1)) (u7 (a1o (W0 K (b2a K (b8 0) "rows")) (o9 2) (u7 (D5 (u0 (a1J K) [] E0 (b4 (b8 2) g7)) (o9 3)) (K9 (C0 (tOp b0O (b8 3) (tC .non))) (a3U (b8 1) (b8 3) (tC (.bl true))) C8))) (I0 (tCB b3X (b4 (b8 1) g7))))
def W7(K:Fg):Sp:=spD 1 4 (a5O K)
def a4S(K:Fg):TS:=u7 (D5 (tOp qIx (b8 0) (tC (.int 0))) (o9 1)) (u7 (K9 (C0 (tOp qEq (b8 1) (tC (.str "set")))) (I0 (P3 (b4 (tOp qIx (tOp qIx (b8 0) (tC (.int 2))) (tC (.int 1))) (b4 (tOp qIx (tOp qIx (b8 0) (tC (.int 2))) (tC (.int 2))) g7)))) C8) (u7 (K9 (C0 (tOp qEq (b8 1) (tC (.str "copy")))) (I0 (P3 (b4 (tOp qIx (b8 0) (tC (.int 2))) g7))) C8) (u7 (K9 (C0 (tOp (qIn false) (b8 1) (a1S (b4 (tC (.str "tell")) (b4 (tC (.str "ask")) g7))))) (I0 (P3 (b4 (tOp qIx (b8 0) (tC (.int 1))) g7))) C8) (I0 (P3 g7)))))
def a0v(K:Fg):Sp:=spD 1 2 (a4S K)
def a8a(K:Fg):TS:=u7 (D5 (P3 g7) (o9 1)) (u7 (a1o (W0 K (u0 (a0v K) [] E0 (b4 (b8 0) g7))) (o9 2) (K9 (b0s (tB (tCB a3Y (b4 (b8 2) (b4 (tC (.ty "str")) g7)))) (C0 (tOp (qIn true) (b8 2) (b8 1)))) (a0t (tBM K "list" Z3 (b8 1) (b4 (b8 2) g7))) C8)) (I0 (b8 1)))
def a1Z(K:Fg):Sp:=spD 1 3 (a8a K)
def b1W(K:Fg):TS:=I0 (tIf (C0 (tOp (qIn false) (tOp qIx (b8 0) (tC (.int 0))) (a1S (b4 (tC (.str "set")) (b4 (tC (.str "copy")) (b4 (tC (.str "take")) g7)))))) (tOp qIx (b8 0) (tC (.int 1))) (tC .non))
def a2F(K:Fg):Sp:=spD 1 1 (b1W K)
def a5N(K:Fg):TS:=u7 (D5 (P3 g7) (o9 1)) (u7 (a1o (W0 K (b2a K (b8 0) "rows")) (o9 2) (u7 (a0t (tBM K "list" a2d (b8 1) (b4 (u0 (a1Z K) [] E0 (b4 (b8 2) g7)) g7))) (K9 (C0 (tOp b0O (u0 (a2F K) [] E0 (b4 (b8 2) g7)) (tC .non))) (a0t (tBM K "list" Z3 (b8 1) (b4 (u0 (a2F K) [] E0 (b4 (b8 2) g7)) g7))) C8))) (I0 (tSS (b8 1))))
def W3(K:Fg):Sp:=spD 1 3 (a5N K)
def a3N(K:Fg):TS:=u7 (K9 (tOr (a5P (tB (tCB a3Y (b4 (b8 0) (b4 (tC (.ty "list")) g7))))) (C0 (tOp qLt (tCB X2 (b4 (b8 0) g7)) (b8 2)))) (fun _ _ _=>False) C8) (K9 (C0 (tOp qGt (tCB X2 (b4 (b8 0) g7)) (tC (.int 400)))) (fun _ _ _=>False) C8)
def a0g(K:Fg):Sp:=spD 3 3 (a3N K)
def a6z(K:Fg):TS:=u7 (K9 (tOr (a5P (tB (tCB a3Y (b4 (b8 0) (b4 (tC (.ty "str")) g7))))) (a5P (C0 (a3O qLe qLe (tC (.int 1)) (tCB X2 (b4 (b8 0) g7)) (tC (.int 8)))))) (I0 (tC (.bl false))) C8) (I0 (a0u (tOp (qIn false) (tOp qIx (b8 0) (tC (.int 0))) (tC (.str "abcdefghijklmnopqrstuvwxyz"))) (tCB b0P (b4 (V9 (c1r (b8 0)) U2 (tOp (qIn false) (b8 0) (tOp a0V (tC (.str "abcdefghijklmnopqrstuvwxyz")) (tC (.str "0123456789"))))) g7))))
def V1(K:Fg):Sp:=spD 1 1 (a6z K)
def b3B(K:Fg):TS:=I0 (a0u (tCB a3Y (b4 (b8 0) (b4 (tC (.ty "int")) g7))) (b1Z (tCB a3Y (b4 (b8 0) (b4 (tC (.ty "bool")) g7)))))
def a1f(K:Fg):Sp:=spD 1 1 (b3B K)
def a8b(K:Fg):TS:=I0 (a0u (u0 (a1f K) [] E0 (b4 (b8 0) g7)) (a3O qLe qLt (tC (.int 0)) (b8 0) (tC (.int 1000000000000))))
def a2a(K:Fg):Sp:=spD 1 1 (a8b K)
def a5K(K:Fg):TS:=I0 (b9V (u0 (V1 K) [] E0 (b4 (b8 0) g7)) (u0 (a2a K) [] E0 (b4 (b8 0) g7)))
def R6(K:Fg):Sp:=spD 1 1 (a5K K)
def a9I(K:Fg)(c:Cn):TS:=u7 (K9 (tOr (a5P (tB (tCB a3Y (b4 (b8 0) (b4 (tC (.ty "tuple")) g7))))) (C0 (tOp qNe (tCB X2 (b4 (b8 0) g7)) (tC (.int 3))))) (I0 (tC (.bl false))) C8) (I0 (a0u (tOp (c2X K) (tOp qIx (b8 0) (tC (.int 0))) (tC (.ref c.a3t))) (a0u (u0 (R6 K) [] E0 (b4 (tOp qIx (b8 0) (tC (.int 1))) g7)) (u0 (R6 K) [] E0 (b4 (tOp qIx (b8 0) (tC (.int 2))) g7)))))
def a2U(K:Fg)(c:Cn):Sp:=spD 1 1 (a9I K c)
def b1Y(K:Fg)(c:Cn):TS:=u7 (K9 (tOr (a5P (tB (tCB a3Y (b4 (b8 0) (b4 (tC (.ty "tuple")) g7))))) (C0 (tOp qEq (tCB X2 (b4 (b8 0) g7)) (tC (.int 0))))) (I0 (tC (.bl false))) C8) (u7 (D5 (tOp qIx (b8 0) (tC (.int 0))) (o9 1)) (u7 (D5 (tSl qSl (b8 0) (a8d (tC (.int 1))) a2R) (o9 2)) (u7 (K9 (C0 (tOp qEq (b8 1) (tC (.str "set")))) (I0 (a0u (tOp qEq (tCB X2 (b4 (b8 2) g7)) (tC (.int 2))) (a0u (u0 (V1 K) [] E0 (b4 (tOp qIx (b8 2) (tC (.int 0))) g7)) (u0 (a2U K c) [] E0 (b4 (tOp qIx (b8 2) (tC (.int 1))) g7))))) C8) (u7 (K9 (C0 (tOp qEq (b8 1) (tC (.str "copy")))) (I0 (a0u (tOp qEq (tCB X2 (b4 (b8 2) g7)) (tC (.int 2))) (a0u (u0 (V1 K) [] E0 (b4 (tOp qIx (b8 2) (tC (.int 0))) g7)) (u0 (R6 K) [] E0 (b4 (tOp qIx (b8 2) (tC (.int 1))) g7))))) C8) (u7 (K9 (C0 (tOp qEq (b8 1) (tC (.str "take")))) (I0 (a0u (tOp qEq (tCB X2 (b4 (b8 2) g7)) (tC (.int 1))) (u0 (V1 K) [] E0 (b4 (tOp qIx (b8 2) (tC (.int 0))) g7)))) C8) (u7 (K9 (C0 (tOp (qIn false) (b8 1) (a1S (b4 (tC (.str "tell")) (b4 (tC (.str "ask")) g7))))) (I0 (a0u (tOp qEq (tCB X2 (b4 (b8 2) g7)) (tC (.int 1))) (u0 (R6 K) [] E0 (b4 (tOp qIx (b8 2) (tC (.int 0))) g7)))) C8) (I0 (a0u (tOp qEq (b8 1) (tC (.str "skip"))) (tOp qEq (tCB X2 (b4 (b8 2) g7)) (tC (.int 0)))))))))))
def a4w(K:Fg)(c:Cn):Sp:=spD 1 3 (b1Y K c)
def a5M(K:Fg):TS:=a1o (a8G K (b4 (b8 0) g7)) (b1l K 2 (a1m (o9 1) (a1m (o9 2) (b1m)))) (K9 (a5P (tB (b8 2))) (fun _ _ _=>False) C8)
def a0b(K:Fg):Sp:=spD 1 3 (a5M K)
def a8c(K:Fg):TS:=I0 (a0u (u0 (a1f K) [] E0 (b4 (b8 0) g7)) (a3O qLe qLt (tC (.int 0)) (b8 0) (b8 1)))
def a2b(K:Fg):Sp:=spD 2 2 (a8c K)
def a7m(K:Fg):TS:=u7 (K9 (a5P (tB (tCB a3Y (b4 (b8 1) (b4 (tC (.ty "list")) g7))))) (I0 (tC (.bl false))) C8) (u7 (D5 (tIf (C0 (tOp qEq (tOp qIx (b8 0) (tC (.int 0))) (tC (.str "ask")))) (a1S (b4 (tC (.int 2)) g7)) (a1S (b4 (tC (.int 0)) (b4 (tC (.int 1)) g7)))) (o9 3)) (I0 (a0u (tOp (qIn false) (tCB X2 (b4 (b8 1) g7)) (b8 3)) (tCB b0P (b4 (V9 (W0 K (b8 1)) U2 (u0 (a2b K) [] E0 (b4 (b8 0) (b4 (b8 3) g7)))) g7)))))
def a1p(K:Fg):Sp:=spD 3 4 (a7m K)
def a4T(K:Fg):TS:=u7 (K9 (tOr (a5P (tB (tCB a3Y (b4 (b8 1) (b4 (tC (.ty "list")) g7))))) (C0 (tOp qNe (tCB X2 (b4 (b8 1) g7)) (tCB X2 (b4 (b8 0) g7))))) (fun _ _ _=>False) C8) (a0t (u0 (a0b K) [] E0 (b4 (a8e K (c1q K (b4 (b8 0) (b4 (b8 1) g7))) U2 (u0 (a1p K) [] E0 (b4 (b8 0) (b4 (b8 1) (b4 (tCB X2 (b4 (b8 2) g7)) g7))))) g7)))
def a0w(K:Fg):Sp:=spD 2 2 (a4T K)
def a9G(K:Fg):TS:=u7 (D5 a6B (o9 2)) (u7 (D5 (tCB a3X (b4 (b8 0) g7)) (o9 3)) (u7 (b0q (C0 (tOp qGt (tCB X2 (b4 (b8 3) g7)) (tC (.int 0)))) (u7 (D5 (b9W K "list" b5X (b8 3)) (o9 4)) (K9 (tB (a4t (b8 4) (b8 2))) (u7 (a3U (b8 2) (b8 4) (tC (.bl true))) (a0t (tBM K "list" a2d (b8 3) (b4 (tOp qIx (b8 1) (b8 4)) g7)))) C8))) (I0 (b8 2))))
def a1I(K:Fg):Sp:=spD 2 5 (a9G K)
def b1V(K:Fg):TS:=u7 (fun D σ H=>(V9 (W0 K (b8 0)) U2 (P3 g7)) σ H fun v H1=>D.nx (σ.set 1 (some v)) H1) (u7 (a1o (a8G K (b4 (b8 0) g7)) (b1l K 2 (a1m (o9 2) (a1m (o9 3) (b1m)))) (a1o (W0 K (b8 3)) (o9 4) (a0t (tBM K "list" Z3 (tOp qIx (b8 1) (b8 4)) (b4 (b8 2) g7))))) (I0 (b8 1)))
def a4u(K:Fg):Sp:=spD 1 5 (b1V K)
def a7Y(K:Fg):TS:=I0 (a8e K (a8G K (b4 (b8 0) g7)) (C0 (tOp qEq (tCB X2 (b4 (b8 1) g7)) (tC (.int 0)))) (b8 0))
def a1X(K:Fg):Sp:=spD 1 1 (a7Y K)
def a5L(K:Fg):TS:=u7 (D5 (u0 (a1I K) [] E0 (b4 (P3 (b4 (tC (.int 0)) g7)) (b4 (b8 0) g7))) (o9 1)) (u7 (D5 (u0 (a1I K) [] E0 (b4 (u0 (a1X K) [] E0 (b4 (b8 0) g7)) (b4 (u0 (a4u K) [] E0 (b4 (b8 0) g7)) g7))) (o9 2)) (a1o (a0S (b4 (tCB X2 (b4 (b8 0) g7)) g7)) (o9 3) (K9 (tOr (tB (a4t (b8 3) (b8 1))) (tB (a4t (b8 3) (b8 2)))) (fun _ _ _=>False) C8)))
def a0Z(K:Fg):Sp:=spD 1 4 (a5L K)
def a7Z(K:Fg)(c:Cn):TS:=u7 (D5 (P3 (b4 (tC (.ref c.a0M)) g7)) (o9 1)) (u7 (a1o (a8G K (b4 (b8 0) g7)) (b1l K 2 (a1m (o9 2) (a1m (o9 3) (b1m)))) (a0t (tBM K "list" a2d (b8 1) (b4 (V9 (a0S (b4 (tCB X2 (b4 (b8 3) g7)) g7)) U2 (a1S (b4 (b8 3) (b4 (b8 0) g7)))) g7)))) (I0 (b8 1)))
def a1Y(K:Fg)(c:Cn):Sp:=spD 1 4 (a7Z K c)
def a3u(K:Fg)(c:Cn):TS:=u7 (K9 (C0 (tOp (c2Y K) (b8 1) (tC (.ref c.a0M)))) (I0 (tC (.int 0))) C8) (I0 (tOp qIx (tOp qIx (b2a K (b8 0) "nexts") (tOp qIx (b8 1) (tC (.int 0)))) (tOp qIx (b8 1) (tC (.int 1)))))
def Z2(K:Fg)(c:Cn):Sp:=spD 2 2 (a3u K c)
def a7o(K:Fg)(c:Cn):TS:=u7 (a0t (u0 (a0g K) [] E0 (b4 (b8 1) (b4 (tC (.int 0)) (b4 (tC (.int 1)) g7))))) (u7 (a0t (u0 (a0b K) [] E0 (b4 (V9 (W0 K (b8 1)) U2 (u0 (a4w K c) [] E0 (b4 (b8 0) g7))) g7))) (u7 (a0t (u0 (a0w K) [] E0 (b4 (b8 1) (b4 (b8 2) g7)))) (u7 (a0t (u0 (a0Z K) [] E0 (b4 (b8 2) g7))) (u7 (b5V K (b8 0) (tCB a3X (b4 (b8 1) g7)) "rows") (u7 (b5V K (b8 0) (V9 (W0 K (b8 2)) U2 (tCB a3X (b4 (b8 0) g7))) "nexts") (u7 (b5V K (b8 0) (V9 (W0 K (b8 1)) U2 (P3 g7)) "entries") (a1o (W0 K (u0 (a1Y K c) [] E0 (b4 (b2a K (b8 0) "nexts") g7))) (o9 3) (a0t (tBM K "list" Z3 (tOp qIx (b2a K (b8 0) "entries") (a1W c.F2 "leads_to" (Z2 K c) [] E0 (b8 0) (b4 (b8 3) g7))) (b4 (b8 3) g7))))))))))
def Q3(K:Fg)(c:Cn):Sp:=spD 3 4 (a7o K c)
def b7F(K:Fg)(c:Cn):TS:=u7 (fun D σ H=>(V9 (a0S (b4 (tC (.int 400)) g7)) U2 (a1S (b4 (tC (.str "set")) (b4 (tC (.str "x")) (b4 (a1S (b4 (tC (.str "plus")) (b4 (tC (.str "y")) (b4 (b8 0) g7)))) g7))))) σ H fun v H1=>D.nx (σ.set 0 (some v)) H1) (u7 (D5 (a5Q c.F2 (Q3 K c) [] E0 (b4 (b8 0) (b4 (tOp a0V (V9 (a0S (b4 (tC (.int 399)) g7)) U2 (P3 (b4 (tOp a0V (b8 0) (tC (.int 1))) g7))) (P3 (b4 (P3 g7) g7))) g7))) (o9 1)) (I0 (a0u (tOp (b5Z K) (a1W c.F2 "deeds" (W7 K) [] E0 (b8 1) g7) (V9 (W0 K (b8 0)) U2 (tOp qIx (b8 0) (tC (.int 2))))) (tOp (b5Z K) (a1W c.F2 "names" (W3 K) [] E0 (b8 1) g7) (P3 (b4 (tC (.str "x")) (b4 (tC (.str "y")) g7)))))))
def a7F(K:Fg)(c:Cn):Sp:=spD 0 2 (b7F K c)
def c1W(K:Fg):TS:=u7 (D5 (P3 g7) (o9 2)) (u7 (a1o (a0S (b4 (b8 1) g7)) (o9 3) (u7 (D5 (tCB b8h (b4 (tOp a0V (b8 3) (tC (.int 1))) (b4 (tOp b3V (b8 1) (tC (.int 1))) g7))) (o9 4)) (u7 (D5 (P3 (b4 (b8 4) (b4 (u0 (C5 K) [] E0 (b4 (b8 0) (b4 (b8 1) g7))) g7))) (o9 5)) (u7 (D5 (u0 (C5 K) [] E0 (b4 (b8 0) (b4 (tC (.int 8)) g7))) (o9 6)) (u7 (K9 (C0 (tOp qLt (b8 6) (tC (.int 3)))) (D5 (P3 (b4 (tOp qIx (b8 5) (tC (.int 1))) (b4 (b8 4) g7))) (o9 5)) C8) (u7 (K9 (C0 (tOp qEq (b8 6) (tC (.int 3)))) (D5 (P3 (b4 (tOp qIx (b8 5) (tC (.int 1))) (b4 (u0 (C5 K) [] E0 (b4 (b8 0) (b4 (b8 1) g7))) g7))) (o9 5)) C8) (u7 (K9 (tOr (b0s (C0 (tOp qGt (b8 6) (tC (.int 3)))) (C0 (tOp qLt (b8 6) (tC (.int 7))))) (C0 (tOp qEq (b8 1) (tC (.int 1))))) (D5 (P3 (b4 (b8 4) g7)) (o9 5)) C8) (u7 (K9 (b0s (C0 (tOp qEq (b8 6) (tC (.int 7)))) (C0 (tOp qGt (b8 1) (tC (.int 1))))) (D5 (P3 (b4 (tOp qIx (b8 5) (tC (.int 1))) g7)) (o9 5)) C8) (u7 (K9 (tOr (C0 (tOp qEq (b8 3) (tOp b3V (b8 1) (tC (.int 1))))) (b0s (C0 (tOp qEq (b8 6) (tC (.int 6)))) (C0 (tOp qEq (u0 (C5 K) [] E0 (b4 (b8 0) (b4 (tC (.int 4)) g7))) (tC (.int 0)))))) (D5 (P3 g7) (o9 5)) C8) (a0t (tBM K "list" Z3 (b8 2) (b4 (b8 5) g7)))))))))))) (I0 (b8 2)))
def b0w(K:Fg):Sp:=spD 2 7 (c1W K)
def b1X(K:Fg):TS:=u7 (D5 a6B (o9 1)) (u7 (a1o (a0S (b4 (tCB X2 (b4 (b8 0) g7)) g7)) (o9 2) (a1o (a0S (b4 (tCB X2 (b4 (b8 0) g7)) g7)) (o9 3) (K9 (tOr (C0 (tOp qEq (tOp qIx (b8 0) (b8 3)) (P3 g7))) (tB (tCB b3Y (b4 (V9 (W0 K (tOp qIx (b8 0) (b8 3))) U2 (b0r (b8 0) (b8 2))) g7)))) (a3U (b8 1) (b8 3) (tC (.bl true))) C8))) (u7 (D5 (V9 (a0S (b4 (tCB X2 (b4 (b8 0) g7)) g7)) U2 (tIf (tB (b0r (b8 0) (b8 2))) (tOp qIx (b8 1) (b8 0)) (tOp a0V (P3 (b4 (tOp b3V (tCB X2 (b4 (b8 1) g7)) (tC (.int 1))) g7)) (tSl qSl (tOp qIx (b8 1) (b8 0)) (a8d (tC (.int 1))) a2R)))) (o9 0)) (u7 (D5 (b7I ((tC (.int 0),tC (.bl true))::[])) (o9 4)) (u7 (a1o (a0S (b4 (tCB X2 (b4 (b8 0) g7)) g7)) (o9 2) (a1o (a0S (b4 (tCB X2 (b4 (b8 0) g7)) g7)) (o9 3) (K9 (tB (b0r (b8 3) (b8 4))) (a1o (W0 K (tOp qIx (b8 0) (b8 3))) (o9 5) (a3U (b8 4) (b8 5) (tC (.bl true)))) C8))) (u7 (D5 (tCB a4z (b4 (tCB a6K (b4 (b8 4) g7)) g7)) (o9 6)) (I0 (V9 (W0 K (b8 6)) U2 (V9 (W0 K (tOp qIx (b8 1) (b8 0))) U2 (tBM K "list" a6L (b8 8) (b4 (b8 0) g7))))))))))
def a4v(K:Fg):Sp:=spD 1 7 (b1X K)
def b7E(K:Fg):TS:=u7 (D5 (tC (.str "abcdefghijklmnopqrstuvwxyz")) (o9 1)) (u7 (D5 (tOp a0V (b8 1) (tC (.str "0123456789"))) (o9 2)) (I0 (tOp a0V (tOp qIx (b8 1) (u0 (C5 K) [] E0 (b4 (b8 0) (b4 (tC (.int 26)) g7)))) (tBM K "str" a9R (tC (.str "")) (b4 (V9 (a0S (b4 (u0 (C5 K) [] E0 (b4 (b8 0) (b4 (tC (.int 8)) g7))) g7)) U2 (tOp qIx (b8 3) (u0 (C5 K) [] E0 (b4 (b8 1) (b4 (tC (.int 36)) g7))))) g7)))))
def a7E(K:Fg):Sp:=spD 1 3 (b7E K)
def b4K(K:Fg):TS:=u7 (D5 (P3 (b4 (tC (.str "a")) (b4 (tC (.str "k0")) (b4 (tC (.str "ab")) (b4 (tC (.str "set")) (b4 (tC (.str "abc")) (b4 (tC (.str "k1")) (b4 (tC (.str "abcdefgh")) (b4 (tC (.str "b")) g7))))))))) (o9 1)) (u7 (D5 (tOp a0V (b8 1) (P3 (b4 (tC (.str "ask")) (b4 (tC (.str "x9")) (b4 (tC (.str "a1")) (b4 (tC (.str "abcdefg")) (b4 (tC (.str "plus")) (b4 (tC (.str "ba")) (b4 (tC (.str "k10")) (b4 (tC (.str "z")) g7)))))))))) (o9 1)) (u7 (D5 (u0 (C5 K) [] E0 (b4 (b8 0) (b4 (tC (.int 16)) g7))) (o9 2)) (u7 (D5 (tOp a0V (tC (.int 1)) (tOp b2r (tC (.int 2)) (u0 (C5 K) [] E0 (b4 (b8 0) (b4 (tC (.int 8)) g7))))) (o9 3)) (u7 (D5 (P3 g7) (o9 4)) (u7 (a1o (a0S (b4 (tOp a0V (tC (.int 2)) (u0 (C5 K) [] E0 (b4 (b8 0) (b4 (tC (.int 3)) g7)))) g7)) (o9 5) (u7 (D5 (tOp qIx (b8 1) (tOp a7x (tOp a0V (b8 2) (tOp b2r (b8 5) (b8 3))) (tC (.int 16)))) (o9 6)) (u7 (K9 (C0 (tOp qEq (u0 (C5 K) [] E0 (b4 (b8 0) (b4 (tC (.int 3)) g7))) (tC (.int 0)))) (D5 (u0 (a7E K) [] E0 (b4 (b8 0) g7)) (o9 6)) C8) (K9 (C0 (tOp (qIn true) (b8 6) (b8 4))) (a0t (tBM K "list" Z3 (b8 4) (b4 (b8 6) g7))) C8)))) (I0 (b8 4)))))))
def a3P(K:Fg):Sp:=spD 1 7 (b4K K)
def b4J(K:Fg):TS:=I0 (tOp qIx (P3 (b4 (tC (.int 0)) (b4 (tC (.int 1)) (b4 (tOp b3V (tOp b3V (tOp c2U (tC (.int 10)) (tC (.int 12))) (tC (.int 1))) (u0 (C5 K) [] E0 (b4 (b8 0) (b4 (tC (.int 3)) g7)))) (b4 (u0 (C5 K) [] E0 (b4 (b8 0) (b4 (tC (.int 1000000000000)) g7))) g7))))) (u0 (C5 K) [] E0 (b4 (b8 0) (b4 (tC (.int 4)) g7))))
def a5S(K:Fg):Sp:=spD 1 1 (b4J K)
def a9H(K:Fg):TS:=u7 (K9 (C0 (tOp qEq (u0 (C5 K) [] E0 (b4 (b8 0) (b4 (tC (.int 4)) g7))) (tC (.int 0)))) (I0 (u0 (a5S K) [] E0 (b4 (b8 0) g7))) C8) (I0 (tOp qIx (b8 1) (u0 (C5 K) [] E0 (b4 (b8 0) (b4 (tCB X2 (b4 (b8 1) g7)) g7)))))
def Y1(K:Fg):Sp:=spD 2 2 (a9H K)
def b7H(K:Fg):TS:=u7 (D5 (tOp qIx (P3 (b4 (tC (.str "plus")) (b4 (tC (.str "minus")) (b4 (tC (.str "times")) (b4 (tC (.str "less")) (b4 (tC (.str "same")) g7)))))) (u0 (C5 K) [] E0 (b4 (b8 0) (b4 (tC (.int 5)) g7)))) (o9 2)) (u7 (D5 (u0 (Y1 K) [] E0 (b4 (b8 0) (b4 (b8 1) g7))) (o9 3)) (u7 (D5 (u0 (Y1 K) [] E0 (b4 (b8 0) (b4 (b8 1) g7))) (o9 4)) (u7 (K9 (C0 (tOp qEq (u0 (C5 K) [] E0 (b4 (b8 0) (b4 (tC (.int 6)) g7))) (tC (.int 0)))) (D5 (b8 3) (o9 4)) C8) (I0 (a1S (b4 (b8 2) (b4 (b8 3) (b4 (b8 4) g7))))))))
def a5U(K:Fg):Sp:=spD 2 5 (b7H K)
def c1V(K:Fg):TS:=u7 (K9 (C0 (tOp qEq (b8 3) (tC (.int 2)))) (I0 (a1S (b4 (tC (.str "ask")) (b4 (u0 (Y1 K) [] E0 (b4 (b8 0) (b4 (b8 1) g7))) g7)))) C8) (u7 (D5 (u0 (C5 K) [] E0 (b4 (b8 0) (b4 (tC (.int 8)) g7))) (o9 4)) (u7 (D5 (tOp qIx (b8 1) (u0 (C5 K) [] E0 (b4 (b8 0) (b4 (tCB X2 (b4 (b8 1) g7)) g7)))) (o9 5)) (u7 (K9 (C0 (tOp qLt (b8 4) (tC (.int 5)))) (I0 (a1S (b4 (tC (.str "set")) (b4 (b8 5) (b4 (tOp qIx (b8 2) (u0 (C5 K) [] E0 (b4 (b8 0) (b4 (tCB X2 (b4 (b8 2) g7)) g7)))) g7))))) C8) (u7 (K9 (C0 (tOp qEq (b8 4) (tC (.int 5)))) (I0 (a1S (b4 (tC (.str "copy")) (b4 (b8 5) (b4 (u0 (Y1 K) [] E0 (b4 (b8 0) (b4 (b8 1) g7))) g7))))) C8) (u7 (K9 (C0 (tOp qEq (b8 4) (tC (.int 6)))) (I0 (a1S (b4 (tC (.str "take")) (b4 (b8 5) g7)))) C8) (I0 (tOp qIx (P3 (b4 (a1S (b4 (tC (.str "tell")) (b4 (u0 (Y1 K) [] E0 (b4 (b8 0) (b4 (b8 1) g7))) g7))) (b4 (a1S (b4 (tC (.str "skip")) g7)) g7))) (u0 (C5 K) [] E0 (b4 (b8 0) (b4 (tC (.int 2)) g7))))))))))
def a8g(K:Fg):Sp:=spD 4 6 (c1V K)
def b4L(K:Fg):TS:=u7 (D5 (tOp a0V (tC (.int 1)) (u0 (C5 K) [] E0 (b4 (b8 0) (b4 (tC (.int 9)) g7)))) (o9 1)) (u7 (K9 (C0 (tOp qEq (u0 (C5 K) [] E0 (b4 (b8 0) (b4 (tC (.int 8)) g7))) (tC (.int 0)))) (D5 (tOp a0V (tC (.int 15)) (u0 (C5 K) [] E0 (b4 (b8 0) (b4 (tC (.int 10)) g7)))) (o9 1)) C8) (u7 (D5 (u0 (a4v K) [] E0 (b4 (u0 (b0w K) [] E0 (b4 (b8 0) (b4 (b8 1) g7))) g7)) (o9 2)) (u7 (D5 (u0 (a3P K) [] E0 (b4 (b8 0) g7)) (o9 3)) (u7 (D5 (V9 (a0S (b4 (tOp a0V (tC (.int 1)) (u0 (C5 K) [] E0 (b4 (b8 0) (b4 (tC (.int 3)) g7)))) g7)) U2 (u0 (a5U K) [] E0 (b4 (b8 1) (b4 (b8 4) g7)))) (o9 4)) (I0 (a1S (b4 (V9 (W0 K (b8 2)) U2 (u0 (a8g K) [] E0 (b4 (b8 1) (b4 (b8 4) (b4 (b8 5) (b4 (tCB X2 (b4 (b8 0) g7)) g7)))))) (b4 (b8 2) g7))))))))
def a3Q(K:Fg):Sp:=spD 1 5 (b4L K)
def b4M(K:Fg):TS:=u7 (D5 (P3 g7) (o9 1)) (u7 (a1o (W0 K (b8 0)) (o9 2) (K9 (b0s (C0 (tOp qEq (tOp qIx (b8 2) (tC (.int 0))) (tC (.str "set")))) (C0 (tOp (c2W true) (tOp qIx (b8 2) (tC (.int 2))) (b8 1)))) (a0t (tBM K "list" Z3 (b8 1) (b4 (tOp qIx (b8 2) (tC (.int 2))) g7))) C8)) (I0 (b8 1)))
def a5T(K:Fg):Sp:=spD 1 3 (b4M K)
def a7n(K:Fg):TS:=u7 (D5 a6B (o9 1)) (u7 (a1o (W0 K (b8 0)) (o9 2) (u7 (D5 (tCB a3X (b4 (tSl qSl (b8 2) (a8d (tC (.int 1))) a2R) g7)) (o9 3)) (u7 (K9 (C0 (tOp qEq (tOp qIx (b8 2) (tC (.int 0))) (tC (.str "set")))) (D5 (P3 (b4 (tOp qIx (b8 2) (tC (.int 1))) (b4 (tOp qIx (tOp qIx (b8 2) (tC (.int 2))) (tC (.int 1))) (b4 (tOp qIx (tOp qIx (b8 2) (tC (.int 2))) (tC (.int 2))) g7)))) (o9 3)) C8) (a1o (W0 K (b8 3)) (o9 4) (K9 (tB (tCB a3Y (b4 (b8 4) (b4 (tC (.ty "str")) g7)))) (a3U (b8 1) (b8 4) (tC (.bl true))) C8))))) (I0 (tCB b3W (b4 (b8 1) g7))))
def a1q(K:Fg):Sp:=spD 1 5 (a7n K)
def b4N(K:Fg)(c:Cn):TS:=u7 (K9 (C0 (tOp qEq (b8 2) (tC (.int 0)))) (u7 (D5 (a1W c.F2 "deeds" (W7 K) [] E0 (b8 0) g7) (o9 3)) (D5 (u0 (a5T K) [] E0 (b4 (b8 1) g7)) (o9 4))) (u7 (D5 (a1W c.F2 "names" (W3 K) [] E0 (b8 0) g7) (o9 3)) (D5 (u0 (a1q K) [] E0 (b4 (b8 1) g7)) (o9 4)))) (u7 (K9 (tOr (a5P (tB (tCB a3Y (b4 (b8 3) (b4 (tC (.ty "list")) g7))))) (C0 (tOp (c2V K) (b8 3) (b8 4)))) (I0 (tC (.bl false))) C8) (u7 (a0t (tBM K "list" Z3 (b8 3) (b4 (tC (.str "more")) g7))) (u7 (K9 (C0 (tOp qEq (b8 2) (tC (.int 0)))) (I0 (tOp (b5Z K) (a1W c.F2 "deeds" (W7 K) [] E0 (b8 0) g7) (b8 4))) C8) (I0 (tOp (b5Z K) (a1W c.F2 "names" (W3 K) [] E0 (b8 0) g7) (b8 4))))))
def a3R(K:Fg)(c:Cn):Sp:=spD 3 5 (b4N K c)
def b7G(K:Fg)(c:Cn):TS:=u7 (D5 (u0 (b0x K) [] E0 (b4 (b8 0) g7)) (o9 1)) (u7 (K9 (b0s (C0 (tOp qEq (u0 (C5 K) [] E0 (b4 (b8 1) (b4 (tC (.int 16)) g7))) (tC (.int 0)))) (a5P (tB (u0 (a7F K c) [] E0 g7)))) (I0 (tC (.bl false))) C8) (u7 (D5 (u0 (a3Q K) [] E0 (b4 (b8 1) g7)) (b1l K 2 (a1m (o9 2) (a1m (o9 3) (b1m))))) (u7 (D5 (u0 (a3Q K) [] E0 (b4 (b8 1) g7)) (b1l K 2 (a1m (o9 4) (a1m (o9 5) (b1m))))) (u7 (D5 (u0 (a3P K) [] E0 (b4 (b8 1) g7)) (o9 6)) (u7 (D5 (u0 (a8g K) [] E0 (b4 (b8 1) (b4 (b8 6) (b4 (P3 (b4 (u0 (a5U K) [] E0 (b4 (b8 1) (b4 (b8 6) g7))) g7)) (b4 (tC (.int 0)) g7))))) (o9 7)) (u7 (K9 (C0 (tOp qEq (u0 (C5 K) [] E0 (b4 (b8 1) (b4 (tC (.int 2)) g7))) (tC (.int 0)))) (D5 (tOp qIx (P3 (b4 (a1S (b4 (tC (.str "skip")) g7)) (b4 (a1S (b4 (tC (.str "tell")) (b4 (tC (.int 7)) g7))) (b4 (a1S (b4 (tC (.str "tell")) (b4 (tOp qIx (b8 6) (tC (.int 0))) g7))) g7)))) (u0 (C5 K) [] E0 (b4 (b8 1) (b4 (tC (.int 3)) g7)))) (o9 7)) C8) (u7 (D5 (P3 (b4 (a5Q c.F2 (Q3 K c) [] E0 (b4 (b8 2) (b4 (b8 3) g7))) (b4 (a5Q c.F2 (Q3 K c) [] E0 (b4 (b8 4) (b4 (b8 5) g7))) (b4 (a5Q c.F2 (Q3 K c) [] E0 (b4 (P3 (b4 (b8 7) g7)) (b4 (P3 (b4 (P3 g7) g7)) g7))) g7)))) (o9 8)) (u7 (D5 (u0 (C5 K) [] E0 (b4 (b8 1) (b4 (tC (.int 2)) g7))) (o9 9)) (u7 (a1o (a0S (b4 (tC (.int 6)) g7)) (o9 10) (u7 (D5 (tOp a7x (b8 10) (tC (.int 3))) (o9 11)) (K9 (a5P (tB (u0 (a3R K c) [] E0 (b4 (tOp qIx (b8 8) (b8 11)) (b4 (tOp qIx (P3 (b4 (b8 2) (b4 (b8 4) (b4 (P3 (b4 (b8 7) g7)) g7)))) (b8 11)) (b4 (tOp a7x (tOp a0V (b8 9) (b8 10)) (tC (.int 2))) g7)))))) (I0 (tC (.bl false))) C8))) (I0 (tC (.bl true))))))))))))
def a8h(K:Fg):Sp:=fun vs H Q _=>vs.length=1/\∀c,a7e K c->b7G K c { nx:=fun _ H'=>Q .non H',rt:=Q } (vs.map some++z4 (12 - vs.length) none) H
end RD
local macro_rules | `(tactic| walk_at "st") => `(tactic| (with_reducible first
 | refine RD.c5c ?_ | refine RD.b0H ?_ | refine RD.c2F ?_ | refine RD.c4U ?_ | refine RD.c2G ?_ | refine RD.c6n ?_ | refine RD.c2C ?_ | refine RD.c2y ?_ | refine RD.c6j ?_ | refine RD.c4X ?_ | refine RD.c5d ?_ | refine RD.c6m ?_ | refine RD.c2J ?_ | refine RD.c4V ?_ | refine RD.c2B ?_ | refine RD.c4Z ?_ | refine RD.c4W ?_ | refine RD.c0h ?_ | refine RD.s_un ?_ | refine RD.s_neg ?_ | refine RD.s_c ?_ | refine RD.b7Z ?_ | refine RD.c1Y ?_ | refine RD.c2H ?_ | refine RD.c6o ?_ | refine RD.c4T ?_ | refine RD.c4Y ?_ | refine RD.c6l ?_ | refine RD.c2A ?_ | refine RD.b7W ?_ | refine RD.s_rev ?_ | refine RD.b3O ?_ | refine RD.c2I ?_ | refine RD.c5a ?_
 | refine RD.c4S (by with_unfolding_all rfl) ?_ | refine Exists.intro _ (And.intro (Eq.refl (L2.V.bl _)) ?_) | refine Exists.intro _ (And.intro (Eq.refl (L2.V.int _)) ?_)
 | refine RD.c5o ?_ | refine RD.c2R ?_ | refine RD.c6t ?_ | refine RD.c5p ?_ | refine RD.c6u rfl ?_ | refine RD.c6s rfl ?_))
local macro_rules | `(tactic| walk_at "ev") => `(tactic| repeat walk_at "st")
local macro_rules | `(tactic| walk_at "go") => `(tactic| repeat (first | with_reducible refine RD.a0x ?_ | walk_at "st"))
local macro_rules | `(tactic| ext) => `(tactic| walk_at "ev")
local macro_rules | `(tactic| exists $t:term) => `(tactic| (refine $t; walk_at "ev"))
local macro_rules | `(tactic| specialize $t:term) => `(tactic| (with_reducible refine $t; walk_at "ev"))
local macro_rules | `(tactic| exact_mod_cast $t:term) => `(tactic| with_reducible refine $t)
local macro_rules | `(tactic| nofun) => `(tactic| (with_reducible refine RD.a0x ?_; walk_at "ev"))
namespace RD
open PySem PySem.Spec L2
variable{C a b c d dx na p ra:Addr}{H H' H0 H1:Hp}{o:HO}{xs ys:List V}{i m n:Nat}{D:Nat->Option (List Key)}{σ:St}{ta te:TE}{tt:TT}{Q:VK}{v:V}{s z:Str}{ks l:List Nat}{ss:List Str}{QD:Hp->Prop}{R:It->Hp->Prop}{M N:Nt}{ns:List Int}{as ps rs:List Addr}{RC:Nat->List V}
section
variable {D:Addr}
theorem c2E(h:ta σ H fun v H2=>∃x,v=.str x/\R (Its x) H2):c1r ta σ H R:=h
theorem b9o{x:Str}(Pv:Nat->List V->Hp->Prop)(h0:Pv 0 [] (upd H1 D (.lst [])))(hP:∀i ys H,Pv i ys H->H D=some (.lst ys))
  (step:∀i c ys H2,x.cps[i]? = some c->Pv i ys H2->∀(R:VK) (R':Hp->Prop),(∀y H5,H5 D=some (.lst ys)->ys.length<j6->Pv (i+1) (ys++[y]) (upd H5 D (.lst (ys++[y])))->R y H5)->(∀H4,Pv (i+1) ys H4->R' H4) ->
   tt (some (.str ⟨#[c]⟩)::σ) H2 fun ok H4=>if ok=true then te (some (.str ⟨#[c]⟩)::σ) H4 R else R' H4)
  (done:∀ys H2,Pv x.length ys H2->QD H2) :
  ∃W:Nat->Nat->List V->Hp->Prop,(∃m,W 0 m [] (upd H1 D (.lst [])))/\∀i m ys H2,W i m ys H2->H2 D=some (.lst ys) /\
   (((Its x).stop i H2 /\ QD H2) \/ ((Its x).go i H2 /\ ∀ v H3,(Its x).yld i H2 v H3 -> tt (some v :: σ) H3 fun ok H4 => if ok = true then
     te (some v::σ) H4 (fun y H5=>H5 D=some (.lst ys)/\ys.length<j6/\∃m',m'<m/\W (i+1) m' (ys++[y]) (upd H5 D (.lst (ys++[y]))))
     else ∃m',m'<m/\W (i+1) m' ys H4)):=by
 refine⟨fun i m ys H=>m=x.length - i/\i<=x.length/\Pv i ys H,⟨x.length,rfl,F5 _,h0⟩,?_⟩
 rintro i m ys H2 ⟨rfl,hi,p⟩
 refine⟨hP i ys H2 p,?_⟩
 by_cases hlt:i<x.length
 ·refine .inr ⟨hlt,fun v H3 y=>?_⟩
  obtain⟨e,c,hc,ev⟩:=y
  subst e ev
  exact step i c ys _ hc p _ _ (fun y H5 h1 h2 h3=>⟨h1,h2,x.length - (i+1),by omega,rfl,hlt,h3⟩) fun H4 h=>⟨x.length - (i+1),by omega,rfl,hlt,h⟩
 ·have e:i=x.length:=by omega
  subst e
  exact .inl ⟨d5 _,done ys H2 p⟩
end
def sgn(S:Str)(c:Nat):Bool := !(Builtin.Str.occurrences S ⟨#[c]⟩ 0 S.length 1).isEmpty
theorem c2d{S:Str}{c:Nat}(h:Q (.bl (sgn S c)) H):qIn false (.str ⟨#[c]⟩) (.str S) H Q:=h
abbrev LET:Str := "abcdefghijklmnopqrstuvwxyz"
abbrev SGN:Str := "abcdefghijklmnopqrstuvwxyz0123456789"
theorem b7K:LET++("0123456789" : Str)=SGN:=by decide +kernel
def a3v(z:Str):Bool:=decide (1<=z.length)&&decide (z.length<=8)&&(match z.cps[0]? with | some c=>sgn LET c | none=>false)&&z.cps.toList.all (sgn SGN)
theorem b2L{K:Fg}{E:XK}(hz:z.length<=100)(k:∀H',p9 H H'->Q (.bl (a3v z)) H'):V1 K [.str z] H Q E:=by
 refine⟨rfl,?_⟩
 unfold a6z
 have hz':=small (show z.length<=100000 by omega)
 nofun
 exists a1L (s := "str") rfl (by decide) ?_
 exists y0 (by decide) ?_
 exists c2P hz' ?_
 by_cases h1:1<=z.length
 case neg=>
  exists y0 (c7H (by omega)) ?_
  exists D9 rfl ?_
  have e:a3v z=false:=by unfold a3v;rw[c7H h1];simp
  rw[<-e]
  exact k H (p9.refl _)
 exists D9 (c7I (by omega)) ?_
 by_cases h8:z.length<=8
 case neg=>
  rw[c7H (show ¬((z.length:Int)<=8) by omega)]
  exists D9 rfl ?_
  have e:a3v z=false:=by unfold a3v;rw[c7H h8];simp
  rw[<-e]
  exact k H (p9.refl _)
 rw[c7I (show(z.length:Int)<=8 by omega)]
 exists y0 rfl ?_
 have hl:z.cps.toList.length=z.length:=z8
 obtain⟨c0,hc0,hc1⟩:=a1O (xs:=z.cps.toList) (i:=0) (by decide) (by omega)
 have hc2:z.cps[0]? = some c0:=by rw[<-C3];exact hc1
 exists b8g hz' hc0 ?_
 have en:a3v z=(sgn LET c0&&z.cps.toList.all (sgn SGN)):=by
  unfold a3v
  rw[c7I h1,c7I h8,hc2]
  simp
 refine c2d (S:=LET) ?_
 refine⟨_,rfl,?_⟩
 cases hs:sgn LET c0 with
 | false=>
  refine c4g ?_
  have e:a3v z=false:=by rw[en,hs];rfl
  rw[<-e]
  exact k H (p9.refl _)
 | true=>
  exists b2K ?_
  specialize X1 (c2E ?_)
  refine⟨z,rfl,fun D hD=>?_⟩
  refine b9o (fun i ys H2=>ys=(z.cps.toList.take i).map (fun c=>V.bl (sgn SGN c))/\H2=upd H D (.lst ys)) ⟨by simp,rfl⟩ ?_ ?_ ?_
  ·rintro i ys _ ⟨_,rfl⟩
   exact d8
  ·rintro i c ys _ hc ⟨rfl,rfl⟩ R R' hR hR'
   have hc':z.cps.toList[i]? = some c:=by rw[C3];exact hc
   ext
   exists b2K ?_
   refine b3T (small (by decide +kernel)) ?_
   have e:(("abcdefghijklmnopqrstuvwxyz" : Str)++("0123456789" : Str))=SGN:=b7K
   rw[e]
   refine c2d (S:=SGN) ?_
   refine hR (.bl (sgn SGN c)) _ d8 (F6 ?_) ⟨?_,?_⟩
   ·rw[a8,P5];omega
   ·rw[O6,hc'];simp
   ·rw[b0p]
  ·rintro ys _ ⟨rfl,rfl⟩
   ext
   have eb:Q6 ((z.cps.toList.take z.length).map (fun c=>V.bl (sgn SGN c)))=some ((z.cps.toList.take z.length).map (sgn SGN)):=by
    generalize z.cps.toList.take z.length=l
    induction l with
    | nil=>rfl
    | cons a r ih=>simp[Q6,ih]
   have ea:((z.cps.toList.take z.length).map (sgn SGN)).all id=a3v z:=by
    rw[en,hs,c5U,a1d (by omega),List.all_map]
    rfl
   refine(show b0P [.ref D] _ _ from ?_)
   unfold b0P
   simp only[d8]
   refine⟨_,eb,?_⟩
   rw[ea]
   exact k _ (w4 hD)
def NmS(s:Str):Prop:=a3v s=true/\s.length<=8
def OpN(v:V):Prop:=(∃s,v=.str s/\NmS s)\/∃n:Int,v=.int n/\0<=n/\n<1000000000000
abbrev b9y:List Str:=["plus","minus","times","less","same"]
def a4Z(H:Hp)(p:Addr):Prop:=∃k v1 v2,H p=some (.tup [.str k,v1,v2])/\OpN v1/\OpN v2/\k∈b9y
theorem a4Z.ts(h:a4Z H p)(t:K7 H H'):a4Z H' p:=by
 obtain⟨k,v1,v2,h,a,b,c⟩:=h
 exact⟨k,v1,v2,t _ _ h,a,b,c⟩
inductive a3B(H:Hp):List V->Prop
 | set (n:Str) (p:Addr):NmS n->a4Z H p->a3B H [.str "set",.str n,.ref p]
 | copy (n:Str) (v:V):NmS n->OpN v->a3B H [.str "copy",.str n,v]
 | take (n:Str):NmS n->a3B H [.str "take",.str n]
 | tell (v:V):OpN v->a3B H [.str "tell",v]
 | ask (v:V):OpN v->a3B H [.str "ask",v]
 | skip:a3B H [.str "skip"]
theorem a3B.ts(h:a3B H xs)(t:K7 H H'):a3B H' xs:=by
 cases h with
 | set n p a d=>exact .set n p a (d.ts t)
 | copy n v a o=>exact .copy n v a o
 | take n a=>exact .take n a
 | tell v o=>exact .tell v o
 | ask v o=>exact .ask v o
 | skip=>exact .skip
def a7B(H:Hp)(v:V)(ask:Bool):Prop:=∃p xs,v=.ref p/\H p=some (.tup xs)/\a3B H xs/\(∃k r,xs=.str k::r/\decide ((k:Str) = "ask")=ask)
theorem a7B.ts{a:Bool}(h:a7B H v a)(t:K7 H H'):a7B H' v a:=by
 obtain⟨p,xs,rfl,h,r,q⟩:=h
 exact⟨p,xs,rfl,t _ _ h,r.ts t,q⟩
theorem c4i{n:Int}(k:Q (.bl true) H) :
  I0 (a0u (tCB a3Y (b4 (b8 0) (b4 (tC (.ty "int")) g7))) (b1Z (tCB a3Y (b4 (b8 0) (b4 (tC (.ty "bool")) g7))))) { nx:=fun _ H'=>Q .non H',rt:=Q } [some (.int n)] H:=by
 ext
 exists a1L (s := "int") rfl (by decide) ?_
 exists D9 (by decide) ?_
 exists a1L (s := "int") rfl (by decide) ?_
 exact k
theorem a6e{K:Fg}{n:Int}{E:XK}(k:Q (.bl true) H):a1f K [.int n] H Q E:=⟨rfl,c4i k⟩
theorem b1h{K:Fg}{n:Int}{E:XK}(h0:0<=n)(h1:n<1000000000000)(k:Q (.bl true) H):a2a K [.int n] H Q E:=by
 refine⟨rfl,?_⟩
 unfold a8b
 ext
 refine a6e ?_
 exists ⟨_,rfl,b2K ?_⟩
 exists D9 (c7I h0) ?_
 show Q (.bl (decide (n<1000000000000))) H
 rw[c7I h1]
 exact k
theorem b1i{K:Fg}{n m:Int}{E:XK}(h0:0<=n)(h1:n<m)(k:Q (.bl true) H):a2b K [.int n,.int m] H Q E:=by
 refine⟨rfl,?_⟩
 unfold a8c
 ext
 refine a6e ?_
 exists ⟨_,rfl,b2K ?_⟩
 exists D9 (c7I h0) ?_
 show Q (.bl (decide (n<m))) H
 rw[c7I h1]
 exact k
theorem a3i{K:Fg}{E:XK}(h:NmS z)(k:∀H',p9 H H'->Q (.bl true) H'):V1 K [.str z] H Q E:=by
 refine b2L (by have:=h.2;omega) fun H' s=>?_
 rw[h.1]
 exact k H' s
theorem b2M{K:Fg}{n:Int}{E:XK}(k:Q (.bl false) H):V1 K [.int n] H Q E:=by
 refine⟨rfl,?_⟩
 unfold a6z
 nofun
 exists a1L (s := "int") rfl (by decide) ?_
 refine D9 (by decide) ?_
 exists D9 rfl ?_
 exact k
theorem a0d{K:Fg}{E:XK}(h:OpN v)(k:∀H',p9 H H'->Q (.bl true) H'):R6 K [v] H Q E:=by
 refine⟨rfl,?_⟩
 unfold a5K
 ext
 rcases h with ⟨s,rfl,hs⟩ | ⟨n,rfl,h0,h1⟩
 ·refine a3i hs fun G s=>?_
  exact⟨_,rfl,b2K (k G s)⟩
 ·refine b2M ?_
  exists ⟨_,rfl,c4g ?_⟩
  exact b1h h0 h1 (k H (p9.refl _))
theorem b8W{k:Str}(h:k∈b9y):inV (.str k) [.str "plus",.str "minus",.str "times",.str "less",.str "same"]=true:=by
 simp only[b9y,g6,j8,or_false]at h
 rcases h with rfl | rfl | rfl | rfl | rfl <;> decide +kernel
theorem b4s{K:Fg}{c:Cn}{E:XK}(ck:a7e K c)(h:a4Z H p)(k:∀H',p9 H H'->Q (.bl true) H'):a2U K c [.ref p] H Q E:=by
 obtain⟨kd,v1,v2,hp,o1,o2,hk⟩:=h
 refine⟨rfl,?_⟩
 unfold a9I
 nofun
 exists a1L (s := "tuple") (by simp only[a1F,hp]) (by decide) ?_
 exists y0 (by decide) ?_
 exists a3W hp ?_
 exists y0 (by simp) ?_
 exists F4 hp (a0Q _ _) ?_
 refine⟨_,_,rfl,ck.b1G H,rfl,rfl,?_⟩
 exists ⟨_,rfl,D9 (b8W hk) ?_⟩
 exists F4 hp (a3p _ _ _) ?_
 refine a0d o1 fun G1 s1=>?_
 exists ⟨_,rfl,b2K ?_⟩
 exists F4 (s1 _ _ hp) (a4I _ _ _ _) ?_
 exact a0d o2 fun G2 s2=>k G2 (s1.trans s2)
theorem c4k(a:V)(r:List V):a5t (a::r) (some 1) none=r:=by
 unfold a5t
 have e:HT.sIx (a::r).length 0 (some 1)=1:=by
  have:=HT.b0K (a::r).length 0 1
  rw[show((1:Nat):Int)=1 from rfl]at this
  rw[this,v7]
  omega
 rw[e]
 show List.take ((a::r).length - 1) r=r
 rw[a1d (by simp)]
theorem b2B(a:V)(r:List V):¬(HT.sIx (a::r).length 0 (some 1)=0/\HT.sIx (a::r).length (a::r).length none=(a::r).length):=by
 intro h
 have e:HT.sIx (a::r).length 0 (some 1)=1:=by
  have:=HT.b0K (a::r).length 0 1
  rw[show((1:Nat):Int)=1 from rfl]at this
  rw[this,v7]
  omega
 omega
theorem b6w{K:Fg}{c:Cn}{a:Bool}{E:XK}(ck:a7e K c)(h:a7B H v a)(k:∀H',p9 H H'->Q (.bl true) H'):a4w K c [v] H Q E:=by
 obtain⟨p,xs,rfl,hp,hr,kd,r,rfl,_⟩:=h
 refine⟨rfl,?_⟩
 unfold b1Y
 nofun
 exists a1L (s := "tuple") (by simp only[a1F,hp]) (by decide) ?_
 exists y0 (by decide) ?_
 exists a3W hp ?_
 exists y0 (c7H (by intro z;have:=V.int.inj z;rw[v7]at this;omega)) ?_
 nofun
 exists F4 hp (a0Q _ _) ?_
 nofun
 refine c2c hp (b2B _ _) fun q G hq e s=>?_
 rw[c4k]at e
 ext
 have hr:=hr.ts (p9.ts s)
 cases hr with
 | set n d hn hd=>
  nofun
  exists D9 (by decide) ?_
  exists a3W e ?_
  exists D9 (by simp) ?_
  exists F4 e (a0Q _ _) ?_
  refine a3i hn fun G1 s1=>?_
  exists ⟨_,rfl,b2K ?_⟩
  exists F4 (s1 _ _ e) (a3p _ _ _) ?_
  exact b4s ck (hd.ts (p9.ts s1)) fun G2 s2=>k G2 ((s.trans s1).trans s2)
 | copy n v hn ho=>
  nofun
  exists y0 (by decide) ?_
  nofun
  exists D9 (by decide) ?_
  exists a3W e ?_
  exists D9 (by simp) ?_
  exists F4 e (a0Q _ _) ?_
  refine a3i hn fun G1 s1=>?_
  exists ⟨_,rfl,b2K ?_⟩
  exists F4 (s1 _ _ e) (a3p _ _ _) ?_
  exact a0d ho fun G2 s2=>k G2 ((s.trans s1).trans s2)
 | take n hn=>
  nofun
  exists y0 (by decide) ?_
  nofun
  exists y0 (by decide) ?_
  nofun
  exists D9 (by decide) ?_
  exists a3W e ?_
  exists D9 (by simp) ?_
  exists F4 e (a0Q _ _) ?_
  exact a3i hn fun G1 s1=>k G1 (s.trans s1)
 | tell v ho=>
  nofun
  exists y0 (by decide) ?_
  nofun
  exists y0 (by decide) ?_
  nofun
  exists y0 (by decide) ?_
  nofun
  refine z6 (by simp) fun q2 G2 hq2 e2 s2=>?_
  exists a6a e2 rfl rfl ?_
  exists D9 (by decide +kernel) ?_
  exists a3W (s2 _ _ e) ?_
  exists D9 (by simp) ?_
  exists F4 (s2 _ _ e) (a0Q _ _) ?_
  exact a0d ho fun G1 s1=>k G1 ((s.trans s2).trans s1)
 | ask v ho=>
  nofun
  exists y0 (by decide) ?_
  nofun
  exists y0 (by decide) ?_
  nofun
  exists y0 (by decide) ?_
  nofun
  refine z6 (by simp) fun q2 G2 hq2 e2 s2=>?_
  exists a6a e2 rfl rfl ?_
  exists D9 (by decide +kernel) ?_
  exists a3W (s2 _ _ e) ?_
  exists D9 (by simp) ?_
  exists F4 (s2 _ _ e) (a0Q _ _) ?_
  exact a0d ho fun G1 s1=>k G1 ((s.trans s2).trans s1)
 | skip=>
  nofun
  exists y0 (by decide) ?_
  nofun
  exists y0 (by decide) ?_
  nofun
  exists y0 (by decide) ?_
  nofun
  refine z6 (by simp) fun q2 G2 hq2 e2 s2=>?_
  exists a6a e2 rfl rfl ?_
  exists y0 (by decide +kernel) ?_
  exists D9 (by decide) ?_
  exists a3W (s2 _ _ e) ?_
  have e0:decide (V.int ((([]:List V).length:Nat):Int)=V.int 0)=true:=by decide
  rw[e0]
  exact k G2 (s.trans s2)
theorem ix0{α:Type}(a b c d:α):ixN [a,b,c,d].length 0=some 0:=by
 show ixN 4 0=some 0
 decide
theorem ix1{α:Type}(a b c d:α):ixN [a,b,c,d].length 1=some 1:=by
 show ixN 4 1=some 1
 decide
theorem ix2{α:Type}(a b c d:α):ixN [a,b,c,d].length 2=some 2:=by
 show ixN 4 2=some 2
 decide
structure a8W(H:Hp)(b:Addr)(i0 i1 i2:Int)(c:Addr)(ns:List Int):Prop where
 hb:H b=some (.lst [.int i0,.int i1,.int i2,.ref c])
 hc:H c=some (.lst (ns.map V.int))
 p0:0<=i0
 p1:0<=i1
 p1':i1<2147483647
 p2:0<=i2
 pn:∀x∈ns,0<=x
theorem a8W.bag{i0 i1 i2:Int}(h:a8W H b i0 i1 i2 c ns):Bag H b c:=⟨i0,i1,i2,ns,h.hb,h.hc,h.p0,h.p1,h.p1',h.p2,h.pn⟩
theorem Bag.parts(h:Bag H b c):∃i0 i1 i2 ns,a8W H b i0 i1 i2 c ns:=by
 obtain⟨i0,i1,i2,ns,h1,h2,h3,h4,h5,h6,h7⟩:=h.ex
 exact⟨i0,i1,i2,ns,h1,h2,h3,h4,h5,h6,h7⟩
theorem a8W.ne{i0 i1 i2:Int}(h:a8W H b i0 i1 i2 c ns):c≠b:=O0 h.hc h.hb (by
  intro z
  have z:=HO.lst.inj z
  cases ns with
  | nil=>cases z
  | cons a r=>cases r with
   | nil=>cases z
   | cons a2 r=>cases r with
    | nil=>cases z
    | cons a3 r=>cases r with
     | nil=>cases z
     | cons a4 r=>simp at z)
theorem a8W.put{i0 i1 i2 j0 j1 j2:Int}(h:a8W H b i0 i1 i2 c ns)(q0:0<=j0)(q1:0<=j1)(q1':j1<2147483647)(q2:0<=j2) :
  a8W (upd H b (.lst [.int j0,.int j1,.int j2,.ref c])) b j0 j1 j2 c ns:=⟨d8,by rw[j5 h.ne];exact h.hc,q0,q1,q1',q2,h.pn⟩
theorem E6{K:Fg}{many:Int}{E:XK}(hB:Bag H b c)(h0:0<many)(h1:many<2 ^ 64)
  (k:∀n H',0<=n->n<many->Bag H' b c->A7 b H H'->Q (.int n) H'):C5 K [.ref b,.int many] H Q E:=by
 obtain⟨i0,i1,i2,ns,B⟩:=hB.parts
 refine⟨rfl,?_⟩
 unfold b7D
 refine a0z (P:=fun σ H1=>∃x2 x3 j0 j1 j2,σ=[some (.ref b),some (.int many),x2,x3,none,none,none]/\a8W H1 b j0 j1 j2 c ns/\A7 b H H1) ?_ ?_
 ·-- the second part
  rintro _ H1 ⟨x2,x3,j0,j1,j2,rfl,B1,k1⟩
  refine a0z (P:=fun σ H2=>H2=H1/\σ=[some (.ref b),some (.int many),x2,x3,none,none,none]) ?_ ?_
  ·rintro _ _ ⟨rfl,rfl⟩
   walk_at "go"
   refine J2 B1.hb (a3p _ _ _) ?_
   walk_at "go"
   refine a0c (.inr (by omega)) ?_
   walk_at "go"
   refine a0c (by omega) ?_
   walk_at "go"
   have g1:=T5 (j1 * 39373) (show(1000000007:Int)≠0 by decide)
   have g2:=Q7 (j1 * 39373) (show(0:Int)<1000000007 by decide)
   refine a0c (.inr (by omega)) ?_
   walk_at "go"
   refine a0c (by omega) ?_
   walk_at "go"
   have g3:=T5 (j1 * 39373 % 1000000007 * 30011) (show(998244353:Int)≠0 by decide)
   have g4:=Q7 (j1 * 39373 % 1000000007 * 30011) (show(0:Int)<998244353 by decide)
   refine a0C (fun _=>?_) (fun _=>?_)
   ·walk_at "go"
    refine a0c (.inr (by omega)) ?_
    walk_at "go"
    refine a0c h0 ?_
    exact k _ _ (T5 _ (by omega)) (Q7 _ h0) B1.bag k1
   ·walk_at "go"
    refine a0c (by omega) ?_
    walk_at "go"
    refine a0c h0 ?_
    exact k _ _ (T5 _ (by omega)) (Q7 _ h0) B1.bag k1
  ·intro nx hnx
   walk_at "go"
   refine J2 B1.hb (a0Q _ _) ?_
   walk_at "go"
   refine a0C (fun _=>?_) (fun _=>?_)
   ·walk_at "go"
    refine J2 B1.hb (a0Q _ _) ?_
    walk_at "go"
    refine a0c h0 ?_
    walk_at "go"
    refine J2 B1.hb (a0Q _ _) ?_
    walk_at "go"
    refine a0c ⟨h0,h1⟩ ?_
    walk_at "go"
    refine b4W B1.hb (ix0 _ _ _ _) ?_
    walk_at "go"
    refine k _ _ (T5 _ (by omega)) (Q7 _ h0) (B1.put (Int.ediv_nonneg B1.p0 (by omega)) B1.p1 B1.p1' B1.p2).bag (k1.trans (A7.upd _ _ _))
   ·walk_at "go"
    exact hnx _ _ ⟨rfl,rfl⟩
 ·intro nx hnx
  walk_at "go"
  refine J2 B.hb (a0Q _ _) ?_
  walk_at "go"
  refine a0C (fun e=>?_) (fun _=>?_)
  ·have e:i0=0:=by simpa using e
   subst e
   nofun
   exact_mod_cast a0z (P:=fun σ H1=>∃m x3 j0 j2,σ=[some (.ref b),some (.int many),some (.int m),x3,none,none,none]/\a8W H1 b j0 i1 j2 c ns/\A7 b H H1/\0<=m) ?_ ?_
   ·rintro _ H1 ⟨m,x3,j0,j2,rfl,B1,k1,hm⟩
    walk_at "go"
    refine J2 B1.hb (a3p _ _ _) ?_
    walk_at "go"
    refine a0c (.inr (by omega)) ?_
    walk_at "go"
    refine a0c (by omega) ?_
    walk_at "go"
    refine b4W B1.hb (ix1 _ _ _ _) ?_
    have g1:=T5 (i1 * 48271+m) (show(2147483647:Int)≠0 by decide)
    have g2:=Q7 (i1 * 48271+m) (show(0:Int)<2147483647 by decide)
    exact hnx _ _ ⟨_,x3,j0,_,j2,rfl,B1.put B1.p0 g1 g2 B1.p2,k1.trans (A7.upd _ _ _)⟩
   ·intro nx2 hnx2
    walk_at "go"
    refine J2 B.hb (a4I _ _ _ _) ?_
    walk_at "go"
    refine J2 B.hb (c5Q _ _ _ _ _) ?_
    walk_at "go"
    refine R7 B.hc ?_
    walk_at "go"
    refine a0C (fun e=>?_) (fun _=>?_)
    ·have e:i2<(ns.length:Int):=by simpa using e
     obtain⟨v,ev,ev2⟩:=a1O (xs:=ns.map V.int) B.p2 (by simpa using e)
     obtain⟨z,ez,rfl⟩:∃z,ns[i2.toNat]? = some z/\v=V.int z:=by
      rw[b7]at ev2
      cases q:ns[i2.toNat]? with
      | none=>rw[q]at ev2;cases ev2
      | some z=>rw[q]at ev2;exact⟨z,rfl,(Option.some.inj ev2).symm⟩
     have hz:0<=z:=B.pn z (mI ez)
     walk_at "go"
     refine J2 B.hb (c5Q _ _ _ _ _) ?_
     walk_at "go"
     refine J2 B.hb (a4I _ _ _ _) ?_
     walk_at "go"
     refine J2 B.hc ev ?_
     walk_at "go"
     exists c5l B.hb (by decide) rfl ?_
     refine b4W B.hb (ix2 _ _ _ _) ?_
     have B2:=B.put (j0:=0) (j1:=i1) (j2:=i2+1) (Int.le_refl _) B.p1 B.p1' (by have:=B.p2;omega)
     exact_mod_cast a0z (P:=fun σ H1=>∃j0,σ=[some (.ref b),some (.int many),some (.int 12345),some (.int z),none,none,none]/\a8W H1 b j0 i1 (i2+1) c ns/\A7 b H H1) ?_ ?_
     ·rintro _ H1 ⟨j0,rfl,B1,k1⟩
      walk_at "go"
      refine a0c (by omega) ?_
      walk_at "go"
      have g1:=T5 z (show(2147483647:Int)≠0 by decide)
      exact hnx2 _ _ ⟨_,_,j0,_,rfl,B1,k1,by omega⟩
     ·intro nx3 hnx3
      walk_at "go"
      refine a0C (fun _=>?_) (fun _=>?_)
      ·walk_at "go"
       refine b4W B2.hb (ix0 _ _ _ _) ?_
       refine hnx3 _ _ ⟨z,rfl,?_,(A7.upd _ _ _).trans (A7.upd _ _ _)⟩
       exact B2.put hz B.p1 B.p1' (by have:=B.p2;omega)
      ·walk_at "go"
       exact hnx3 _ _ ⟨0,rfl,B2,A7.upd _ _ _⟩
    ·walk_at "go"
     exact hnx2 _ _ ⟨_,_,0,i2,rfl,B,A7.refl _ _,by decide⟩
  ·walk_at "go"
   exact hnx _ _ ⟨_,_,i0,i1,i2,rfl,B,A7.refl _ _⟩
theorem c4m{K:Fg}{E:XK}(hS:SqL K H a (ns.map V.int))(hl:ns.length<=63)
  (k:∀b c H',Bag H' b c->p9 H H'->H b=none->Q (.ref b) H'):b0x K [.ref a] H Q E:=by
 refine⟨rfl,?_⟩
 unfold c1X
 walk_at "go"
 exact_mod_cast X1 (T9 ?_)
 walk_at "go"
 refine⟨a,_,rfl,hS,fun p hp=>⟨p,rfl,⟨_,SqL.of d8⟩,fun D hD=>?_⟩⟩
 have hcut:a5t (ns.map V.int) none (some 63)=ns.map V.int:=by
  unfold a5t
  have e:HT.sIx (ns.map V.int).length 0 none=0:=rfl
  have e2:HT.sIx (ns.map V.int).length (ns.map V.int).length (some 63)=ns.length:=by
   have:=HT.b0K (ns.map V.int).length (ns.map V.int).length 63
   rw[a8]at this ⊢
   rw[show((63:Nat):Int)=63 from rfl]at this
   rw[this];omega
  rw[e,e2,List.drop_zero,Nat.sub_zero,a1d (by simp)]
 rw[hcut]at hD ⊢
 have s1:p9 H (upd H p (.lst (ns.map V.int))):=w4 hp
 refine Y4 (xs:=ns.map V.int) (fun i ys H2=>ys=(ns.take i).map (fun x=>V.int (if x<0 then -x else x))/\H2=upd (upd H p (.lst (ns.map V.int))) D (.lst ys)) ⟨by simp,rfl⟩ ?_ ?_ ?_ ?_
 ·rintro i ys _ ⟨_,rfl⟩
  exact d8
 ·rintro i ys _ _ ⟨_,rfl⟩
  refine SqL.of ?_
  rw[j5 (d4 d8 hD),d8]
 ·rintro i x ys _ hx ⟨rfl,rfl⟩ R hR
  rw[b7]at hx
  cases e:ns[i]? with
  | none=>rw[e]at hx;cases hx
  | some z=>
   rw[e]at hx
   cases hx
   ext
   refine hR _ _ d8 (F6 ?_) ⟨?_,?_⟩
   ·rw[a8,P5];omega
   ·rw[O6,e];simp
   ·rw[b0p]
 ·rintro ys _ ⟨rfl,rfl⟩
  ext
  refine z6 (by simp) fun b H4 hb hb4 s4=>?_
  rw[a8,a1d (d5 _)]at hb s4
  refine k b D _ ⟨0,1234567891,0,ns.map (fun x=>if x<0 then -x else x),hb4,?_,by decide,by decide,by decide,by decide,?_⟩ ?_ ?_
  ·rw[s4 D _ d8,M7];rfl
  ·intro x hx
   obtain⟨y,_,rfl⟩:=u8.mp hx
   split <;> omega
  ·exact(s1.trans (w4 hD)).trans s4
  ·exact(s1.trans (w4 hD)).free hb
structure a2t(H:Hp)(a:Addr):Prop where
 ex:∃ss:List Str,H a=some (.lst (ss.map V.str))/\ss≠[]/\ss.length<=8/\∀s∈ss,NmS s
theorem a2t.kept(h:a2t H a)(hB:Bag H b c)(k:A7 b H H'):a2t H' a/\a≠b:=by
 obtain⟨ss,h1,h2,h3,h4⟩:=h.ex
 obtain⟨i0,i1,i2,ns,hb,_⟩:=hB.ex
 have ne:a≠b:=O0 h1 hb (by
  intro z
  have z:=HO.lst.inj z
  cases ss with
  | nil=>exact h2 rfl
  | cons s r=>cases z)
 exact⟨⟨ss,k.1 a _ h1 ne,h2,h3,h4⟩,ne⟩
theorem a2t.same(h:a2t H a)(s:p9 H H'):a2t H' a:=by
 obtain⟨ss,h1,h2,h3⟩:=h.ex
 exact⟨ss,s _ _ h1,h2,h3⟩
theorem b9Z:∀c∈LET.cps.toList,sgn LET c=true:=by decide +kernel
theorem b9Y:∀c∈SGN.cps.toList,sgn SGN c=true:=by decide +kernel
theorem c1h:∀c∈LET.cps.toList,sgn SGN c=true:=by decide +kernel
theorem b4r(cs:List Nat):Txt.join (Str.ofString "") (cs.map fun k=>(⟨#[k]⟩:Str))=⟨cs.toArray⟩:=by
 show Builtin.Str.glued ("") _=_
 rw[StrLaws.glued_eq_join]
 exact PyProof.Rows.join_ones cs
theorem c5K{ch:Nat}{cs:List Nat}(h1:ch∈LET.cps.toList)(h2:∀c∈cs,c∈SGN.cps.toList)(hl:cs.length<=7):NmS ((⟨#[ch]⟩:Str)++⟨cs.toArray⟩):=by
 have hlen:((⟨#[ch]⟩:Str)++⟨cs.toArray⟩).length=cs.length+1:=by
  rw[Str.length_append]
  show 1+cs.toArray.size=_
  rw[g8];omega
 have hc:((⟨#[ch]⟩:Str)++⟨cs.toArray⟩).cps=(ch::cs).toArray:=by
  rw[Str.cps_append]
  show #[ch]++cs.toArray=_
  simp
 refine⟨?_,by omega⟩
 unfold a3v
 rw[hlen,hc]
 have e0:(ch::cs).toArray[0]? = some ch:=by simp
 rw[e0]
 simp only[M4,decide_eq_true_eq,A8]
 refine⟨⟨⟨by omega,by omega⟩,b9Z ch h1⟩,?_⟩
 intro c hcc
 have hcc:c∈ch::cs:=by simpa using hcc
 rcases g6.mp hcc with q | q
 ·subst q;exact c1h _ h1
 ·exact b9Y c (h2 c q)
theorem b9X(h:∀s∈ss,NmS s)(hs:NmS s):∀t∈ss++[s],NmS t:=by
 intro t ht
 rcases i8.mp ht with q | q
 ·exact h t q
 ·rw[c6.mp q];exact hs
structure b0f(H:Hp)(a:Addr):Prop where
 ex:∃ps:List Addr,H a=some (.lst (ps.map V.ref))/\ps≠[]/\ps.length<=8/\∀p∈ps,a4Z H p
theorem a0A(hB:Bag H b c)(h:H a=some (.lst (as.map V.ref))):a≠b:=by
 obtain⟨i0,i1,i2,ns,hb,_⟩:=hB.ex
 refine O0 h hb ?_
 intro z
 have z:=HO.lst.inj z
 cases as with
 | nil=>cases z
 | cons s r=>cases z
theorem b2f(hB:Bag H b c)(h:H a=some (.lst xs))(hl:xs.length<=3):a≠b:=by
 obtain⟨i0,i1,i2,ns,hb,_⟩:=hB.ex
 refine O0 h hb ?_
 intro z
 have z:=HO.lst.inj z
 rw[z]at hl
 simp at hl
theorem b0f.kept(h:b0f H a)(hB:Bag H b c)(k:A7 b H H'):b0f H' a:=by
 obtain⟨ps,h1,h2,h3,h4⟩:=h.ex
 exact⟨ps,k.1 a _ h1 (a0A hB h1),h2,h3,fun p hp=>(h4 p hp).ts (A7.ts k hB)⟩
structure D7(H:Hp)(a:Addr)(N:Nt):Prop where
 ex:∃as:List Addr,H a=some (.lst (as.map V.ref))/\as.length=N.length/\∀(i:Nat) x l,as[i]? = some x->N[i]? = some l->H x=some (.lst (IL l))
theorem D7.same(h:D7 H a N)(k:p9 H H'):D7 H' a N:=by
 obtain⟨as,h1,h2,h3⟩:=h.ex
 exact⟨as,k a _ h1,h2,fun i x l e1 e2=>k _ _ (h3 i x l e1 e2)⟩
theorem D7.kept(h:D7 H a N)(hB:Bag H b c)(hN:∀l∈N,l.length<=2)(k:A7 b H H'):D7 H' a N:=by
 obtain⟨as,h1,h2,h3⟩:=h.ex
 refine⟨as,k.1 a _ h1 (a0A hB h1),h2,fun i x l e1 e2=>?_⟩
 have q:=h3 i x l e1 e2
 refine k.1 _ _ q (b2f hB q ?_)
 rw[R8]
 have:=hN l (mI e2)
 omega
theorem D7.at(h:D7 H a N){k:Nat}(e:N[k]? = some l):∃(xs:List V) (x:Addr),H a=some (.lst xs)/\atI xs (k:Int)=some (.ref x)/\H x=some (.lst (IL l))/\xs.length=N.length:=by
 obtain⟨as,h1,h2,h3⟩:=h.ex
 have hk:k<as.length:=by rw[h2];exact(gI e)
 have e1:as[k]? = some as[k]:=by simp
 refine⟨_,as[k],h1,?_,h3 k _ l e1 e,by rw[a8,h2]⟩
 exact a1t (by rw[b7,e1];rfl)
theorem D7.len(h:D7 H a N):∃xs,H a=some (.lst xs)/\xs.length=N.length:=by
 obtain⟨as,h1,h2,h3⟩:=h.ex
 exact⟨_,h1,by rw[a8,h2]⟩
theorem c5S{j t:Nat}(e:l[j]? = some t):atI (IL l) (j:Int)=some (.int (t:Int)):=a1t (by unfold IL;rw[b7,e];rfl)
theorem b4X{K:Fg}{E:XK}(hB:Bag H b c)(ha:H a=some (.lst xs))(na:a≠b)(h0:xs≠[])(hl:xs.length<=100)
  (k:∀(n:Int) v H',atI xs n=some v->v∈xs->H' a=some (.lst xs)->Bag H' b c->A7 b H H'->Q (.int n) H'):C5 K [.ref b,.int xs.length] H Q E:=by
 have hp:0<xs.length:=b9E.mpr h0
 refine E6 hB (by omega) (by omega) fun n H1 n0 n1 B1 k1=>?_
 obtain⟨v,hv,hv2⟩:=a1O (xs:=xs) n0 n1
 exact k n v H1 hv (mI hv2) (k1.1 _ _ ha na) B1 k1
theorem b3G{α:Type}(l:List α):l=[]\/∃r a,l=r++[a]:=by
 cases h:l.reverse with
 | nil=>left;simpa using h
 | cons a r=>
  right
  refine⟨r.reverse,a,?_⟩
  have:=congrArg List.reverse h
  simpa using this
structure a9z(H0 H:Hp)(b c D:Addr)(m:Nat)(as:List Addr)(N:Nt):Prop where
 bag:Bag H b c
 kept:A7 b H0 H
 hD:H D=some (.lst (as.map V.ref))
 nb:D≠b
 nc:D≠c
 len:as.length=N.length
 at_:∀(i:Nat) x l,as[i]? = some x->N[i]? = some l->H x=some (.lst (IL l))/\x≠D/\x≠b
 small:∀l∈N,l.length<=2/\∀t∈l,t<m
theorem a9z.next{D:Addr}(h:a9z H0 H b c D m as N)(B:Bag H' b c)(k:A7 b H H'):a9z H0 H' b c D m as N:=
 ⟨B,h.kept.trans k,k.1 _ _ h.hD h.nb,h.nb,h.nc,h.len,fun i x l e1 e2=>let⟨q1,q2,q3⟩:=h.at_ i x l e1 e2; ⟨k.1 _ _ q1 q3,q2,q3⟩,h.small⟩
structure a6n(H:Hp)(b D q:Addr)(m:Nat)(l:List Nat):Prop where
 h:H q=some (.lst (IL l))
 nD:q≠D
 nb:q≠b
 len:l.length<=2
 lt:∀t∈l,t<m
theorem a6n.next{D q:Addr}(h:a6n H b D q m l)(k:A7 b H H'):a6n H' b D q m l:=⟨k.1 _ _ h.h h.nb,h.nD,h.nb,h.len,h.lt⟩
theorem P6{α:Type}{xs:List α}{x y:α}(h:(xs++[x])[i]? = some y):(i<xs.length/\xs[i]? = some y)\/(i=xs.length/\y=x):=by
 by_cases hi:i<xs.length
 ·left
  rw[L5 hi]at h
  exact⟨hi,h⟩
 ·right
  rw[K8 (by omega)]at h
  have:i - xs.length=0:=by
   have:=(gI h)
   simp at this
   omega
  rw[this]at h
  simp at h
  exact⟨by omega,h.symm⟩
theorem b2R{a b:Int}:decide (V.int a=V.int b)=decide (a=b):=by
 by_cases h:a=b
 ·subst h;simp
 ·rw[c7H h,c7H (fun z=>h (V.int.inj z))]
theorem c1f:∀s∈(["a","k0","ab","set","abc","k1","abcdefgh","b","ask","x9","a1","abcdefg","plus","ba","k10","z"]:List Str),NmS s:=by
 have:∀s∈(["a","k0","ab","set","abc","k1","abcdefgh","b","ask","x9","a1","abcdefg","plus","ba","k10","z"]:List Str),a3v s=true/\s.length<=8:=by decide +kernel
 exact this
theorem c1d{K:Fg}{E:XK}(hB:Bag H b c)(k:∀s H',NmS s->Bag H' b c->A7 b H H'->Q (.str s) H'):a7E K [.ref b] H Q E:=by
 refine⟨rfl,?_⟩
 unfold b7E
 walk_at "go"
 refine b3T (small (by decide +kernel)) ?_
 walk_at "go"
 refine E6 hB (by decide) (by decide) fun n H1 n0 n1 B1 k1=>?_
 obtain⟨ch,hc,hc2⟩:=a1O (xs:=("abcdefghijklmnopqrstuvwxyz" : Str).cps.toList) n0 (by
  have:(("abcdefghijklmnopqrstuvwxyz" : Str).cps.toList).length=26:=by decide +kernel
  omega)
 refine b8g (small (by decide +kernel)) hc ?_
 walk_at "go"
 exact_mod_cast X1 (a0y ?_)
 walk_at "go"
 refine E6 B1 (by decide) (by decide) fun m H2 m0 m1 B2 k2=>?_
 walk_at "go"
 refine⟨m,rfl,by omega,by omega,fun D hD=>?_⟩
 obtain⟨nb,nc⟩:=B2.nb hD
 refine a2H (fun i ys H3=>∃cs:List Nat,ys=cs.map (fun k=>V.str (⟨#[k]⟩:Str))/\cs.length=i/\(∀c∈cs,c∈SGN.cps.toList)/\H3 D=some (.lst ys)/\Bag H3 b c/\A7 b H2 H3) ?_ ?_ ?_ ?_
 ·exact⟨[],rfl,rfl,by simp,d8,B2.new hD,A7.new hD⟩
 ·rintro i ys H3 ⟨_,_,_,_,h,_⟩
  exact h
 ·rintro i ys H3 hi ⟨cs,rfl,rfl,h1,hd,B3,k3⟩ R hR
  ext
  refine E6 B3 (by decide) (by decide) fun j H4 j0 j1 B4 k4=>?_
  obtain⟨cj,hcj,hcj2⟩:=a1O (xs:=(("abcdefghijklmnopqrstuvwxyz" : Str)++("0123456789" : Str)).cps.toList) j0 (by
   have:((("abcdefghijklmnopqrstuvwxyz" : Str)++("0123456789" : Str)).cps.toList).length=36:=by decide +kernel
   omega)
  refine b8g (small (by decide +kernel)) hcj ?_
  refine hR _ _ (k4.1 _ _ hd nb) (F6 (by rw[a8];omega)) ⟨cs++[cj],by simp,by simp,?_,d8,B4.put nb nc,(k3.trans k4).put hD⟩
  intro s hs
  rcases i8.mp hs with q | q
  ·exact h1 s q
  ·rw[c6.mp q,<-b7K]
   exact mI hcj2
 ·rintro ys H3 ⟨cs,rfl,hn,h1,hd,B3,k3⟩
  ext
  have he:cs.map (fun k=>V.str (⟨#[k]⟩:Str))=(cs.map fun k=>(⟨#[k]⟩:Str)).map V.str:=by rw[M7];rfl
  rw[he]at hd
  have hsum:((cs.map fun k=>(⟨#[k]⟩:Str)).map (·.length)).sum=cs.length:=by
   clear hn hd he h1
   induction cs with
   | nil=>rfl
   | cons s r ih=>
    rw[E7,E7,List.sum_cons,ih,v7]
    show 1+_=_
    omega
  refine c2Q hd (a5d _) ?_ ?_
  ·rw[hsum,a8]
   show cs.length+cs.length * 0<=_
   omega
  ·have hj:Txt.join (Str.ofString "") (cs.map fun k=>(⟨#[k]⟩:Str))=⟨cs.toArray⟩:=b4r cs
   rw[hj]
   have hl7:cs.length<=7:=by omega
   have hN:=c5K (mI hc2) h1 hl7
   refine b3T (small ?_) ?_
   ·have:=hN.2
    rw[Str.length_append]at this
    omega
   ·exact k _ _ hN B3 ((k1.trans k2).trans k3)
theorem b9u(ss:List Str):(ss.map V.str).all J0=true:=by
 rw[A8]
 intro x hx
 obtain⟨s,_,rfl⟩:=u8.mp hx
 rfl
theorem b2E{K:Fg}{E:XK}(hB:Bag H b c)(k:∀a H',a2t H' a->Bag H' b c->A7 b H H'->H a=none->Q (.ref a) H'):a3P K [.ref b] H Q E:=by
 refine⟨rfl,?_⟩
 unfold b4K
 walk_at "go"
 refine z6 (by decide) fun p1 G1 h1 e1 s1=>?_
 walk_at "go"
 refine z6 (by decide) fun p2 G2 h2 e2 s2=>?_
 walk_at "go"
 refine b3U (s2 _ _ e1) e2 (z6 (by decide) fun p3 H0 h3 e3 s3'=>?_)
 have s3:p9 H H0:=(s1.trans s2).trans s3'
 have B0:=hB.same s3
 obtain⟨M,hM⟩:∃M:List Str,M=(["a","k0","ab","set","abc","k1","abcdefgh","b","ask","x9","a1","abcdefg","plus","ba","k10","z"]:List Str):=⟨_,rfl⟩
 have hm:H0 p3=some (.lst (M.map V.str)):=by rw[e3,hM];rfl
 have nM:∀s∈M,NmS s:=by rw[hM];exact c1f
 have lM:M.length=16:=by rw[hM];rfl
 clear hM e1 e2 e3 h1 h2 h3 s1 s2 s3'
 walk_at "go"
 refine E6 B0 (by decide) (by decide) fun f H1 f0 f1 B1 k1=>?_
 walk_at "go"
 refine E6 B1 (by decide) (by decide) fun g H2 g0 g1 B2 k2=>?_
 refine a0c (.inl (by omega)) ?_
 walk_at "go"
 exists z6 (by decide) fun D H2' hD hd2 s2=>?_
 have pb:p3≠b:=by
  obtain⟨i0,i1,i2,ns,hb,_⟩:=B0.ex
  refine O0 hm hb ?_
  intro z
  have z:=HO.lst.inj z
  cases M with
  | nil=>cases lM
  | cons s r=>cases z
 have hm2:H2 p3=some (.lst (M.map V.str)):=k2.1 _ _ (k1.1 _ _ hm pb) pb
 obtain⟨nb,nc⟩:=B2.nb hD
 have hDp:D≠p3:=(d4 hm2 hD).symm
 exact_mod_cast a0x ?_
 exact_mod_cast a0n (a0y ?_)
 walk_at "go"
 refine E6 (B2.same s2) (by decide) (by decide) fun m H3 m0 m1 B3 k3=>?_
 walk_at "go"
 have hd3:H3 D=some (.lst (([]:List Str).map V.str)):=k3.1 _ _ hd2 nb
 have k03:A7 b H2 H3:=(A7.of_same s2).trans k3
 refine⟨2+m,rfl,by omega,by omega,a0p (fun i σ H4=>∃x5 x6 ss,(∀s∈(ss:List Str),NmS s)/\σ=[some (.ref b),some (.ref p3),some (.int f),some (.int (1+2 * g)),some (.ref D),x5,x6]/\H4 D=some (.lst ((ss:List Str).map V.str))/\ss.length<=i/\(0<i->ss≠[])/\Bag H4 b c/\A7 b H2 H4) ?_ ?_ ?_⟩
 ·exact⟨_,_,[],by simp,rfl,hd3,d5 _,by simp,B3,k03⟩
 ·rintro i _ H4 hi ⟨x5,x6,ss,hss,rfl,hd,hl,hne,B4,k4⟩
  have hi:i<(2+m).toNat:=hi
  ext
  exact_mod_cast a0z (P:=fun σ H5=>∃s,NmS s/\σ=[some (.ref b),some (.ref p3),some (.int f),some (.int (1+2 * g)),some (.ref D),some (.int (0+i)),some (.str s)]/\H5 D=some (.lst ((ss:List Str).map V.str))/\Bag H5 b c/\A7 b H2 H5) ?_ ?_
  ·rintro _ H5 ⟨s,hs,rfl,hd5,B5,k5⟩
   exact_mod_cast a0z (P:=fun σ H6=>∃s,NmS s/\σ=[some (.ref b),some (.ref p3),some (.int f),some (.int (1+2 * g)),some (.ref D),some (.int (0+i)),some (.str s)]/\H6 D=some (.lst ((ss:List Str).map V.str))/\Bag H6 b c/\A7 b H2 H6) ?_ ?_
   ·rintro _ H6 ⟨s,hs,rfl,hd6,B6,k6⟩
    ext
    exists c2N hd6 rfl (b9u ss) ?_
    refine a0C (fun e=>?_) (fun e=>?_)
    ·ext
     specialize a6J ?_
     exists ⟨.inl ⟨rfl,_,SqL.of hd6⟩,?_⟩
     refine a0B hd6 (F6 (by rw[a8];omega)) ?_
     exact⟨_,_,ss++[s],b9X hss hs,rfl,by rw[d8];simp,by rw[c9,G8];omega,fun _=>by simp,B6.put nb nc,k6.put hD⟩
    ·ext
     refine⟨_,_,ss,hss,rfl,hd6,by omega,fun _ z=>?_,B6,k6⟩
     subst z
     exact e rfl
   ·intro nx hnx
    ext
    exists E6 B5 (by decide) (by decide) fun q H6 _ _ B6 k6=>?_
    refine a0C (fun _=>?_) (fun _=>?_)
    ·ext
     exists c1d B6 fun s' H7 hs' B7 k7=>?_
     exact hnx _ _ ⟨s',hs',rfl,k7.1 _ _ (k6.1 _ _ hd5 nb) nb,B7,(k5.trans k6).trans k7⟩
    ·ext
     exact hnx _ _ ⟨s,hs,rfl,k6.1 _ _ hd5 nb,B6,k5.trans k6⟩
  ·intro nx hnx
   ext
   exists a0c (.inl (by omega)) ?_
   refine a0c (by decide) ?_
   obtain⟨v,hv,hv2⟩:=a1O (xs:=M.map V.str) (i:=(f+(0+(i:Int)) * (1+2 * g)) % 16) (T5 _ (by decide)) (by
    rw[a8,lM]
    exact Q7 _ (by decide))
   obtain⟨s,hsM,rfl⟩:=u8.mp (mI hv2)
   exists J2 (k4.1 _ _ hm2 pb) hv ?_
   exact hnx _ _ ⟨s,nM s hsM,rfl,hd,B4,k4⟩
 ·rintro _ H4 ⟨x5,x6,ss,hss,rfl,hd,hl,hne,B4,k4⟩
  walk_at "go"
  refine k D H4 ⟨ss,hd,hne (by omega),by omega,hss⟩ B4 (((A7.of_same s3).trans (k1.trans k2)).trans k4) ?_
  exact(A7.of_same (b:=b) s3).none (k1.none (k2.none hD))
theorem c5u:(10:Int) ^ (12:Int).toNat=1000000000000:=by decide
theorem b7z{K:Fg}{E:XK}(hB:Bag H b c)(k:∀n H',0<=n->n<1000000000000->Bag H' b c->A7 b H H'->Q (.int n) H'):a5S K [.ref b] H Q E:=by
 refine⟨rfl,?_⟩
 unfold b4J
 walk_at "go"
 refine a0c ⟨by decide,by decide,by decide⟩ ?_
 walk_at "go"
 refine E6 hB (by decide) (by decide) fun n1 H1 a0 a1 B1 k1=>?_
 walk_at "go"
 refine E6 B1 (by decide) (by decide) fun n2 H2 b0 b1 B2 k2=>?_
 walk_at "go"
 refine z6 (by simp) fun p G hp e s=>?_
 walk_at "go"
 refine E6 (B2.same s) (by decide) (by decide) fun n3 H3 c0 c1 B3 k3=>?_
 have hp3:=k3.1 p _ e (B2.nb hp).1
 rw[c5u]at hp3
 have kk:A7 b H H3:=(k1.trans k2).trans ((A7.of_same s).trans k3)
 obtain⟨v,hv,hv2⟩:=a1O (xs:=([.int 0,.int 1,.int (1000000000000 - 1 - n1),.int n2]:List V)) c0 (by simpa using c1)
 refine J2 hp3 hv ?_
 have:∃n,v=.int n/\0<=n/\n<1000000000000:=by
  have m:=mI hv2
  simp only[g6,j8,or_false]at m
  rcases m with rfl | rfl | rfl | rfl
  ·exact⟨0,rfl,by decide,by decide⟩
  ·exact⟨1,rfl,by decide,by decide⟩
  ·exact⟨_,rfl,by omega,by omega⟩
  ·exact⟨_,rfl,by omega,by omega⟩
 obtain⟨n,rfl,q0,q1⟩:=this
 exact k n H3 q0 q1 B3 kk
theorem a1N{K:Fg}{E:XK}(hB:Bag H b c)(hN:a2t H a)(k:∀v H',OpN v->Bag H' b c->A7 b H H'->Q v H'):Y1 K [.ref b,.ref a] H Q E:=by
 refine⟨rfl,?_⟩
 unfold a9H
 nofun
 exists E6 hB (by decide) (by decide) fun n1 H1 a0 a1 B1 k1=>?_
 refine a0C (fun _=>?_) (fun _=>?_)
 ·ext
  exact b7z B1 fun n H2 q0 q1 B2 k2=>k _ _ (.inr ⟨n,rfl,q0,q1⟩) B2 (k1.trans k2)
 ·ext
  obtain⟨N1,ne⟩:=hN.kept hB k1
  obtain⟨ss,h1,h2,h3,h4⟩:=N1.ex
  exists R7 h1 ?_
  have hl:0<ss.length:=b9E.mpr h2
  refine E6 B1 (by rw[a8];omega) (by rw[a8];omega) fun n2 H2 b0 b1 B2 k2=>?_
  obtain⟨v,hv,hv2⟩:=a1O (xs:=ss.map V.str) b0 b1
  obtain⟨s,hs,rfl⟩:=u8.mp (mI hv2)
  exact J2 (k2.1 _ _ h1 ne) hv (k _ _ (.inl ⟨s,rfl,h4 s hs⟩) B2 (k1.trans k2))
theorem b5i{K:Fg}{E:XK}(hB:Bag H b c)(hN:a2t H a)(k:∀p H',a4Z H' p->H p=none->Bag H' b c->A7 b H H'->Q (.ref p) H'):a5U K [.ref b,.ref a] H Q E:=by
 refine⟨rfl,?_⟩
 unfold b7H
 nofun
 exists z6 (by decide) fun p G hp e s=>?_
 refine E6 (hB.same s) (by decide) (by decide) fun n1 H1 a0 a1 B1 k1=>?_
 have hp1:=k1.1 p _ e (hB.nb hp).1
 have k01:A7 b H H1:=(A7.of_same s).trans k1
 obtain⟨v,hv,hv2⟩:=a1O (xs:=([.str "plus",.str "minus",.str "times",.str "less",.str "same"]:List V)) a0 (by simpa using a1)
 refine J2 hp1 hv ?_
 have:∃kd:Str,v=.str kd/\kd∈(["plus","minus","times","less","same"]:List Str):=by
  have m:=mI hv2
  simp only[g6,j8,or_false]at m
  rcases m with rfl | rfl | rfl | rfl | rfl <;> exact⟨_,rfl,by simp⟩
 obtain⟨kd,rfl,hkd⟩:=this
 ext
 nofun
 obtain⟨N1,_⟩:=hN.kept hB k01
 exists a1N B1 N1 fun v1 H2 o1 B2 k2=>?_
 nofun
 obtain⟨N2,_⟩:=N1.kept B1 k2
 exists a1N B2 N2 fun v2 H3 o2 B3 k3=>?_
 exact_mod_cast a0z (P:=fun σ H4=>∃v2,σ=[some (.ref b),some (.ref a),some (.str kd),some v1,some v2]/\OpN v2/\Bag H4 b c/\A7 b H3 H4) ?_ ?_
 ·rintro _ H4 ⟨v2,rfl,o2,B4,k4⟩
  ext
  refine z6 (by simp) fun q G hq e s=>?_
  exact k q _ ⟨kd,v1,v2,e,o1,o2,hkd⟩ (k01.none (k2.none (k3.none (k4.none hq)))) (B4.same s) ((((k01.trans k2).trans k3).trans k4).trans (A7.of_same s))
 ·intro nx hnx
  ext
  exists E6 B3 (by decide) (by decide) fun n4 H4 d0 d1 B4 k4=>?_
  refine a0C (fun _=>?_) (fun _=>?_)
  ·ext
   exact hnx _ _ ⟨v1,rfl,o1,B4,k4⟩
  ·ext
   exact hnx _ _ ⟨v2,rfl,o2,B4,k4⟩
def a6o(ps:List Addr)(H:Hp)(v:V):Prop:=∃q xs,v=.ref q/\H q=some (.tup xs)/\∀n d,xs=[.str "set",n,.ref d]->d∈ps
theorem a6o.ts(h:a6o ps H v)(t:K7 H H'):a6o ps H' v:=let⟨q,xs,e,h,i⟩:=h; ⟨q,xs,e,t _ _ h,i⟩
theorem a8A{q:Addr}{kd:Str}{r:List V}(h:H q=some (.tup (.str kd::r)))(hk:kd ≠ "set"):a6o ps H (.ref q):=⟨q,_,rfl,h,fun n d e=>absurd (V.str.inj (List.cons.inj e).1) hk⟩
theorem b8c{K:Fg}{E:XK}(hB:Bag H b c)(hN:a2t H a)(hP:b0f H p)(hps:H p=some (.lst (ps.map V.ref)))(k:∀v H',a7B H' v (m == 2)->a6o ps H' v->Bag H' b c->A7 b H H'->Q v H'):a8g K [.ref b,.ref a,.ref p,.int (m:Int)] H Q E:=by
 refine⟨rfl,?_⟩
 unfold c1V
 nofun
 by_cases h2:m=2
 ·subst h2
  exists D9 (by decide) ?_
  exists a1N hB hN fun v H1 o1 B1 k1=>?_
  refine z6 (by simp) fun q G hq e s=>?_
  exact k _ _ ⟨q,_,rfl,e,.ask v o1,_,_,rfl,by decide⟩ (a8A e (by decide)) (B1.same s) (k1.trans (A7.of_same s))
 have hm:(m == 2)=false:=by simpa using h2
 rw[hm]at k
 exists y0 (c7H (by intro z;have:=V.int.inj z;omega)) ?_
 nofun
 exists E6 hB (by decide) (by decide) fun w H1 w0 w1 B1 k1=>?_
 nofun
 obtain⟨N1,na⟩:=hN.kept hB k1
 have P1:=hP.kept hB k1
 obtain⟨ss,s1,s2,s3,s4⟩:=N1.ex
 exists R7 s1 ?_
 refine b4X B1 s1 na (by simpa using s2) (by rw[a8];omega) fun n v H2 e1 e2 a2 B2 k2=>?_
 refine J2 a2 e1 ?_
 obtain⟨s,hs,rfl⟩:=u8.mp e2
 have ns:=s4 s hs
 ext
 obtain⟨N2,_⟩:=N1.kept B1 k2
 have P2:=P1.kept B1 k2
 have k02:=k1.trans k2
 nofun
 refine a0C (fun _=>?_) (fun _=>?_)
 ·obtain⟨ps',p1,p2,p3,p4⟩:=P2.ex
  obtain rfl:ps'=ps:=by
   rw[k02.1 _ _ hps (a0A hB hps)]at p1
   exact(a0O (f:=V.ref) (fun a b h=>V.ref.inj h) |>.mp (HO.lst.inj (Option.some.inj p1))).symm
  ext
  exists R7 p1 ?_
  refine b4X B2 p1 (a0A B2 p1) (by simpa using p2) (by rw[a8];omega) fun n v H3 f1 f2 a3 B3 k3=>?_
  refine J2 a3 f1 ?_
  obtain⟨d,hd,rfl⟩:=u8.mp f2
  have hd3:=(p4 d hd).ts (A7.ts k3 B2)
  ext
  refine z6 (by simp) fun q G hq e s=>?_
  exact k _ _ ⟨q,_,rfl,e,.set _ d ns (hd3.ts (p9.ts s)),_,_,rfl,by decide⟩ ⟨q,_,rfl,e,fun n d' z=>by cases z;exact hd⟩ (B3.same s) ((k02.trans k3).trans (A7.of_same s))
 ext
 nofun
 refine a0C (fun _=>?_) (fun _=>?_)
 ·ext
  exists a1N B2 N2 fun v H3 o1 B3 k3=>?_
  refine z6 (by simp) fun q G hq e s=>?_
  exact k _ _ ⟨q,_,rfl,e,.copy _ v ns o1,_,_,rfl,by decide⟩ (a8A e (by decide)) (B3.same s) ((k02.trans k3).trans (A7.of_same s))
 ext
 nofun
 refine a0C (fun _=>?_) (fun _=>?_)
 ·ext
  refine z6 (by simp) fun q G hq e s=>?_
  exact k _ _ ⟨q,_,rfl,e,.take _ ns,_,_,rfl,by decide⟩ (a8A e (by decide)) (B2.same s) (k02.trans (A7.of_same s))
 ext
 exists a1N B2 N2 fun v H3 o1 B3 k3=>?_
 exists z6 (by simp) fun q1 G1 hq1 e1 s1=>?_
 exists z6 (by simp) fun q2 G2 hq2 e2 s2=>?_
 exists z6 (by simp) fun q3 G3 hq3 e3 s3=>?_
 have sB:=(B3.same s1).same s2
 refine E6 (sB.same s3) (by decide) (by decide) fun j H4 j0 j1 B4 k4=>?_
 obtain⟨x,hx,hx2⟩:=a1O (xs:=[V.ref q1,V.ref q2]) j0 (by simpa using j1)
 refine J2 (k4.1 _ _ e3 (sB.nb hq3).1) hx ?_
 have kk:A7 b H H4:=(k02.trans k3).trans ((A7.of_same ((s1.trans s2).trans s3)).trans k4)
 have f1:H4 q1=_:=k4.1 _ _ (s3 _ _ (s2 _ _ e1)) (B3.nb hq1).1
 have f2:H4 q2=_:=k4.1 _ _ (s3 _ _ e2) ((B3.same s1).nb hq2).1
 have m:=mI hx2
 simp only[g6,j8,or_false]at m
 rcases m with rfl | rfl
 ·exact k _ _ ⟨q1,_,rfl,f1,.tell v o1,_,_,rfl,by decide⟩ (a8A f1 (by decide)) B4 kk
 ·exact k _ _ ⟨q2,_,rfl,f2,.skip,_,_,rfl,by decide⟩ (a8A f2 (by decide)) B4 kk
theorem c3S{K:Fg}{E:XK}(hB:Bag H b c)(m0:0<m)(m1:m<=24)
  (k:∀a N H',D7 H' a N->N.length=m->(∀l∈N,l.length<=2/\∀t∈l,t<m)->N[m - 1]? = some []->Bag H' b c->A7 b H H'->Q (.ref a) H'):b0w K [.ref b,.int (m:Int)] H Q E:=by
 refine⟨rfl,?_⟩
 unfold c1W
 nofun
 exists z6 (by simp) fun D H1 hD e1 s1=>?_
 obtain⟨nb,nc⟩:=hB.nb hD
 have B1:=hB.same s1
 exact_mod_cast a0x ?_
 specialize a0n (a0y ?_)
 refine⟨m,rfl,by omega,by omega,?_⟩
 rw[l5]
 refine a0p (fun i σ H2=>∃x3 x4 x5 x6 as N,σ=[some (.ref b),some (.int (m:Int)),some (.ref D),x3,x4,x5,x6]/\a9z H H2 b c D m as N/\N.length=i/\(i=m->N[m - 1]? = some [])) ?_ ?_ ?_
 ·exact⟨_,_,_,_,[],[],rfl,⟨B1,A7.of_same s1,e1,nb,nc,rfl,fun i x l e=>by simp at e,fun l h=>by simp at h⟩,rfl,fun z=>by omega⟩
 ·rintro i _ H2 hi ⟨x3,x4,x5,x6,as,N,rfl,I2,hlen,_⟩
  ext
  rw[X5]
  nofun
  exists c5k ?_
  obtain⟨r,hr,hrm⟩:∃r:Nat,(if(m:Int) - 1<(i:Int)+1 then (m:Int) - 1 else (i:Int)+1)=(r:Int)/\r<m:=by
   by_cases h:(m:Int) - 1<(i:Int)+1
   ·exact⟨m - 1,by rw[if_pos h];omega,by omega⟩
   ·exact⟨i+1,by rw[if_neg h];omega,by omega⟩
  rw[hr]
  nofun
  refine E6 I2.bag (by omega) (by omega) fun j H3 j0 j1 B3 k3=>?_
  obtain⟨j,rfl⟩:=W1 j0
  ext
  exists z6 (by simp) fun q H4 hq e4 s4=>?_
  have I3:=I2.next B3 k3
  have I4:=I3.next (B3.same s4) (A7.of_same s4)
  have S4:a6n H4 b D q m [r,j]:=⟨e4,(d4 I3.hD hq).symm,(B3.nb hq).1,by simp,fun t ht=>by
   simp only[g6,j8,or_false]at ht
   rcases ht with rfl | rfl
   ·exact hrm
   ·omega⟩
  nofun
  exists E6 I4.bag (by decide) (by decide) fun w H5 w0 w1 B5 k5=>?_
  have I5:=I4.next B5 k5
  have S5:=S4.next k5
  exact_mod_cast a0z (P:=fun σ H6=>∃q l,σ=[some (.ref b),some (.int (m:Int)),some (.ref D),some (.int (i:Int)),some (.int (r:Int)),some (.ref q),some (.int w)]/\a9z H H6 b c D m as N/\a6n H6 b D q m l/\l.length=2) ?_ ?_
  rotate_left
  ·intro nx hnx
   ext
   refine a0C (fun _=>?_) (fun _=>?_)
   ·ext
    exists J2 S5.h (a3p _ _ _) ?_
    refine z6 (by simp) fun q6 H6 hq6 e6 s6=>?_
    exact hnx _ _ ⟨q6,[j,r],rfl,I5.next (B5.same s6) (A7.of_same s6),⟨e6,(d4 I5.hD hq6).symm,(B5.nb hq6).1,by simp,fun t ht=>by
     simp only[g6,j8,or_false]at ht
     rcases ht with rfl | rfl
     ·exact S5.lt _ (by simp)
     ·exact S5.lt _ (by simp)⟩,rfl⟩
   ·ext
    exact hnx _ _ ⟨q,[r,j],rfl,I5,S5,rfl⟩
  rintro _ H6 ⟨q,l,rfl,I6,S6,hl6⟩
  obtain⟨l0,l1,rfl⟩:∃l0 l1,l=[l0,l1]:=by
   match l,hl6 with
   | [a,b],_=>exact⟨a,b,rfl⟩
  exact_mod_cast a0z (P:=fun σ H6=>∃q l,σ=[some (.ref b),some (.int (m:Int)),some (.ref D),some (.int (i:Int)),some (.int (r:Int)),some (.ref q),some (.int w)]/\a9z H H6 b c D m as N/\a6n H6 b D q m l/\l.length=2) ?_ ?_
  rotate_left
  ·intro nx hnx
   ext
   refine a0C (fun _=>?_) (fun _=>?_)
   ·ext
    exists J2 S6.h (a3p _ _ _) ?_
    refine E6 I6.bag (by omega) (by omega) fun j2 H7 z0 z1 B7 k7=>?_
    obtain⟨j2,rfl⟩:=W1 z0
    ext
    have I7:=I6.next B7 k7
    refine z6 (by simp) fun q8 H8 hq8 e8 s8=>?_
    exact hnx _ _ ⟨q8,[l1,j2],rfl,I7.next (B7.same s8) (A7.of_same s8),⟨e8,(d4 I7.hD hq8).symm,(B7.nb hq8).1,by simp,fun t ht=>by
     simp only[g6,j8,or_false]at ht
     rcases ht with rfl | rfl
     ·exact S6.lt _ (by simp)
     ·omega⟩,rfl⟩
   ·ext
    exact hnx _ _ ⟨q,_,rfl,I6,S6,rfl⟩
  clear S6 I6 l0 l1 hl6 S5 I5 S4 I4 I3 B3 k3 B5 k5 s4 e4 hq
  rintro _ H6 ⟨q,l,rfl,I6,S6,hl6⟩
  obtain⟨l0,l1,rfl⟩:∃l0 l1,l=[l0,l1]:=by
   match l,hl6 with
   | [a,b],_=>exact⟨a,b,rfl⟩
  exact_mod_cast a0z (P:=fun σ H6=>∃q l,σ=[some (.ref b),some (.int (m:Int)),some (.ref D),some (.int (i:Int)),some (.int (r:Int)),some (.ref q),some (.int w)]/\a9z H H6 b c D m as N/\a6n H6 b D q m l/\(w=7->1<m->l.length=2)) ?_ ?_
  rotate_left
  ·intro nx hnx
   have one:∀H7,H7=H6->((w=7/\1<m)->False)->New (.lst [V.int (r:Int)]) 1 H7 fun v H1=>nx [some (.ref b),some (.int (m:Int)),some (.ref D),some (.int (i:Int)),some (.int (r:Int)),some v,some (.int w)] H1:=by
    rintro _ rfl hw
    refine z6 (by simp) fun q8 H8 hq8 e8 s8=>?_
    exact hnx _ _ ⟨q8,[r],rfl,I6.next (I6.bag.same s8) (A7.of_same s8),⟨e8,(d4 I6.hD hq8).symm,(I6.bag.nb hq8).1,by simp,fun t ht=>by rw[c6.mp ht];exact hrm⟩,fun h1 h2=>(hw ⟨h1,h2⟩).elim⟩
   ext
   refine a0C (fun a3=>?_) (fun a3=>?_)
   ·ext
    refine a0C (fun a7=>?_) (fun a7=>?_)
    ·exists D9 rfl ?_
     exact one _ rfl fun⟨z,_⟩=>by have:=of_decide_eq_true a7;omega
    ·ext
     refine a0C (fun a1=>?_) (fun a1=>?_)
     ·ext
      rw[b2R]at a1
      exact one _ rfl fun⟨_,z⟩=>by have:=of_decide_eq_true a1;omega
     ·ext
      exact hnx _ _ ⟨q,_,rfl,I6,S6,fun _ _=>rfl⟩
   ·ext
    exists y0 rfl ?_
    refine a0C (fun a1=>?_) (fun a1=>?_)
    ·ext
     rw[b2R]at a1
     exact one _ rfl fun⟨_,z⟩=>by have:=of_decide_eq_true a1;omega
    ·ext
     exact hnx _ _ ⟨q,_,rfl,I6,S6,fun _ _=>rfl⟩
  clear S6 I6 l0 l1 hl6
  rintro _ H6 ⟨q,l,rfl,I6,S6,hl6⟩
  exact_mod_cast a0z (P:=fun σ H6=>∃q l,σ=[some (.ref b),some (.int (m:Int)),some (.ref D),some (.int (i:Int)),some (.int (r:Int)),some (.ref q),some (.int w)]/\a9z H H6 b c D m as N/\a6n H6 b D q m l) ?_ ?_
  rotate_left
  ·intro nx hnx
   ext
   refine a0C (fun a7=>?_) (fun a7=>?_)
   ·ext
    refine a0C (fun a1=>?_) (fun a1=>?_)
    ·rw[b2R]at a7
     have a7:=of_decide_eq_true a7
     have a1:=of_decide_eq_true a1
     have hl:=hl6 a7 (by omega)
     obtain⟨l0,l1,rfl⟩:∃l0 l1,l=[l0,l1]:=by
      match l,hl with
      | [a,b],_=>exact⟨a,b,rfl⟩
     ext
     exists J2 S6.h (a3p _ _ _) ?_
     refine z6 (by simp) fun q8 H8 hq8 e8 s8=>?_
     exact hnx _ _ ⟨q8,[l1],rfl,I6.next (I6.bag.same s8) (A7.of_same s8),⟨e8,(d4 I6.hD hq8).symm,(I6.bag.nb hq8).1,by simp,fun t ht=>by rw[c6.mp ht];exact S6.lt _ (by simp)⟩⟩
    ·ext
     exact hnx _ _ ⟨q,_,rfl,I6,S6⟩
   ·exists y0 rfl ?_
    exact hnx _ _ ⟨q,_,rfl,I6,S6⟩
  clear S6 I6 hl6 l
  rintro _ H6 ⟨q,l,rfl,I6,S6⟩
  exact_mod_cast a0z (P:=fun σ H6=>∃q l,σ=[some (.ref b),some (.int (m:Int)),some (.ref D),some (.int (i:Int)),some (.int (r:Int)),some (.ref q),some (.int w)]/\a9z H H6 b c D m as N/\a6n H6 b D q m l/\(i+1=m->l=[])) ?_ ?_
  rotate_left
  ·intro nx hnx
   have none:∀H7,a9z H H7 b c D m as N->New (.lst []) 0 H7 fun v H1=>nx [some (.ref b),some (.int (m:Int)),some (.ref D),some (.int (i:Int)),some (.int (r:Int)),some v,some (.int w)] H1:=by
    intro H7 I7
    refine z6 (by simp) fun q8 H8 hq8 e8 s8=>?_
    exact hnx _ _ ⟨q8,[],rfl,I7.next (I7.bag.same s8) (A7.of_same s8),⟨e8,(d4 I7.hD hq8).symm,(I7.bag.nb hq8).1,by simp,fun t ht=>by simp at ht⟩,fun _=>rfl⟩
   ext
   refine a0C (fun a1=>?_) (fun a1=>?_)
   ·exists D9 rfl ?_
    exact none _ I6
   ·rw[b2R]at a1
    have a1:¬((i:Int)=(m:Int) - 1):=fun z=>a1 (c7I z)
    ext
    refine a0C (fun a6=>?_) (fun a6=>?_)
    ·ext
     exists E6 I6.bag (by decide) (by decide) fun z H7 z0 z1 B7 k7=>?_
     refine a0C (fun a0=>?_) (fun a0=>?_)
     ·ext
      exact none _ (I6.next B7 k7)
     ·ext
      exact hnx _ _ ⟨q,l,rfl,I6.next B7 k7,S6.next k7,fun z=>by omega⟩
    ·exists y0 rfl ?_
     exact hnx _ _ ⟨q,l,rfl,I6,S6,fun z=>by omega⟩
  clear S6 I6 l
  rintro _ H6 ⟨q,l,rfl,I6,S6,hlast⟩
  ext
  specialize a6J ?_
  exists ⟨Z1 I6.hD,?_⟩
  refine a0B I6.hD (F6 (by rw[a8,I6.len];omega)) ?_
  have nqc:D≠c:=I6.nc
  refine⟨_,_,_,_,as++[q],N++[l],rfl,⟨I6.bag.put I6.nb nqc,I6.kept.put hD,by rw[d8];simp,I6.nb,I6.nc,by simp[I6.len],?_,?_⟩,by simp[hlen],?_⟩
  ·intro i' x' l' e1' e2'
   rcases P6 e1' with ⟨hi1,f1⟩ | ⟨hi1,f1⟩
   ·rcases P6 e2' with ⟨hi2,f2⟩ | ⟨hi2,f2⟩
    ·obtain⟨g1,g2,g3⟩:=I6.at_ i' x' l' f1 f2
     exact⟨by rw[j5 g2];exact g1,g2,g3⟩
    ·have:=I6.len;omega
   ·rcases P6 e2' with ⟨hi2,f2⟩ | ⟨hi2,f2⟩
    ·have:=I6.len;omega
    ·subst f1 f2
     exact⟨by rw[j5 S6.nD];exact S6.h,S6.nD,S6.nb⟩
  ·intro l' hl'
   rcases i8.mp hl' with z | z
   ·exact I6.small l' z
   ·rw[c6.mp z];exact⟨S6.len,S6.lt⟩
  ·intro z
   rw[hlast z]
   have:m - 1=N.length:=by omega
   rw[this];simp
 ·rintro _ H2 ⟨x3,x4,x5,x6,as,N,rfl,I2,hlen,hlast⟩
  ext
  exact k D N H2 ⟨as,I2.hD,I2.len,fun i x l e1 e2=>(I2.at_ i x l e1 e2).1⟩ hlen I2.small (hlast rfl) I2.bag I2.kept
theorem c5P(xs:List V):a5t xs (some 1) none=xs.drop 1:=by
 cases xs with
 | nil=>rfl
 | cons a r=>rw[c4k];rfl
theorem c1J(l:List Nat)(n:Nat):(IL l).drop n=IL (l.drop n):=by unfold IL;rw[List.map_drop]
theorem b4w(xs:List V):O3 xs []=decide (xs.length=0):=by
 unfold O3
 rw[show min xs.length ([]:List V).length=0 by simp]
 simp only[List.range_zero,c6f,c5U,a4N]
 by_cases h:xs.length=0
 ·rw[h];rfl
 ·rw[c7H h]
  simpa using h
theorem c4q{G:List Nat}(h:(l.map fun t=>decide (t∈G)).any id=true):∃t∈l,t∈G:=by
 obtain⟨x,hx,e⟩:=a0i.mp h
 obtain⟨t,ht,rfl⟩:=u8.mp hx
 exact⟨t,ht,of_decide_eq_true e⟩
theorem b5d{α:Type}(l:List Nat)(f:Nat->α)(i:Nat){t:Nat}(e:l[i]? = some t):(l.take (i+1)).map f=(l.take i).map f++[f t]:=by
 rw[O6,e];simp
structure a3w(H0 H:Hp)(d:Addr)(N:Nt)(G:List Nat):Prop where
 same:p9 H0 H
 hd:H d=some (.dK (KS G))
 nd:G.Nodup
 lt:∀k∈G,k<N.length
 gd:∀k∈G,Gd N k
theorem a3w.next{G:List Nat}(h:a3w H0 H d N G)(s:p9 H H'):a3w H0 H' d N G:=⟨h.same.trans s,s _ _ h.hd,h.nd,h.lt,h.gd⟩
theorem a3w.put{G:List Nat}(h:a3w H0 H d N G)(n:H0 d=none){k:Nat}(hk:k<N.length)(g:Gd N k):a3w H0 (upd H d (.dK (KS (a3Z G k)))) d N (a3Z G k):=
 ⟨fun b o e=>by rw[j5 (d4 e n)];exact h.same b o e,d8,a7J h.nd,fun j hj=>(Y3.mp hj).elim (h.lt j) fun z=>z ▸ hk,fun j hj=>(Y3.mp hj).elim (h.gd j) fun z=>z ▸ g⟩
theorem c1s{K:Fg}{x2 x4 x5 x6:Option V}{G:List Nat}{D:a7c}(n0:H0 d=none)(hn:D7 H a N)(hN:N.length<=24)(hl:N[i]? = some l)(hl2:l.length<=2)(hG:a3w H0 H d N G)
  (k:∀H' G',a3w H0 H' d N G'->(∀j∈G,j∈G')->(l=[]->i∈G')->D7 H' a N->D.nx [some (.ref a),some (.ref d),x2,some (.int (i:Int)),x4,x5,x6] H') :
  K9 (tOr (C0 (tOp qEq (tOp qIx (b8 0) (b8 3)) (P3 (g7)))) (tB (tCB b3Y (b4 (V9 (W0 K (tOp qIx (b8 0) (b8 3))) (U2) (b0r (b8 0) (b8 2))) (g7))))) (a3U (b8 1) (b8 3) (tC (.bl true))) (C8) D
   [some (.ref a),some (.ref d),x2,some (.int (i:Int)),x4,x5,x6] H:=by
 have hi:i<N.length:=(gI hl)
 have hGl:G.length<100000:=by
  have:=a8B _ _ hG.nd hG.lt
  omega
 have put:∀H1,D7 H1 a N->a3w H0 H1 d N G->a≠d->(∀x,H1 x=some (.dK (KS G))->True)->Gd N i->a3U (b8 1) (b8 3) (tC (.bl true)) D [some (.ref a),some (.ref d),x2,some (.int (i:Int)),x4,x5,x6] H1:=by
  intro H1 n1 g1 nad _ gd
  specialize a8p ?_
  refine⟨d,_,rfl,b1o g1.hd hGl i,?_⟩
  refine k _ (a3Z G i) (g1.put n0 hi gd) (fun j hj=>Y3.mpr (.inl hj)) (fun _=>Y3.mpr (.inr rfl)) ?_
  obtain⟨as,q1,q2,q3⟩:=n1.ex
  refine⟨as,by rw[j5 nad];exact q1,q2,fun j x l' e1 e2=>?_⟩
  have q:=q3 j x l' e1 e2
  rw[j5 (O0 q g1.hd (by intro z;cases z))]
  exact q
 obtain⟨xs,x,h1,h2,h3,_⟩:=hn.at hl
 have nad:a≠d:=O0 h1 hG.hd (by intro z;cases z)
 ext
 exists J2 h1 h2 ?_
 refine z6 (by simp) fun p H1 hp e1 s1=>?_
 refine⟨_,c1v (s1 _ _ h3) e1 (c1I l) rfl,?_⟩
 rw[b4w,R8]
 ext
 by_cases hz:l=[]
 ·refine D9 (c7I (by rw[hz];rfl)) ?_
  refine D9 rfl ?_
  exact put H1 (hn.same s1) (hG.next s1) nad (fun _ _=>trivial) (.stop (hz ▸ hl))
 exists y0 (c7H fun z=>hz (a3D.mp z)) ?_
 specialize X1 (T9 ?_)
 refine J2 (s1 _ _ h1) h2 ?_
 refine⟨x,rfl,⟨_,SqL.of (s1 _ _ h3)⟩,fun E hE=>?_⟩
 have G1:=hG.next s1
 refine Y4 (xs:=IL l) (fun j ys H2=>ys=(l.take j).map (fun t=>V.bl (decide (t∈G)))/\H2 E=some (.lst ys)/\p9 H1 H2) ⟨by simp,d8,w4 hE⟩ ?_ ?_ ?_ ?_
 ·rintro j ys H2 ⟨_,h,_⟩
  exact h
 ·rintro j ys H2 _ ⟨_,_,s2⟩
  exact SqL.of (s2 _ _ (s1 _ _ h3))
 ·rintro j y ys H2 hy ⟨rfl,hE2,s2⟩ R hR
  have hy:(l.map fun(n:Nat)=>V.int (n:Int))[j]? = some y:=hy
  rw[b7]at hy
  cases ht:l[j]? with
  | none=>rw[ht]at hy;cases hy
  | some t=>
   rw[ht]at hy
   cases hy
   have hj:=(gI ht)
   specialize b7Y ?_
   obtain⟨o,g1,g2⟩:=a4D (s2 _ _ G1.hd) t
   refine⟨d,o,rfl,g1,?_⟩
   rw[g2]
   refine hR _ _ hE2 (F6 ?_) ⟨?_,d8,fun b o e=>?_⟩
   ·rw[a8,P5]
    omega
   ·rw[b5d l _ j ht]
   ·rw[j5 (d4 e hE)];exact s2 b o e
 ·rintro ys H2 ⟨rfl,hE2,s2⟩
  rw[R8,V5]at hE2
  have he:l.map (fun t=>V.bl (decide (t∈G)))=(l.map fun t=>decide (t∈G)).map V.bl:=by rw[M7];rfl
  rw[he]at hE2
  ext
  exists c5m hE2 ?_
  refine a0C (fun c=>?_) (fun c=>?_)
  ·obtain⟨t,t1,t2⟩:=c4q c
   exact put H2 ((hn.same s1).same s2) (G1.next s2) nad (fun _ _=>trivial) (.step hl t1 (hG.gd t t2))
  ·ext
   exact k H2 G (G1.next s2) (fun j hj=>hj) (fun z=>(hz z).elim) ((hn.same s1).same s2)
structure b1D(H0 H:Hp)(d:Addr)(N:Nt)(S:List Nat):Prop where
 same:p9 H0 H
 hd:H d=some (.dK (KS S))
 nd:S.Nodup
 lt:∀k∈S,k<N.length
 rc:∀k∈S,Rc N k
 zero:0∈S
theorem b1D.put{S:List Nat}(h:b1D H0 H d N S)(n:H0 d=none){k:Nat}(hk:k<N.length)(g:Rc N k):b1D H0 (upd H d (.dK (KS (a3Z S k)))) d N (a3Z S k):=
 ⟨fun b o e=>by rw[j5 (d4 e n)];exact h.same b o e,d8,a7J h.nd,fun j hj=>(Y3.mp hj).elim (h.lt j) fun z=>z ▸ hk,fun j hj=>(Y3.mp hj).elim (h.rc j) fun z=>z ▸ g,Y3.mpr (.inl h.zero)⟩
def a5w(N:Nt)(S:List Nat):Prop:=∀k∈S,∀l,N[k]? = some l->∀t∈l,t∈S
theorem c0n{S:List Nat}{k:Nat}(h:k∈S):a3Z S k=S:=by unfold a3Z;rw[if_pos h]
theorem D7.dput{ks:List (Key×V)}(h:D7 H a N)(hd:H d=some (.dK ks)):D7 (upd H d o) a N:=by
 obtain⟨as,q1,q2,q3⟩:=h.ex
 exact⟨as,by rw[j5 (O0 q1 hd (by intro z;cases z))];exact q1,q2,fun j x l e1 e2=>by
  have q:=q3 j x l e1 e2
  rw[j5 (O0 q hd (by intro z;cases z))];exact q⟩
theorem b8e{K:Fg}{x1 x2 x5 x6:Option V}{S:List Nat}{D:a7c}(n0:H0 d=none)(hn:D7 H a N)(hN:N.length<=24)(hl:N[i]? = some l)(hlt:∀t∈l,t<N.length)(hS:b1D H0 H d N S)
  (k:∀H' S' x5,b1D H0 H' d N S'->(∀j∈S,j∈S')->(i∈S->∀t∈l,t∈S')->(a5w N S->S'=S)->D7 H' a N->D.nx [some (.ref a),x1,x2,some (.int (i:Int)),some (.ref d),x5,x6] H') :
  K9 (tB (b0r (b8 3) (b8 4))) (a1o (W0 K (tOp qIx (b8 0) (b8 3))) (o9 5) (a3U (b8 4) (b8 5) (tC (.bl true)))) (C8) D [some (.ref a),x1,x2,some (.int (i:Int)),some (.ref d),x5,x6] H:=by
 ext
 specialize b7Y ?_
 obtain⟨o,g1,g2⟩:=a4D hS.hd i
 refine⟨d,o,rfl,g1,?_⟩
 rw[g2]
 ext
 refine a0C (fun c=>?_) (fun c=>?_)
 ·have hi:i∈S:=of_decide_eq_true c
  obtain⟨xs,x,h1,h2,h3,_⟩:=hn.at hl
  specialize a0n (T9 ?_)
  refine J2 h1 h2 ?_
  refine⟨x,rfl,⟨_,SqL.of h3⟩,a0D (xs:=IL l) (fun j σ H2=>∃S' x5,σ=[some (.ref a),x1,x2,some (.int (i:Int)),some (.ref d),x5,x6]/\b1D H0 H2 d N S'/\(∀j∈S,j∈S')/\(∀t∈l.take j,t∈S')/\(a5w N S->S'=S)/\D7 H2 a N/\H2 x=some (.lst (IL l))) ?_ ?_ ?_ ?_⟩
  ·exact⟨S,x5,rfl,hS,fun _ h=>h,by simp,fun _=>rfl,hn,h3⟩
  ·rintro j σ H2 _ ⟨_,_,_,_,_,_,_,_,h⟩
   exact SqL.of h
  ·rintro j y _ H2 hy ⟨S',x5,rfl,I2,i1,i2,i3,n2,hx2⟩
   have hy:(l.map fun(n:Nat)=>V.int (n:Int))[j]? = some y:=hy
   rw[b7]at hy
   cases ht:l[j]? with
   | none=>rw[ht]at hy;cases hy
   | some t=>
    rw[ht]at hy
    cases hy
    have tm:=mI ht
    ext
    specialize a8p ?_
    refine⟨d,_,rfl,b1o I2.hd (by have:=a8B _ _ I2.nd I2.lt;omega) t,?_⟩
    refine⟨a3Z S' t,_,rfl,I2.put n0 (hlt t tm) (.step (hS.rc i hi) hl tm),fun j hj=>Y3.mpr (.inl (i1 j hj)),fun z hz=>?_,fun hc=>?_,n2.dput I2.hd,?_⟩
    ·rw[O6,ht]at hz
     rcases i8.mp hz with q | q
     ·exact Y3.mpr (.inl (i2 z q))
     ·exact Y3.mpr (.inr (by simpa using q))
    ·rw[i3 hc]
     exact c0n (hc i hi l hl t tm)
    ·rw[j5 (O0 hx2 I2.hd (by intro z;cases z))];exact hx2
  ·rintro _ H2 ⟨S',x5,rfl,I2,i1,i2,i3,n2,hx2⟩
   refine k H2 S' x5 I2 i1 (fun _ t ht=>i2 t ?_) i3 n2
   rw[R8,V5];exact ht
 ·ext
  exact k H S x5 hS (fun _ h=>h) (fun h=>(c (c7I h)).elim) (fun _=>rfl) hn
theorem b2D{ms:List Int}{S:List Nat}(h:ms.Perm (S.map fun(n:Nat)=>(n:Int))):∃O:List Nat,O.Perm S/\ms=O.map fun(n:Nat)=>(n:Int):=by
 refine⟨ms.map b5s,?_,?_⟩
 ·have:=h.map b5s
  rw[M7]at this
  have e:(b5s ∘ fun(n:Nat)=>(n:Int))=id:=by funext n;simp
  rw[e,a9C]at this
  exact this
 ·rw[M7]
  have:∀x∈ms,((fun(n:Nat)=>(n:Int)) ∘ b5s) x=id x:=by
   intro x hx
   obtain⟨n,_,rfl⟩:=u8.mp (h.subset hx)
   simp
  rw[V3 this,a9C]
theorem b3F{O:List Nat}(h:(O.map fun(n:Nat)=>(n:Int)).Pairwise (· <= ·)):O.Pairwise (· <= ·):=by
 rw[List.pairwise_map]at h
 exact h.imp fun q=>by omega
theorem b8Z(O:List Nat)(t:Nat):(O.map fun(n:Nat)=>(n:Int)).idxOf (t:Int)=O.idxOf t:=by
 induction O with
 | nil=>rfl
 | cons a r ih=>
  rw[E7,c4A,c4A]
  by_cases e:a=t
  ·subst e;simp
  ·have:((a:Int) == (t:Int))=false:=by simp;omega
   have e2:(a == t)=false:=by simpa using e
   rw[this,e2,ih]
theorem M8(h:i<N.length):N[i]? = some N[i]:=by simp
theorem b6p{K:Fg}{E:XK}(hn:D7 H a N)(hp:0<N.length)(hN:N.length<=24)(hs:∀l∈N,l.length<=2/\∀t∈l,t<N.length)(hl:N[N.length - 1]? = some [])
  (k:∀a' N' H',D7 H' a' N'->a2J N'->N'.length<=24->p9 H H'->Q (.ref a') H'):a4v K [.ref a] H Q E:=by
 refine⟨rfl,?_⟩
 unfold b1X
 nofun
 exists b3R fun d H1 hd e1 s1=>?_
 have n1:=hn.same s1
 obtain⟨xs0,hx0,lx0⟩:=hn.len
 exact_mod_cast a0z (P:=fun σ H2=>∃x2 x3 G,σ=[some (.ref a),some (.ref d),x2,x3,none,none,none]/\a3w H H2 d N G/\N.length - 1∈G/\D7 H2 a N) ?_ ?_
 rotate_left
 ·intro nx hnx
  specialize a0n (a0y ?_)
  refine R7 (s1 _ _ hx0) ?_
  refine⟨N.length,by rw[lx0],by omega,by omega,?_⟩
  rw[l5]
  refine a0p (fun i σ H2=>∃x2 x3 G,σ=[some (.ref a),some (.ref d),x2,x3,none,none,none]/\a3w H H2 d N G/\(0<i->N.length - 1∈G)/\D7 H2 a N) ?_ ?_ ?_
  ·exact⟨_,_,[],rfl,⟨s1,e1,by simp,by simp,by simp⟩,by omega,n1⟩
  ·rintro i _ H2 hi ⟨x2,x3,G,rfl,I2,g2,n2⟩
   ext
   obtain⟨xs2,hx2,lx2⟩:=n2.len
   specialize a0n (a0y ?_)
   refine R7 hx2 ?_
   refine⟨N.length,by rw[lx2],by omega,by omega,?_⟩
   rw[l5]
   refine a0p (fun j σ H3=>∃x3 G,σ=[some (.ref a),some (.ref d),some (.int (0+(i:Int))),x3,none,none,none]/\a3w H H3 d N G/\(j=N.length->N.length - 1∈G)/\D7 H3 a N) ?_ ?_ ?_
   ·exact⟨_,G,rfl,I2,by omega,n2⟩
   ·rintro j _ H3 hj ⟨x3,G3,rfl,I3,g3,n3⟩
    exact_mod_cast b0H ?_
    rw[X5 (j:Int)]
    refine c1s hd n3 hN (M8 hj) (hs _ (z7 _)).1 I3 fun H4 G4 I4 sub4 h4 n4=>?_
    refine⟨_,G4,rfl,I4,fun z=>?_,n4⟩
    have e:N.length - 1=j:=by omega
    rw[e]at hl ⊢
    refine h4 ?_
    rw[M8 hj]at hl
    exact Option.some.inj hl
   ·rintro _ H3 ⟨x3,G3,rfl,I3,g3,n3⟩
    exact⟨_,_,G3,rfl,I3,fun _=>g3 rfl,n3⟩
  ·rintro _ H2 ⟨x2,x3,G,rfl,I2,g2,n2⟩
   exact hnx _ _ ⟨x2,x3,G,rfl,I2,g2 hp,n2⟩
 rintro _ H2 ⟨x2,x3,G,rfl,I2,hlast,n2⟩
 nofun
 exact_mod_cast X1 (a0y ?_)
 obtain⟨xs2,hx2,lx2⟩:=n2.len
 ext
 refine R7 hx2 ?_
 refine⟨N.length,by rw[lx2],by omega,by omega,fun A hA=>?_⟩
 rw[l5]
 refine a2H (fun i ys H3=>∃as:List Addr,ys=as.map V.ref/\as.length=i/\(∀(j:Nat) x l,as[j]? = some x->(a2e N G)[j]? = some l->H3 x=some (.lst (IL l))/\x≠A)/\H3 A=some (.lst ys)/\p9 H2 H3) ?_ ?_ ?_ ?_
 ·exact⟨[],rfl,rfl,by simp,d8,w4 hA⟩
 ·rintro i ys H3 ⟨_,_,_,_,h,_⟩
  exact h
 ·rintro i ys H3 hi ⟨as,rfl,la,at3,hA3,s3⟩ R hR
  rw[X5]
  obtain⟨ys0,x,f1,f2,f3,f4⟩:=(n2.same s3).at (M8 hi)
  have more:∀q H4,p9 H3 H4->(∀l,(a2e N G)[i]? = some l->H4 q=some (.lst (IL l)))->q≠A->R (.ref q) H4:=by
   intro q H4 s4 hq nq
   refine hR _ _ (s4 _ _ hA3) (F6 (by rw[a8];omega)) ⟨as++[q],by simp,by simp[la],?_,d8,fun b o e=>?_⟩
   ·intro j y l' h1 h2
    rcases P6 h1 with ⟨_,g1⟩ | ⟨hj,g1⟩
    ·obtain⟨g2,g3⟩:=at3 j y l' g1 h2
     exact⟨by rw[j5 g3];exact s4 _ _ g2,g3⟩
    ·rw[hj,la]at h2
     subst g1
     exact⟨by rw[j5 nq];exact hq l' h2,nq⟩
   ·rw[j5 (d4 e hA)]
    exact s4 _ _ (s3 _ _ e)
  ext
  specialize b7Y ?_
  obtain⟨o,g1,g2⟩:=a4D (s3 _ _ I2.hd) i
  refine⟨d,o,rfl,g1,?_⟩
  rw[g2]
  ext
  refine a0C (fun c=>?_) (fun c=>?_)
  ·ext
   refine J2 f1 f2 ?_
   refine more x H3 (p9.refl _) (fun l hl'=>?_) ?_
   ·rw[a6c (M8 hi) (of_decide_eq_true c)]at hl'
    cases hl'
    exact f3
   ·refine(d4 (H:=H2) (a:=x) (b:=A) (o:=.lst (IL N[i])) ?_ hA)
    obtain⟨ys1,x',f1',f2',f3',_⟩:=n2.at (M8 hi)
    have e1:=s3 _ _ f1'
    rw[f1]at e1
    cases e1
    rw[f2]at f2'
    cases f2'
    exact f3'
  ·ext
   exists R7 f1 ?_
   exists z6 (by simp) fun p1 H4 hp1 e4 s4=>?_
   exists J2 (s4 _ _ f1) f2 ?_
   refine c5i (s4 _ _ f3) fun p2 H5 hp2 e5 s5=>?_
   rw[c5P,c1J]at e5
   have hl2:=(hs _ (z7 (l:=N) (h:=hi))).1
   refine b3U (s5 _ _ e4) e5 (z6 (by simp[R8];omega) fun p3 H6 hp3 e6 s6=>?_)
   refine more p3 H6 ((s4.trans s5).trans s6) (fun l hl'=>?_) ?_
   ·rw[a9U (M8 hi) (fun z=>c (c7I z))]at hl'
    cases hl'
    rw[e6,f4]
    have:((N.length:Int) - 1)=((N.length - 1:Nat):Int):=by omega
    rw[this]
    rfl
   ·exact(d4 ((s4.trans s5) _ _ hA3) hp3).symm
 rintro ys H3 ⟨as,rfl,la,at3,hA3,s3⟩
 obtain⟨N2,hN2⟩:∃N2,N2=a2e N G:=⟨_,rfl⟩
 have len2:N2.length=N.length:=by rw[hN2,a9V]
 have n3:D7 H3 A N2:=⟨as,hA3,by rw[len2,la],fun i x l h1 h2=>(at3 i x l h1 (hN2 ▸ h2)).1⟩
 have small2:∀l∈N2,l.length<=2/\∀t∈l,t<N2.length:=by
  rw[len2,hN2]
  exact b2H hp hs hl hlast
 have gd2:∀k,k<N2.length->Gd N2 k:=by
  rw[len2,hN2]
  exact c1u I2.gd hl hlast
 have s03:p9 H H3:=I2.same.trans s3
 clear at3 hN2 la
 ext
 nofun
 intro r hr
 refine⟨d8,[(Sum.inl 0,V.bl true)],rfl,by simp,?_⟩
 have e4:(upd (upd H3 r (.dK [])) r (.dK (a6V [] [(Sum.inl 0,V.bl true)])))=upd H3 r (.dK (KS [0])):=by
  rw[b0p];rfl
 rw[e4]
 ext
 obtain⟨H4,hH4⟩:∃H4,H4=upd H3 r (.dK (KS [0])):=⟨_,rfl⟩
 rw[<-hH4]
 have s4:p9 H3 H4:=hH4 ▸ w4 hr
 have er:H4 r=some (.dK (KS [0])):=hH4 ▸ d8
 have n4:=n3.same s4
 clear hH4 e4
 have hp2:0<N2.length:=by omega
 exact_mod_cast a0z (P:=fun σ H5=>∃x2 x3 x5 S,σ=[some (.ref A),some (.ref d),x2,x3,some (.ref r),x5,none]/\b1D H3 H5 r N2 S/\a5w N2 S/\D7 H5 A N2) ?_ ?_
 rotate_left
 ·intro nx hnx
  obtain⟨ys4,hy4,ly4⟩:=n4.len
  specialize a0n (a0y ?_)
  refine R7 hy4 ?_
  refine⟨N2.length,by rw[ly4],by omega,by omega,?_⟩
  rw[l5]
  refine a0p (fun i σ H5=>∃x2 x3 x5 S,σ=[some (.ref A),some (.ref d),x2,x3,some (.ref r),x5,none]/\b1D H3 H5 r N2 S/\(a5w N2 S\/i+1<=S.length)/\D7 H5 A N2) ?_ ?_ ?_
  ·exact⟨_,_,_,[0],rfl,⟨s4,er,by simp,by simpa using hp2,by simpa using Rc.zero,by simp⟩,.inr (by simp),n4⟩
  ·rintro i _ H5 hi ⟨x2,x3,x5,S,rfl,I5,g5,n5⟩
   ext
   obtain⟨ys5,hy5,ly5⟩:=n5.len
   specialize a0n (a0y ?_)
   refine R7 hy5 ?_
   refine⟨N2.length,by rw[ly5],by omega,by omega,?_⟩
   rw[l5]
   refine a0p (fun j σ H6=>∃x3 x5 S',σ=[some (.ref A),some (.ref d),some (.int (0+(i:Int))),x3,some (.ref r),x5,none]/\b1D H3 H6 r N2 S'/\(∀k∈S,k∈S')/\(∀k∈S,k<j->∀l,N2[k]? = some l->∀t∈l,t∈S')/\(a5w N2 S->S'=S)/\D7 H6 A N2) ?_ ?_ ?_
   ·exact⟨_,_,S,rfl,I5,fun _ h=>h,by omega,fun _=>rfl,n5⟩
   ·rintro j _ H6 hj ⟨x3,x5,S',rfl,I6,b1,b2,b3,n6⟩
    exact_mod_cast b0H ?_
    rw[X5 (j:Int)]
    refine b8e hr n6 (by omega) (M8 hj) (small2 _ (z7 _)).2 I6 fun H7 S7 x5 I7 c1 c2 c3 n7=>?_
    refine⟨_,x5,S7,rfl,I7,fun k hk=>c1 k (b1 k hk),fun k hk hkj l hl' t ht=>?_,fun hc=>?_,n7⟩
    ·by_cases e:k=j
     ·subst e
      rw[M8 hj]at hl'
      cases hl'
      exact c2 (b1 k hk) t ht
     ·exact c1 t (b2 k hk (by omega) l hl' t ht)
    ·have:=b3 hc
     rw[this]at c3
     exact c3 hc
   ·rintro _ H6 ⟨x3,x5,S',rfl,I6,b1,b2,b3,n6⟩
    refine⟨_,x3,x5,S',rfl,I6,?_,n6⟩
    rcases g5 with hc | hc
    ·exact .inl (by rw[b3 hc];exact hc)
    ·by_cases hcl:a5w N2 S
     ·exact .inl (by rw[b3 hcl];exact hcl)
     ·right
      obtain⟨t,t1,t2⟩:∃t,t∈S'/\¬t∈S:=by
       refine Classical.byContradiction fun hno=>hcl fun k hk l hl' t ht=>?_
       refine Classical.byContradiction fun hts=>hno ⟨t,b2 k hk (I5.lt k hk) l hl' t ht,hts⟩
      have:(t::S).length<=S'.length:=by
       have nd:(t::S).Nodup:=S0.mpr ⟨t2,I5.nd⟩
       have sub:∀k∈t::S,k∈S':=fun k hk=>(g6.mp hk).elim (fun z=>z ▸ t1) (b1 k)
       exact b8O _ _ nd sub
      rw[v7]at this
      omega
  ·rintro _ H5 ⟨x2,x3,x5,S,rfl,I5,g5,n5⟩
   refine hnx _ _ ⟨x2,x3,x5,S,rfl,I5,g5.elim id fun h=>?_,n5⟩
   have:=a8B _ _ I5.nd I5.lt
   omega
 rintro _ H5 ⟨y2,y3,y5,S,rfl,I5,hcl,n5⟩
 have hSl:=a8B _ _ I5.nd I5.lt
 nofun
 have ek:(KS S).map (fun kv=>kV kv.1)=(S.map fun(n:Nat)=>(n:Int)).map V.int:=by
  unfold KS;rw[M7,M7];rfl
 have ld:a6K [.ref r] H5=fun Q=>∀l,H5 l=none->Q (.ref l) (upd H5 l (.lst ((KS S).map fun kv=>kV kv.1))):=by
  unfold a6K
  simp only[I5.hd]
 rw[ld]
 intro p6 hp6
 rw[ek]
 obtain⟨H6,hH6⟩:∃H6,H6=upd H5 p6 (.lst ((S.map fun(n:Nat)=>(n:Int)).map V.int)):=⟨_,rfl⟩
 rw[<-hH6]
 have s6:p9 H5 H6:=hH6 ▸ w4 hp6
 have e6:H6 p6=some (.lst ((S.map fun(n:Nat)=>(n:Int)).map V.int)):=hH6 ▸ d8
 clear hH6 ld
 ext
 have so:a4z [.ref p6] H6=fun Q=>∃ns,a1k ((S.map fun(n:Nat)=>(n:Int)).map V.int)=some ns/\ns.length<64/\∀(p:Addr) (ms:List Int),ms.Perm ns->ms.Pairwise (· <= ·)->H6 p=none->Q (.ref p) (upd H6 p (.lst (ms.map V.int))):=by
  unfold a4z
  simp only[e6]
 rw[so]
 refine⟨_,a8F _,by rw[a8];omega,fun p7 ms hperm hsort hp7=>?_⟩
 obtain⟨O,hO,rfl⟩:=b2D hperm
 have hsO:=b3F hsort
 have ndO:O.Nodup:=hO.nodup_iff.mpr I5.nd
 have memO:∀k,k∈O↔k∈S:=fun k=>hO.mem_iff
 obtain⟨H7,hH7⟩:∃H7,H7=upd H6 p7 (.lst ((O.map fun(n:Nat)=>(n:Int)).map V.int)):=⟨_,rfl⟩
 rw[<-hH7]
 have s7:p9 H6 H7:=hH7 ▸ w4 hp7
 have e7:H7 p7=some (.lst ((O.map fun(n:Nat)=>(n:Int)).map V.int)):=hH7 ▸ d8
 clear hH7 so
 have hOl:O.length<=24:=by rw[hO.length_eq];omega
 ext
 have n7:=(n5.same s6).same s7
 have s07:p9 H H7:=((s03.trans I5.same).trans s6).trans s7
 have valid:a2J (a5c N2 O):=b5G ((memO 0).mpr I5.zero) hsO ndO (fun k hk=>I5.lt k ((memO k).mp hk)) (by omega) (fun k hk l hl' t ht=>(memO t).mpr (hcl k ((memO k).mp hk) l hl' t ht)) (fun k hk=>I5.rc k ((memO k).mp hk))
  (fun l hl'=>(small2 l hl').1) gd2
 specialize X1 (T9 ?_)
 refine⟨p7,rfl,⟨_,SqL.of e7⟩,fun B hB=>?_⟩
 refine Y4 (xs:=(O.map fun(n:Nat)=>(n:Int)).map V.int) (fun i ys H8=>∃bs:List Addr,ys=bs.map V.ref/\bs.length=i/\(∀(j:Nat) x l,bs[j]? = some x->(a5c N2 O)[j]? = some l->H8 x=some (.lst (IL l))/\x≠B)/\H8 B=some (.lst ys)/\p9 H7 H8) ?_ ?_ ?_ ?_ ?_
 ·exact⟨[],rfl,rfl,by simp,d8,w4 hB⟩
 ·rintro i ys H8 ⟨_,_,_,_,h,_⟩
  exact h
 ·rintro i ys H8 _ ⟨_,_,_,_,_,s8⟩
  exact SqL.of (s8 _ _ e7)
 ·rintro i x ys H8 hx ⟨bs,rfl,lb,at8,hB8,s8⟩ R hR
  rw[b7,b7]at hx
  cases ho:O[i]? with
  | none=>rw[ho]at hx;cases hx
  | some kk=>
   rw[ho]at hx
   cases hx
   have hko:=mI ho
   have hks:=(memO kk).mp hko
   have hkl:=I5.lt kk hks
   obtain⟨ys8,x8,f1,f2,f3,_⟩:=(n7.same s8).at (M8 hkl)
   obtain⟨l8,hl8⟩:∃l8,l8=N2[kk]:=⟨_,rfl⟩
   rw[<-hl8]at f3
   have hN8:N2[kk]? = some l8:=by rw[hl8];exact M8 hkl
   specialize X1 (T9 ?_)
   refine J2 f1 f2 ?_
   refine⟨x8,rfl,⟨_,SqL.of f3⟩,fun C hC=>?_⟩
   refine Y4 (xs:=IL l8) (fun j zs H9=>zs=IL ((l8.take j).map fun t=>O.idxOf t)/\H9 C=some (.lst zs)/\p9 H8 H9) ⟨rfl,d8,w4 hC⟩ ?_ ?_ ?_ ?_
   ·rintro j zs H9 ⟨_,h,_⟩
    exact h
   ·rintro j zs H9 _ ⟨_,_,s9⟩
    exact SqL.of (s9 _ _ f3)
   ·rintro j y zs H9 hy ⟨rfl,hC9,s9⟩ R' hR'
    have hy:(l8.map fun(n:Nat)=>V.int (n:Int))[j]? = some y:=hy
    rw[b7]at hy
    cases ht:l8[j]? with
    | none=>rw[ht]at hy;cases hy
    | some t=>
     rw[ht]at hy
     cases hy
     have htO:t∈O:=(memO t).mpr (hcl kk hks l8 hN8 t (mI ht))
     specialize a6J ?_
     have e9:H9 p7=_:=s9 _ _ (s8 _ _ e7)
     exists ⟨Z1 e9,?_⟩
     have ix:a6L (.ref p7) [.int (t:Int)] H9=fun Q=>∃ns,a1k ((O.map fun(n:Nat)=>(n:Int)).map V.int)=some ns/\ns.length<10000/\(t:Int)∈ns/\Q (.int (ns.idxOf (t:Int):Nat)) H9:=by
      unfold a6L
      simp only[e9]
     rw[ix]
     refine⟨_,a8F _,by rw[a8];omega,u8.mpr ⟨t,htO,rfl⟩,?_⟩
     rw[b8Z]
     have hl2:=(small2 l8 (mI hN8)).1
     refine hR' _ _ hC9 (F6 ?_) ⟨?_,d8,fun b o e=>?_⟩
     ·rw[R8,a8,P5];omega
     ·unfold IL
      rw[b5d l8 (fun t=>O.idxOf t) j ht]
      simp
     ·rw[j5 (d4 e hC)];exact s9 _ _ e
   ·rintro zs H9 ⟨rfl,hC9,s9⟩
    rw[R8,V5]at hC9
    refine hR _ _ (s9 _ _ hB8) (F6 (by rw[a8];have:=(gI ho);omega)) ⟨bs++[C],by simp,by simp[lb],?_,d8,fun b o e=>?_⟩
    ·have nCB:C≠B:=(d4 hB8 hC).symm
     intro j y l' h1 h2
     rcases P6 h1 with ⟨_,g1⟩ | ⟨hj,g1⟩
     ·obtain⟨g2,g3⟩:=at8 j y l' g1 h2
      exact⟨by rw[j5 g3];exact s9 _ _ g2,g3⟩
     ·rw[hj,lb]at h2
      subst g1
      refine⟨?_,nCB⟩
      rw[j5 nCB,hC9]
      have h2':(a5c N2 O)[i]? = some (l8.map fun t=>O.idxOf t):=by
       unfold a5c
       rw[b7,ho]
       simp[L0,hN8]
      rw[h2']at h2
      cases h2
      rfl
    ·rw[j5 (d4 e hB)]
     exact s9 _ _ (s8 _ _ e)
 ·rintro ys H8 ⟨bs,rfl,lb,at8,hB8,s8⟩
  rw[a8,a8]at lb
  have hlen:(a5c N2 O).length=O.length:=by simp[a5c]
  exact k B (a5c N2 O) H8 ⟨bs,hB8,by rw[lb,hlen],fun i x l h1 h2=>(at8 i x l h1 h2).1⟩ valid (by rw[hlen];exact hOl) (s07.trans s8)
structure M3(H:Hp)(a:Addr)(N:Nt):Prop where
 ex:∃rs:List Addr,H a=some (.lst (rs.map V.ref))/\rs.length=N.length/\∀(i:Nat) x l,rs[i]? = some x->N[i]? = some l->a7B H (.ref x) (l.length == 2)
theorem M3.same(h:M3 H a N)(k:p9 H H'):M3 H' a N:=by
 obtain⟨rs,h1,h2,h3⟩:=h.ex
 exact⟨rs,k a _ h1,h2,fun i x l e1 e2=>(h3 i x l e1 e2).ts (p9.ts k)⟩
theorem M3.kept(h:M3 H a N)(hB:Bag H b c)(k:A7 b H H'):M3 H' a N:=by
 obtain⟨rs,h1,h2,h3⟩:=h.ex
 exact⟨rs,k.1 a _ h1 (a0A hB h1),h2,fun i x l e1 e2=>(h3 i x l e1 e2).ts (A7.ts k hB)⟩
theorem b2P{K:Fg}{E:XK}(hB:Bag H b c)
  (k:∀p ra na N H',H' p=some (.tup [.ref ra,.ref na])->M3 H' ra N->D7 H' na N->a2J N->N.length<=24->(∃ps:List Addr,ps.length<=3/\(∀p∈ps,a4Z H' p)/\∃rs:List Addr,H' ra=some (.lst (rs.map V.ref))/\∀x∈rs,a6o ps H' (.ref x))->Bag H' b c->A7 b H H'->Q (.ref p) H'):a3Q K [.ref b] H Q E:=by
 refine⟨rfl,?_⟩
 unfold b4L
 nofun
 exists E6 hB (by decide) (by decide) fun n1 H1 a0 a1 B1 k1=>?_
 exact_mod_cast a0z (P:=fun σ H2=>∃m:Nat,σ=[some (.ref b),some (.int (m:Int)),none,none,none]/\0<m/\m<=24/\Bag H2 b c/\A7 b H H2) ?_ ?_
 rotate_left
 ·intro nx hnx
  ext
  exists E6 B1 (by decide) (by decide) fun n2 H2 b0 b1 B2 k2=>?_
  refine a0C (fun _=>?_) (fun _=>?_)
  ·ext
   exists E6 B2 (by decide) (by decide) fun n3 H3 c0 c1 B3 k3=>?_
   obtain⟨n3,rfl⟩:=W1 c0
   exact hnx _ _ ⟨15+n3,rfl,by omega,by omega,B3,(k1.trans k2).trans k3⟩
  ·ext
   obtain⟨n1,rfl⟩:=W1 a0
   exact hnx _ _ ⟨1+n1,rfl,by omega,by omega,B2,k1.trans k2⟩
 rintro _ H2 ⟨m,rfl,m0,m1,B2,k2⟩
 nofun
 exists c3S B2 m0 m1 fun a N0 H3 n3 l3 s3 z3 B3 k3=>?_
 exists b6p n3 (by omega) (by omega) (by rw[l3];exact s3) (by rw[l3];exact z3) fun na N H4 n4 v4 lN s4=>?_
 have B4:=B3.same s4
 have k4:A7 b H H4:=(k2.trans k3).trans (A7.of_same s4)
 nofun
 exists b2E B4 fun sa H5 N5 B5 k5 _=>?_
 have n5:=n4.kept B4 v4.two k5
 nofun
 specialize X1 (a0y ?_)
 exists E6 B5 (by decide) (by decide) fun n6 H6 d0 d1 B6 k6=>?_
 obtain⟨n6,rfl⟩:=W1 d0
 refine⟨1+n6,rfl,by omega,by omega,fun D hD=>?_⟩
 obtain⟨nb,nc⟩:=B6.nb hD
 have n6':=n5.kept B5 v4.two k6
 obtain⟨N6,_⟩:=N5.kept B5 k6
 refine a2H (fun i ys H7=>∃ps:List Addr,ys=ps.map V.ref/\ps.length=i/\(∀p∈ps,a4Z H7 p)/\H7 D=some (.lst ys)/\Bag H7 b c/\A7 b H6 H7) ?_ ?_ ?_ ?_
 ·exact⟨[],rfl,rfl,by simp,d8,B6.new hD,A7.new hD⟩
 ·rintro i ys H7 ⟨_,_,_,_,h,_⟩
  exact h
 ·rintro i ys H7 hi ⟨ps,rfl,lp,hp,hD7,B7,k7⟩ R hR
  obtain⟨N7,_⟩:=N6.kept B6 k7
  ext
  refine b5i B7 N7 fun p H8 hd8 _ B8 k8=>?_
  have hD8:=k8.1 _ _ hD7 nb
  refine hR _ _ hD8 (F6 (by rw[a8];omega)) ⟨ps++[p],by simp,by simp[lp],fun q hq=>?_,d8,B8.put nb nc,(k7.trans k8).put hD⟩
  rcases i8.mp hq with z | z
  ·exact((hp q z).ts (A7.ts k8 B7)).ts (K7.put hD8)
  ·rw[c6.mp z];exact hd8.ts (K7.put hD8)
 rintro ys H7 ⟨ps,rfl,lp,hp,hD7,B7,k7⟩
 ext
 have P7:b0f H7 D:=⟨ps,hD7,by intro z;subst z;simp at lp;omega,by omega,hp⟩
 obtain⟨N7,_⟩:=N6.kept B6 k7
 have n7:=n6'.kept B6 v4.two k7
 have k07:A7 b H H7:=((k4.trans k5).trans k6).trans k7
 specialize X1 (T9 ?_)
 obtain⟨as,q1,q2,q3⟩:=id n7.ex
 refine⟨na,rfl,⟨_,SqL.of q1⟩,fun R' hR'=>?_⟩
 obtain⟨rb,rc⟩:=B7.nb hR'
 refine Y4 (xs:=as.map V.ref) (fun i ys H8=>∃rs:List Addr,ys=rs.map V.ref/\rs.length=i/\((∀(j:Nat) x l,rs[j]? = some x->N[j]? = some l->a7B H8 (.ref x) (l.length == 2))/\∀x∈rs,a6o ps H8 (.ref x))/\H8 R'=some (.lst ys)/\Bag H8 b c/\A7 b H7 H8) ?_ ?_ ?_ ?_ ?_
 ·exact⟨[],rfl,rfl,⟨by simp,by simp⟩,d8,B7.new hR',A7.new hR'⟩
 ·rintro i ys H8 ⟨_,_,_,_,h,_⟩
  exact h
 ·rintro i ys H8 _ ⟨_,_,_,_,_,_,k8⟩
  exact SqL.of (k8.1 _ _ q1 (a0A B7 q1))
 ·rintro i x ys H8 hx ⟨rs,rfl,lr,⟨hr,hi8⟩,hR8,B8,k8⟩ R hR
  rw[b7]at hx
  cases hxa:as[i]? with
  | none=>rw[hxa]at hx;cases hx
  | some xa=>
   rw[hxa]at hx
   cases hx
   have hi:i<N.length:=by rw[<-q2];exact(gI hxa)
   have n8:=n7.kept B7 v4.two k8
   have hx8:=q3 i xa _ hxa (M8 hi)
   have hx8:=k8.1 _ _ hx8 (b2f B7 hx8 (by rw[R8];have:=v4.two _ (z7 hi);omega))
   obtain⟨N8,_⟩:=N7.kept B7 k8
   have P8:=P7.kept B7 k8
   ext
   exists R7 hx8 ?_
   rw[R8]
   refine b8c B8 N8 P8 (k8.1 _ _ hD7 (a0A B7 hD7)) fun v H9 r9 i9 B9 k9=>?_
   obtain⟨pv,xv,rfl,_⟩:=id r9
   have hR9:=k9.1 _ _ hR8 rb
   refine hR _ _ hR9 (F6 (by rw[a8];omega)) ⟨rs++[pv],by simp,by simp[lr],⟨?_,fun y hy=>?_⟩,d8,B9.put rb rc,(k8.trans k9).put hR'⟩
   rotate_left
   ·rcases i8.mp hy with z | z
    ·exact((hi8 y z).ts (A7.ts k9 B8)).ts (K7.put hR9)
    ·rw[c6.mp z];exact i9.ts (K7.put hR9)
   intro j y l h1 h2
   rcases P6 h1 with ⟨_,g1⟩ | ⟨hj,g1⟩
   ·exact((hr j y l g1 h2).ts (A7.ts k9 B8)).ts (K7.put hR9)
   ·rw[hj,lr,M8 hi]at h2
    cases h2
    subst g1
    exact r9.ts (K7.put hR9)
 ·rintro ys H8 ⟨rs,rfl,lr,⟨hr,hi8⟩,hR8,B8,k8⟩
  rw[a8]at lr
  ext
  refine z6 (by simp) fun p H9 hp9 e9 s9=>?_
  exact k p R' na N H9 e9 ((⟨rs,hR8,by rw[lr,q2],hr⟩:M3 H8 R' N).same s9) ((n7.kept B7 v4.two k8).same s9) v4 lN ⟨ps,by omega,fun p hp'=>((hp p hp').ts (A7.ts k8 B7)).ts (p9.ts s9),rs,s9 _ _ hR8,fun x hx=>(hi8 x hx).ts (p9.ts s9)⟩ (B8.same s9) ((k07.trans k8).trans (A7.of_same s9))
theorem big(h:n<=1000000):n<=j6:=E3 h (by rw[a2M];decide)
theorem a7A{K:Fg}{E:XK}(ha:H a=some (.lst xs))(h1:1<=xs.length)(h2:xs.length<=400)(k:Q .non H):a0g K [.ref a,.int 0,.int 1] H Q E:=by
 refine⟨rfl,?_⟩
 unfold a3N
 nofun
 exists a1L (s := "list") (by simp only[a1F,ha]) (by decide) ?_
 exists y0 (by decide) ?_
 exists R7 ha ?_
 exists y0 (c7H (by omega)) ?_
 exists R7 ha ?_
 exists y0 (c7H (by omega)) ?_
 exact k
theorem a4V{K:Fg}{E:XK}(ha:H a=some (.lst (z4 n (V.bl true))))(k:∀H',p9 H H'->Q .non H'):a0b K [.ref a] H Q E:=by
 refine⟨rfl,?_⟩
 unfold a5M
 specialize a0n (a7H ?_)
 refine⟨a,rfl,⟨_,SqL.of ha⟩,?_⟩
 refine b9d n (fun i σ H2=>∃x1 x2,σ=[some (.ref a),x1,x2]/\p9 H H2) ⟨_,_,rfl,p9.refl _⟩ ?_ ?_ ?_
 ·rintro _ H2 ⟨x1,x2,rfl,s2⟩
  exact⟨⟨_,SqL.of (s2 _ _ ha),by simp⟩,k H2 s2⟩
 ·rintro i _ H2 hi ⟨x1,x2,rfl,s2⟩
  exact⟨_,V.bl true,SqL.of (s2 _ _ ha),by rw[J4,if_pos hi]⟩
 ·rintro i _ H2 hi ⟨x1,x2,rfl,s2⟩ x H3 ⟨p,y,hp,rfl,rfl,hy⟩
  have hy:=hy _ (SqL.of (s2 _ _ ha))
  rw[J4,if_pos hi]at hy
  cases hy
  exists a5X (SqT.of d8) ?_
  exists y0 rfl ?_
  exact⟨_,_,rfl,s2.trans (w4 hp)⟩
theorem a7X(n:Nat):z4 n (V.bl true)++[V.bl true]=z4 (n+1) (V.bl true):=by
 rw[a5z]
theorem c3U(h:n=0\/n=1):inV (.int (n:Int)) [.int 0,.int 1]=true:=by
 rcases h with rfl | rfl <;> decide
theorem b1B{K:Fg}{x:Addr}{E:XK}(hv:a7B H v (l.length == 2))(hx:H x=some (.lst (IL l)))(h2:l.length<=2)(hlt:∀t∈l,t<m)(k:∀H',p9 H H'->Q (.bl true) H') :
  a1p K [v,.ref x,.int (m:Int)] H Q E:=by
 obtain⟨p,xs,rfl,hp,_,kd,r,rfl,hk⟩:=hv
 refine⟨rfl,?_⟩
 unfold a7m
 nofun
 exists a1L (s := "list") (by simp only[a1F,hx]) (by decide) ?_
 exists y0 (by decide) ?_
 exact_mod_cast a0z (P:=fun σ H1=>∃w ws,σ=[some (.ref p),some (.ref x),some (.int (m:Int)),some (.ref w)]/\H1 w=some (.tup ws)/\ws.all J0=true/\inV (.int (l.length:Int)) ws=true/\p9 H H1) ?_ ?_
 rotate_left
 ·intro nx hnx
  ext
  exists F4 hp (a0Q _ _) ?_
  by_cases e:kd = "ask"
  ·exists D9 (c7I (by rw[e])) ?_
   refine z6 (by simp) fun w H1 hw e1 s1=>?_
   rw[c7I e]at hk
   have:l.length=2:=by simpa using hk.symm
   exact hnx _ _ ⟨w,_,rfl,e1,rfl,by rw[this];decide,s1⟩
  ·exists y0 (c7H (fun z=>e (V.str.inj z))) ?_
   refine z6 (by simp) fun w H1 hw e1 s1=>?_
   rw[c7H e]at hk
   have:¬l.length=2:=by
    intro z
    rw[z]at hk
    exact absurd hk (by decide)
   exact hnx _ _ ⟨w,_,rfl,e1,rfl,c3U (by omega),s1⟩
 rintro _ H1 ⟨w,ws,rfl,hw,fw,iw,s1⟩
 ext
 exists R7 (s1 _ _ hx) ?_
 rw[R8]
 refine a6a hw rfl fw ?_
 exists ⟨_,rfl,D9 iw ?_⟩
 specialize X1 (T9 ?_)
 refine⟨x,rfl,⟨_,SqL.of (s1 _ _ hx)⟩,fun D hD=>?_⟩
 refine Y4 (xs:=IL l) (fun i ys H2=>ys=z4 i (V.bl true)/\H2 D=some (.lst ys)/\p9 H1 H2) ⟨rfl,d8,w4 hD⟩ ?_ ?_ ?_ ?_
 ·rintro i ys H2 ⟨_,h,_⟩
  exact h
 ·rintro i ys H2 _ ⟨_,_,s2⟩
  exact SqL.of (s2 _ _ (s1 _ _ hx))
 ·rintro i y ys H2 hy ⟨rfl,hD2,s2⟩ R hR
  have hy:(l.map fun(n:Nat)=>V.int (n:Int))[i]? = some y:=hy
  rw[b7]at hy
  cases ht:l[i]? with
  | none=>rw[ht]at hy;cases hy
  | some t=>
   rw[ht]at hy
   cases hy
   have hi:=(gI ht)
   have:=hlt t (mI ht)
   ext
   refine b1i (by omega) (by omega) ?_
   refine hR _ _ hD2 (F6 (by rw[D0];omega)) ⟨a7X i,d8,fun b o e=>?_⟩
   rw[j5 (d4 e hD)];exact s2 _ _ e
 ·rintro ys H2 ⟨rfl,hD2,s2⟩
  ext
  have e:z4 (IL l).length (V.bl true)=(z4 l.length true).map V.bl:=by rw[R8];simp
  rw[e]at hD2
  refine c5n hD2 ?_
  have:(z4 l.length true).all id=true:=by simp
  rw[this]
  exact k H2 (s1.trans s2)
theorem a8L{K:Fg}{E:XK}(hr:M3 H ra N)(hn:D7 H na N)(h400:N.length<=400)(h2:∀l∈N,l.length<=2)(hlt:∀l∈N,∀t∈l,t<N.length)(k:∀H',p9 H H'->Q .non H') :
  a0w K [.ref ra,.ref na] H Q E:=by
 obtain⟨rs,r1,r2,r3⟩:=id hr.ex
 obtain⟨as,a1,a2,a3⟩:=id hn.ex
 refine⟨rfl,?_⟩
 unfold a4T
 nofun
 exists a1L (s := "list") (by simp only[a1F,a1]) (by decide) ?_
 exists y0 (by decide) ?_
 exists R7 a1 ?_
 exists R7 r1 ?_
 exists y0 (by rw[a8,a8,r2,a2];simp) ?_
 specialize b4S (c2D ?_)
 refine⟨ra,na,rfl,⟨_,SqL.of r1⟩,⟨_,SqL.of a1⟩,fun D hD=>?_⟩
 refine b9p N.length (fun i ys H2=>ys=z4 i (V.bl true)/\H2 D=some (.lst ys)/\p9 H H2) ⟨rfl,d8,w4 hD⟩ ?_ ?_ ?_ ?_
 ·rintro i ys H2 ⟨_,h,_⟩
  exact h
 ·rintro ys H2 ⟨rfl,hD2,s2⟩
  exists ⟨⟨_,_,SqL.of (s2 _ _ r1),SqL.of (s2 _ _ a1),.inl (by rw[a8,r2];exact d5 _)⟩,?_⟩
  exact a4V hD2 fun H3 s3=>k H3 (s2.trans s3)
 ·rintro i ys H2 hi ⟨_,_,s2⟩
  have e1:rs[i]? = some (rs[i]'(by omega)):=by simp[r2,hi]
  have e2:as[i]? = some (as[i]'(by omega)):=by simp[a2,hi]
  exact⟨_,_,_,_,SqL.of (s2 _ _ r1),SqL.of (s2 _ _ a1),by rw[b7,e1];rfl,by rw[b7,e2];rfl⟩
 ·rintro i ys H2 hi ⟨rfl,hD2,s2⟩ x H3 ⟨p,y1,y2,hp,rfl,rfl,g1,g2⟩
  obtain⟨rx,e1⟩:∃rx,rs[i]? = some rx:=⟨_,g9 (by omega)⟩
  obtain⟨ax,e2⟩:∃ax,as[i]? = some ax:=⟨_,g9 (by omega)⟩
  have g1:=g1 _ (SqL.of (s2 _ _ r1))
  have g2:=g2 _ (SqL.of (s2 _ _ a1))
  rw[b7,e1]at g1
  rw[b7,e2]at g2
  cases g1
  cases g2
  refine⟨p,_,_,rfl,SqT.of d8,fun R S hR hS=>?_⟩
  have s3:p9 H2 (upd H2 p (.tup [V.ref rx,V.ref ax])):=w4 hp
  obtain⟨H3,hH3⟩:∃H3,H3=upd H2 p (.tup [V.ref rx,V.ref ax]):=⟨_,rfl⟩
  rw[<-hH3]at s3 ⊢
  ext
  exists D9 rfl ?_
  have s03:=s2.trans s3
  exists R7 (s03 _ _ r1) ?_
  have hl:=M8 hi
  rw[a8,r2]
  refine b1B ((r3 i _ _ e1 hl).ts (p9.ts s03)) (s03 _ _ (a3 i _ _ e2 hl)) (h2 _ (z7 hi)) (hlt _ (z7 hi)) fun H4 s4=>?_
  refine hR _ _ (s4 _ _ (s3 _ _ hD2)) (F6 (by rw[D0];omega)) ⟨a7X i,d8,fun b o e=>?_⟩
  rw[j5 (d4 e hD)];exact s4 _ _ (s03 _ _ e)
def a4h(N:Nt)(k:Nat):Bool:=(N.getD k []).isEmpty
def b0v(N:Nt):List Nat:=(A0 N.length).filter (a4h N)
theorem b6q{k:Nat}(h:N[k]? = some []):k∈b0v N:=by
 refine a4M.mpr ⟨N4.mpr (gI h),?_⟩
 unfold a4h
 simp[L0,h]
theorem b2b{K:Fg}{E:XK}(hn:D7 H na N)(h400:N.length<=400)(k:∀a H',H a=none->H' a=some (.lst (IL (b0v N)))->p9 H H'->Q (.ref a) H'):a1X K [.ref na] H Q E:=by
 obtain⟨as,a1,a2,a3⟩:=id hn.ex
 refine⟨rfl,?_⟩
 unfold a7Y
 ext
 specialize b4S (a7H ?_)
 refine⟨na,rfl,⟨_,SqL.of a1⟩,fun D hD=>?_⟩
 refine b9p N.length (fun i ys H2=>ys=IL ((A0 i).filter (a4h N))/\H2 D=some (.lst ys)/\p9 H H2) ⟨rfl,d8,w4 hD⟩ ?_ ?_ ?_ ?_
 ·rintro i ys H2 ⟨_,h,_⟩
  exact h
 ·rintro ys H2 ⟨rfl,hD2,s2⟩
  exact⟨⟨_,SqL.of (s2 _ _ a1),by rw[a8,a2];exact d5 _⟩,k D H2 hD hD2 s2⟩
 ·rintro i ys H2 hi ⟨_,_,s2⟩
  exact⟨_,_,SqL.of (s2 _ _ a1),by rw[b7,g9 (show i<as.length by omega)];rfl⟩
 ·rintro i ys H2 hi ⟨rfl,hD2,s2⟩ x H3 ⟨p,y,hp,rfl,rfl,g1⟩
  obtain⟨ax,e1⟩:∃ax,as[i]? = some ax:=⟨_,g9 (by omega)⟩
  have g1:=g1 _ (SqL.of (s2 _ _ a1))
  rw[b7,e1]at g1
  cases g1
  refine⟨p,_,_,rfl,SqT.of d8,fun R S hR hS=>?_⟩
  have s3:p9 H2 (upd H2 p (.tup [V.int (i:Int),V.ref ax])):=w4 hp
  obtain⟨H3,hH3⟩:∃H3,H3=upd H2 p (.tup [V.int (i:Int),V.ref ax]):=⟨_,rfl⟩
  rw[<-hH3]at s3 ⊢
  have s03:=s2.trans s3
  have hl:=M8 hi
  ext
  exists R7 (s03 _ _ (a3 i _ _ e1 hl)) ?_
  have hst:a4h N i=decide (V.int ((IL N[i]).length:Int)=V.int 0):=by
   rw[b2R,R8]
   unfold a4h
   simp only[L0,hl,a3y]
   cases N[i] with
   | nil=>rfl
   | cons a r=>
    rw[List.isEmpty_cons,eq_comm,decide_eq_false_iff_not,v7]
    omega
  rw[<-hst]
  cases hb:a4h N i with
  | true=>
   exists D9 rfl ?_
   refine hR _ _ (s3 _ _ hD2) (F6 ?_) ⟨?_,d8,fun b o e=>?_⟩
   ·rw[R8]
    have:=a5a (a4h N) (A0 i)
    rw[Z5]at this
    omega
   ·rw[a0I,a7v]
    unfold IL
    rw[u9]
    congr 1
    simp[hb]
   ·rw[j5 (d4 e hD)];exact s03 _ _ e
  | false=>
   refine y0 rfl ?_
   refine hS _ ⟨?_,s3 _ _ hD2,s03⟩
   rw[a0I,a7v]
   simp[hb]
theorem c2f{α:Type}{l:List α}(nd:l.Nodup){j:Nat}{x:α}(h1:l[i]? = some x)(h2:l[j]? = some x):i=j:=
 (List.getElem?_inj (gI h1) nd).mp (h1.trans h2.symm)
structure a4k(H0 H:Hp)(a:Addr)(as:List Addr)(M:Nt):Prop where
 same:p9 H0 H
 h:H a=some (.lst (as.map V.ref))
 len:as.length=M.length
 nd:as.Nodup
 na:a∉as
 at_:∀(i:Nat) x l,as[i]? = some x->M[i]? = some l->H x=some (.lst (IL l))
 new:H0 a=none/\∀x∈as,H0 x=none
theorem a4k.next(h:a4k H0 H a as M)(s:p9 H H'):a4k H0 H' a as M:=
 ⟨h.same.trans s,s _ _ h.h,h.len,h.nd,h.na,fun i x l e1 e2=>s _ _ (h.at_ i x l e1 e2),h.new⟩
theorem a4k.add(h:a4k H0 H a as M){t p:Nat}{x:Addr}(e1:as[t]? = some x)(e2:M[t]? = some l) :
  a4k H0 (upd H x (.lst (IL (l++[p])))) a as (M.set t (l++[p])):=by
 have hx:=mI e1
 have hxa:x≠a:=fun z=>h.na (z ▸ hx)
 refine⟨fun b o e=>by rw[j5 (d4 e (h.new.2 x hx))];exact h.same b o e,by rw[j5 hxa.symm];exact h.h,by rw[a0J];exact h.len,h.nd,h.na,fun i y l' f1 f2=>?_,h.new⟩
 by_cases e:i=t
 ·subst e
  rw[e1]at f1
  cases f1
  rw[F8 (gI e2)]at f2
  cases f2
  exact d8
 ·rw[J3 (Ne.symm e)]at f2
  have:y≠x:=by
   rintro rfl
   exact e (c2f h.nd f1 e1)
  rw[j5 this]
  exact h.at_ i y l' f1 f2
theorem a4k.net(h:a4k H0 H a as M):D7 H a M:=⟨as,h.h,h.len,h.at_⟩
theorem a4k.nil(n:H0 a=none)(s:p9 H0 H)(e:H a=some (.lst [])):a4k H0 H a [] []:=⟨s,e,rfl,by simp,by simp,by simp,n,by simp⟩
theorem a4k.snoc(h:a4k H0 H a as M)(hp:H p=none)(ep:H' p=some (.lst (IL [])))(s:p9 H H') :
  a4k H0 (upd H' a (.lst ((as++[p]).map V.ref))) a (as++[p]) (M++[[]]):=by
 have npa:p≠a:=(d4 h.h hp).symm
 have npas:p∉as:=fun z=>by
  obtain⟨i,hi⟩:=F1.mp z
  have hl:i<M.length:=by rw[<-h.len];exact(gI hi)
  have:=h.at_ i p _ hi (M8 hl)
  rw[hp]at this
  cases this
 have fr0:H0 p=none:=h.same.free hp
 refine⟨fun b o e=>by rw[j5 (d4 e h.new.1)];exact s _ _ (h.same b o e),d8,by simp[h.len],?_,?_,fun i x l f1 f2=>?_,h.new.1,fun x hx=>?_⟩
 ·rw[a3s]
  exact⟨h.nd,by simp,fun x hx y hy=>by rw[c6.mp hy];intro z;exact npas (z ▸ hx)⟩
 ·intro z
  rcases i8.mp z with q | q
  ·exact h.na q
  ·exact npa (c6.mp q).symm
 ·rcases P6 f1 with ⟨hi,g1⟩ | ⟨hi,g1⟩
  ·rcases P6 f2 with ⟨hj,g2⟩ | ⟨hj,g2⟩
   ·have:x≠a:=fun z=>h.na (z ▸ mI g1)
    rw[j5 this]
    exact s _ _ (h.at_ i x l g1 g2)
   ·have:=h.len;omega
  ·rcases P6 f2 with ⟨hj,g2⟩ | ⟨hj,g2⟩
   ·have:=h.len;omega
   ·subst g1 g2
    rw[j5 npa]
    exact ep
 ·rcases i8.mp hx with q | q
  ·exact h.new.2 x q
  ·rw[c6.mp q];exact fr0
theorem c0b{t u:Nat}{l':List Nat}(h:(M.set t l)[u]? = some l'):(u=t/\l'=l)\/(u≠t/\M[u]? = some l'):=by
 by_cases e:u=t
 ·subst e
  have hl:=(gI h)
  rw[a0J]at hl
  rw[F8 hl]at h
  exact .inl ⟨rfl,(Option.some.inj h).symm⟩
 ·rw[J3 (Ne.symm e)]at h
  exact .inr ⟨e,h⟩
theorem b5H{K:Fg}{E:XK}(hn:D7 H na N)(h400:N.length<=400)(h2:∀l∈N,l.length<=2)(hlt:∀l∈N,∀t∈l,t<N.length)
  (k:∀a M H',D7 H' a M->M.length=N.length->(∀(p:Nat) (l:List Nat),N[p]? = some l->∀t∈l,∃l',M[t]? = some l'/\p∈l')->(∀l∈M,l.length<=2 * N.length/\∀p∈l,p<N.length)->p9 H H'->Q (.ref a) H'):a4u K [.ref na] H Q E:=by
 obtain⟨ns,a1,a2,a3⟩:=id hn.ex
 refine⟨rfl,?_⟩
 unfold b1V
 exact_mod_cast a0x ?_
 specialize X1 (T9 ?_)
 refine⟨na,rfl,⟨_,SqL.of a1⟩,fun A hA=>?_⟩
 refine Y4 (xs:=ns.map V.ref) (fun i ys H2=>∃as,ys=as.map V.ref/\a4k H H2 A as (z4 i [])) ?_ ?_ ?_ ?_ ?_
 ·exact⟨[],rfl,.nil hA (w4 hA) d8⟩
 ·rintro i ys H2 ⟨as,rfl,I⟩
  exact I.h
 ·rintro i ys H2 _ ⟨as,rfl,I⟩
  exact SqL.of (I.same _ _ a1)
 ·rintro i x ys H2 hx ⟨as,rfl,I⟩ R hR
  have hi:i<N.length:=by
   have:=(gI hx)
   rw[a8,a2]at this
   exact this
  ext
  refine z6 (by simp) fun p H3 hp e3 s3=>?_
  have:=I.len
  rw[D0]at this
  refine hR _ _ (s3 _ _ I.h) (F6 (by rw[a8];omega)) ⟨as++[p],by simp,?_⟩
  have q:=I.snoc hp e3 s3
  rw[show z4 i ([]:List Nat)++[[]]=z4 (i+1) [] from by rw[a5z]]at q
  rw[show as.map V.ref++[V.ref p]=(as++[p]).map V.ref by simp]
  exact q
 rintro ys H2 ⟨as,rfl,I2⟩
 rw[a8,a2]at I2
 ext
 exact_mod_cast a0x ?_
 specialize a0n (a7H ?_)
 refine⟨na,rfl,⟨_,SqL.of (I2.same _ _ a1)⟩,?_⟩
 refine b9d N.length (fun i σ H3=>∃x2 x3 x4 M,σ=[some (.ref na),some (.ref A),x2,x3,x4]/\a4k H H3 A as M/\M.length=N.length/\(∀(p:Nat) (l:List Nat),p<i->N[p]? = some l->∀t∈l,∃l',M[t]? = some l'/\p∈l')/\(∀l∈M,l.length<=2 * i/\∀p∈l,p<N.length)) ?_ ?_ ?_ ?_
 ·exact⟨_,_,_,_,rfl,I2,by simp,by omega,fun l hl=>by rw[List.eq_of_mem_replicate hl];simp⟩
 ·rintro _ H3 ⟨x2,x3,x4,M,rfl,I3,lM,g1,g2⟩
  exists ⟨⟨_,SqL.of (I3.same _ _ a1),by rw[a8,a2];exact d5 _⟩,?_⟩
  exact k A M H3 I3.net lM (fun p l hl=>g1 p l (gI hl) hl) g2 I3.same
 ·rintro i _ H3 hi ⟨x2,x3,x4,M,rfl,I3,lM,g1,g2⟩
  exact⟨_,_,SqL.of (I3.same _ _ a1),by rw[b7,g9 (show i<ns.length by omega)];rfl⟩
 ·rintro i _ H3 hi ⟨x2,x3,x4,M,rfl,I3,lM,g1,g2⟩ x H4 ⟨p,y,hp,rfl,rfl,gy⟩
  obtain⟨nx,e1⟩:∃nx,ns[i]? = some nx:=⟨_,g9 (by omega)⟩
  have gy:=gy _ (SqL.of (I3.same _ _ a1))
  rw[b7,e1]at gy
  cases gy
  refine a5X (SqT.of d8) ?_
  have s4:p9 H3 (upd H3 p (.tup [V.int (i:Int),V.ref nx])):=w4 hp
  obtain⟨H4,hH4⟩:∃H4,H4=upd H3 p (.tup [V.int (i:Int),V.ref nx]):=⟨_,rfl⟩
  rw[<-hH4]at s4 ⊢
  have I4:=I3.next s4
  have hl:=M8 hi
  obtain⟨l,hle⟩:∃l,l=N[i]:=⟨_,rfl⟩
  rw[<-hle]at hl
  have hx:H nx=some (.lst (IL l)):=a3 i nx l e1 hl
  have hll:=h2 l (mI hl)
  specialize a0n (T9 ?_)
  refine⟨nx,rfl,⟨_,SqL.of (I4.same _ _ hx)⟩,a0D (xs:=IL l) (fun j σ H5=>∃x4 M',σ=[some (.ref na),some (.ref A),some (.int (i:Int)),some (.ref nx),x4]/\a4k H H5 A as M'/\M'.length=N.length/\(∀(p:Nat) (l:List Nat),p<i->N[p]? = some l->∀t∈l,∃l',M'[t]? = some l'/\p∈l')/\(∀t∈l.take j,∃l',M'[t]? = some l'/\i∈l')/\(∀l∈M',l.length<=2 * i+j/\∀p∈l,p<N.length)) ?_ ?_ ?_ ?_⟩
  ·exact⟨_,M,rfl,I4,lM,g1,by simp,g2⟩
  ·rintro j σ H5 _ ⟨_,_,_,I5,_⟩
   exact SqL.of (I5.same _ _ hx)
  ·rintro j y _ H5 hy ⟨x4,M',rfl,I5,lM',c1,c2,c3⟩
   have hy:(l.map fun(n:Nat)=>V.int (n:Int))[j]? = some y:=hy
   rw[b7]at hy
   cases ht:l[j]? with
   | none=>rw[ht]at hy;cases hy
   | some t=>
    rw[ht]at hy
    cases hy
    have tm:=mI ht
    have hj:=(gI ht)
    have htn:t<N.length:=hlt l (mI hl) t tm
    ext
    obtain⟨z,hz⟩:∃z,as[t]? = some z:=⟨_,g9 (by have:=I5.len;omega)⟩
    have hMt:=M8 (show t<M'.length by omega)
    have hMz:=I5.at_ t z _ hz hMt
    specialize a6J ?_
    refine J2 I5.h (a1t (by rw[b7,hz];rfl)) ?_
    exists ⟨Z1 hMz,?_⟩
    have hb:=c3 _ (z7 (show t<M'.length by omega))
    refine a0B hMz (F6 (by rw[R8];omega)) ?_
    refine⟨_,M'.set t (M'[t]++[i]),rfl,?_,by rw[a0J];exact lM',?_,?_,?_⟩
    ·have:=I5.add (p:=i) hz hMt
     rw[show IL M'[t]++[V.int (i:Int)]=IL (M'[t]++[i]) by simp[IL]]
     exact this
    ·intro p' l' hp' hl' u hu
     obtain⟨l'',q1,q2⟩:=c1 p' l' hp' hl' u hu
     by_cases e:u=t
     ·subst e
      rw[hMt]at q1
      cases q1
      exact⟨_,F8 (by omega),D8 _ q2⟩
     ·exact⟨l'',by rw[J3 (Ne.symm e)];exact q1,q2⟩
    ·intro u hu
     rw[O6,ht]at hu
     by_cases e:u=t
     ·subst e
      exact⟨_,F8 (by omega),by simp⟩
     ·rcases i8.mp hu with q | q
      ·obtain⟨l'',q1,q2⟩:=c2 u q
       exact⟨l'',by rw[J3 (Ne.symm e)];exact q1,q2⟩
      ·exact absurd (by simpa using q) e
    ·intro l' hl'
     obtain⟨u,hu⟩:=F1.mp hl'
     rcases c0b hu with ⟨_,rfl⟩ | ⟨_,q⟩
     ·refine⟨by rw[c9,G8];omega,fun p' hp'=>?_⟩
      rcases i8.mp hp' with q | q
      ·exact hb.2 p' q
      ·rw[c6.mp q];exact hi
     ·obtain⟨r1,r2⟩:=c3 l' (mI q)
      exact⟨by omega,r2⟩
  ·rintro _ H5 ⟨x4,M',rfl,I5,lM',c1,c2,c3⟩
   rw[R8,V5]at c2
   refine⟨_,_,x4,M',rfl,I5,lM',fun p' l' hp' hl' t ht=>?_,fun l' hl'=>?_⟩
   ·by_cases e:p'=i
    ·subst e
     rw[hl]at hl'
     cases hl'
     exact c2 t ht
    ·exact c1 p' l' (by omega) hl' t ht
   ·obtain⟨r1,r2⟩:=c3 l' hl'
    rw[R8]at r1
    exact⟨by omega,r2⟩
theorem a8r{K:Fg}{ba la:Addr}{bs:List Nat}{B:Nat}{E:XK}(hb:H ba=some (.lst (IL bs)))(hm:D7 H la M)(h400:M.length<=400)(hB:B<=800)(hl:∀l∈M,l.length<=B/\∀t∈l,t<M.length)(hbs:∀x∈bs,x<M.length)(lb:bs.length<=400)
  (k:∀d S H',H' d=some (.dK (KS S))->S.Nodup->(∀x∈S,x<M.length)->(∀x∈bs,x∈S)->a5w M S->p9 H H'->Q (.ref d) H'):a1I K [.ref ba,.ref la] H Q E:=by
 refine⟨rfl,?_⟩
 unfold a9G
 nofun
 exists b3R fun d H1 hd e1 s1=>?_
 nofun
 exists b0M (s1 _ _ hb) fun w H2 hw e2 s2=>?_
 have s02:=s1.trans s2
 have hw0:H w=none:=s1.free hw
 have ndw:d≠w:=d4 e1 hw
 exact_mod_cast a0x ?_
 exact_mod_cast c0g ?_
 refine⟨fun m σ H3=>∃x4 ws S,σ=[some (.ref ba),some (.ref la),some (.ref d),some (.ref w),x4]/\H3 w=some (.lst (IL ws))/\H3 d=some (.dK (KS S))/\p9 H H3/\S.Nodup/\(∀x∈S,x<M.length)/\(∀x∈ws,x<M.length) /\
  (∀x∈bs,x∈S\/x∈ws)/\(∀k∈S,∀l,M[k]? = some l->∀t∈l,t∈S\/t∈ws)/\ws.length<=400+S.length * B/\m=(M.length - S.length) * (B+1)+ws.length,?_,?_⟩
 ·exact⟨_,_,bs,[],rfl,e2,s2 _ _ e1,s02,by simp,by simp,hbs,fun x hx=>.inr hx,by simp,by omega,rfl⟩
 rintro m _ H3 ⟨x4,ws,S,rfl,hw3,hd3,s3,nd,hS,hws,c1,c2,c3,rfl⟩
 ext
 exists R7 hw3 ?_
 have hSl:=a8B _ _ nd hS
 rcases b3G ws with rfl | ⟨r,p,rfl⟩
 ·exists y0 (c7H (by rw[R8];simp)) ?_
  refine k d S H3 hd3 nd hS (fun x hx=>(c1 x hx).elim id fun z=>by simp at z) (fun a ha l hl' t ht=>(c2 a ha l hl' t ht).elim id fun z=>by simp at z) s3
 refine D9 (c7I (by rw[R8,c9,G8];omega)) ?_
 have hp:p<M.length:=hws p (by simp)
 have eIL:IL (r++[p])=IL r++[V.int (p:Int)]:=by simp[IL]
 rw[eIL]at hw3
 refine⟨fun σ H4=>∃m' x4 ws S',σ=[some (.ref ba),some (.ref la),some (.ref d),some (.ref w),x4]/\H4 w=some (.lst (IL ws))/\H4 d=some (.dK (KS S'))/\p9 H H4/\S'.Nodup/\(∀x∈S',x<M.length)/\(∀x∈ws,x<M.length) /\
  (∀x∈bs,x∈S'\/x∈ws)/\(∀k∈S',∀l,M[k]? = some l->∀t∈l,t∈S'\/t∈ws)/\ws.length<=400+S'.length * B/\m'=(M.length - S'.length) * (B+1)+ws.length/\m'<(M.length - S.length) * (B+1)+(r++[p]).length,?_,?_⟩
 ·rintro σ' H4 ⟨m',x4,ws,S',e,r1,r2,r3,r4,r5,r6,r7,r8,r9,r10,r11⟩
  exact⟨m',r11,x4,ws,S',e,r1,r2,r3,r4,r5,r6,r7,r8,r9,r10⟩
 nofun
 specialize c5b ?_
 exists ⟨Z1 hw3,c5j hw3 ?_⟩
 have sW:p9 H (upd H3 w (.lst (IL r))):=fun b o e=>by rw[j5 (d4 e hw0)];exact s3 b o e
 have hdW:(upd H3 w (.lst (IL r))) d=some (.dK (KS S)):=by rw[j5 ndw];exact hd3
 have hwW:(upd H3 w (.lst (IL r))) w=some (.lst (IL r)):=d8
 obtain⟨H4,hH4⟩:∃H4,H4=upd H3 w (.lst (IL r)):=⟨_,rfl⟩
 rw[<-hH4]at sW hdW hwW ⊢
 rw[c9,G8]at c3 ⊢
 specialize a8q ?_
 obtain⟨o,g1,g2⟩:=a4D hdW p
 refine⟨d,o,rfl,g1,?_⟩
 rw[g2]
 ext
 by_cases hps:p∈S
 ·exists y0 (by rw[c7I hps];rfl) ?_
  refine⟨_,_,r,S,rfl,hwW,hdW,sW,nd,hS,fun x hx=>hws x (D8 _ hx),fun x hx=>?_,fun a ha l hl' t ht=>?_,by omega,rfl,by omega⟩
  ·rcases c1 x hx with z | z
   ·exact .inl z
   ·rcases i8.mp z with q | q
    ·exact .inr q
    ·exact .inl (c6.mp q ▸ hps)
  ·rcases c2 a ha l hl' t ht with z | z
   ·exact .inl z
   ·rcases i8.mp z with q | q
    ·exact .inr q
    ·exact .inl (c6.mp q ▸ hps)
 refine D9 (by rw[c7H hps];rfl) ?_
 obtain⟨xs,y,f1,f2,f3,_⟩:=(hm.same sW).at (M8 hp)
 obtain⟨l,hle⟩:∃l,l=M[p]:=⟨_,rfl⟩
 have hlp:M[p]? = some l:=by rw[hle];exact M8 hp
 rw[<-hle]at f3
 obtain⟨b1,b2⟩:=hl l (mI hlp)
 have hput:a3Z S p=S++[p]:=by unfold a3Z;rw[if_neg hps]
 have hS1:S.length<M.length:=by
  have:=a8B _ _ (a7J (k:=p) nd) fun x hx=>(Y3.mp hx).elim (hS x) fun z=>z ▸ hp
  rw[hput,c9,G8]at this
  omega
 exact_mod_cast a0x ?_
 specialize a8p ?_
 refine⟨d,_,rfl,b1o hdW (by omega) p,?_⟩
 rw[hput]
 obtain⟨H5,hH5⟩:∃H5,H5=upd H4 d (.dK (KS (S++[p]))):=⟨_,rfl⟩
 have hd5:H5 d=some (.dK (KS (S++[p]))):=hH5 ▸ d8
 have oth:∀b o,H4 b=some o->b≠d->H5 b=some o:=fun b o e n=>by rw[hH5,j5 n];exact e
 have s5:p9 H H5:=fun b o e=>oth b o (sW b o e) (d4 e hd)
 rw[<-hH5]
 have hw5:=oth w _ hwW (Ne.symm ndw)
 have fx5:=oth _ _ f1 (O0 f1 hdW (by intro z;cases z))
 have fy5:=oth _ _ f3 (O0 f3 hdW (by intro z;cases z))
 ext
 specialize a6J ?_
 exists ⟨Z1 hw5,?_⟩
 refine J2 fx5 f2 ?_
 have hSB:S.length * B<=400 * 800:=Nat.mul_le_mul (by omega) hB
 ext
 refine a8s hw5 fy5 (big (by rw[R8,R8];omega)) ?_
 have e6:IL r++IL l=IL (r++l):=by simp[IL]
 rw[e6]
 ext
 have key:(M.length - (S.length+1)) * (B+1)+(B+1)=(M.length - S.length) * (B+1):=by
  rw[<-Nat.succ_mul]
  congr 1
  omega
 refine⟨_,_,r++l,S++[p],rfl,d8,by rw[j5 ndw];exact hd5,fun b o e=>by rw[j5 (d4 e hw0)];exact s5 b o e,hput ▸ a7J nd,fun x hx=>?_,fun x hx=>?_,fun x hx=>?_,fun a ha l' hl' t ht=>?_,?_,rfl,?_⟩
 ·rcases i8.mp hx with q | q
  ·exact hS x q
  ·rw[c6.mp q];exact hp
 ·rcases i8.mp hx with q | q
  ·exact hws x (D8 _ q)
  ·exact b2 x q
 ·rcases c1 x hx with z | z
  ·exact .inl (D8 _ z)
  ·rcases i8.mp z with q | q
   ·exact .inr (D8 _ q)
   ·exact .inl (p8 _ q)
 ·rcases i8.mp ha with q | q
  ·rcases c2 a q l' hl' t ht with z | z
   ·exact .inl (D8 _ z)
   ·rcases i8.mp z with u | u
    ·exact .inr (D8 _ u)
    ·exact .inl (p8 _ u)
  ·rw[c6.mp q,hlp]at hl'
   cases hl'
   exact .inr (p8 _ ht)
 ·rw[c9,c9,G8,Nat.succ_mul]
  omega
 ·rw[c9,c9,G8]
  omega
theorem a9v{K:Fg}{E:XK}(hn:D7 H na N)(hv:a2J N)(k:∀H',p9 H H'->Q .non H'):a0Z K [.ref na] H Q E:=by
 refine⟨rfl,?_⟩
 unfold a5L
 nofun
 exists z6 (by simp) fun p1 H1 hp1 e1 s1=>?_
 exists a8r (bs:=[0]) (B:=2) e1 (hn.same s1) hv.le (by decide) (fun l hl=>⟨hv.two l hl,hv.lt l hl⟩) (by simpa using hv.pos) (by simp) fun d1 S1 H2 hd1 nd1 hS1 hb1 cl1 s2=>?_
 have in1:∀x,Rc N x->x∈S1:=by
  intro x h
  induction h with
  | zero=>exact hb1 0 (by simp)
  | @step a t l _ hl ht ih=>exact cl1 a ih l hl t ht
 nofun
 exists b2b ((hn.same s1).same s2) hv.le fun sa H3 _ e3 s3=>?_
 exists b5H (((hn.same s1).same s2).same s3) hv.le hv.two hv.lt fun ta M H4 m4 lM hM1 hM2 s4=>?_
 have lst:(b0v N).length<=N.length:=by
  have:=a5a (a4h N) (A0 N.length)
  rwa [Z5]at this
 have hle:=hv.le
 refine a8r (bs:=b0v N) (B:=2 * N.length) (s4 _ _ e3) m4 (by omega) (by omega) (fun l hl=>⟨(hM2 l hl).1,by rw[lM];exact(hM2 l hl).2⟩) (fun x hx=>by
  rw[lM]
  exact N4.mp (a4M.mp hx).1) (by omega) fun d2 S2 H5 hd2 nd2 hS2 hb2 cl2 s5=>?_
 have in2:∀x,Gd N x->x∈S2:=by
  intro x h
  induction h with
  | @stop a h=>exact hb2 a (b6q h)
  | @step a t l h ht _ ih=>
   obtain⟨l',q1,q2⟩:=hM1 a l h t ht
   exact cl2 t ih l' q1 a q2
 have s05:=(((s1.trans s2).trans s3).trans s4).trans s5
 have hd1':H5 d1=_:=s5 _ _ (s4 _ _ (s3 _ _ hd1))
 obtain⟨ys,hy,ly⟩:=(hn.same s05).len
 ext
 specialize a0n (a0y ?_)
 refine R7 hy ?_
 refine⟨N.length,by rw[ly],by omega,by omega,?_⟩
 rw[l5]
 refine a0p (fun i σ H6=>∃x3,σ=[some (.ref na),some (.ref d1),some (.ref d2),x3]/\H6=H5) ⟨_,rfl,rfl⟩ ?_ ?_
 ·rintro i _ H6 hi ⟨x3,rfl,rfl⟩
  ext
  rw[X5]
  specialize a8q ?_
  obtain⟨o,g1,g2⟩:=a4D hd1' i
  refine⟨d1,o,rfl,g1,?_⟩
  rw[g2,c7I (in1 i (hv.rc i hi))]
  ext
  exists y0 rfl ?_
  specialize a8q ?_
  obtain⟨o',g1',g2'⟩:=a4D hd2 i
  refine⟨d2,o',rfl,g1',?_⟩
  rw[g2',c7I (in2 i (hv.gd i hi))]
  ext
  exists y0 rfl ?_
  exact⟨_,rfl,rfl⟩
 ·rintro _ H6 ⟨x3,rfl,rfl⟩
  exact k _ s05
abbrev Stp:=Int×Int
def FST:Stp:=(-1,0)
def a2T(N:Nt)(p:Nat):List Stp:=(A0 (N.getD p []).length).map fun(a:Nat)=>((p:Int),(a:Int))
def a5e(N:Nt)(i:Nat):List Stp:=FST::(A0 i).flatMap (a2T N)
def a1H(N:Nt):List Stp:=a5e N N.length
def a2f(N:Nt)(s:Stp):Nat:=if s=FST then 0 else (N.getD s.1.toNat []).getD s.2.toNat 0
theorem a7p(N:Nt)(i:Nat):a5e N (i+1)=a5e N i++a2T N i:=by
 unfold a5e
 rw[a0I,List.flatMap_append]
 simp
def a8U(N:Nt)(s:Stp):Prop:=s=FST\/∃(p q:Nat) (l:List Nat) (t:Nat),s=((p:Int),(q:Int))/\N[p]? = some l/\l[q]? = some t
theorem b6x{s:Stp}(h:s∈a1H N):a8U N s:=by
 rcases g6.mp h with z | z
 ·exact .inl z
 ·obtain⟨p,hp,q⟩:=a9d.mp z
  have hp:=N4.mp hp
  obtain⟨a,ha,rfl⟩:=u8.mp q
  have ha:=N4.mp ha
  have e:N.getD p []=N[p]:=by simp[L0,hp]
  rw[e]at ha
  exact .inr ⟨p,a,N[p],N[p][a],rfl,M8 hp,by simp⟩
theorem c1m{s:Stp}(hv:a2J N)(h:a8U N s):a2f N s<N.length:=by
 unfold a2f
 rcases h with rfl | ⟨p,q,l,t,rfl,h1,h2⟩
 ·rw[if_pos rfl];exact hv.pos
 ·split
  ·exact hv.pos
  ·have:(N.getD ((p:Int),(q:Int)).1.toNat []).getD ((p:Int),(q:Int)).2.toNat 0=t:=by
    show(N.getD (p:Int).toNat []).getD (q:Int).toNat 0=t
    rw[l5,l5]
    simp[L0,h1,h2]
   rw[this]
   exact hv.lt l (mI h1) t (mI h2)
def a4W(K:Fg)(H:Hp)(a:Addr)(s:Stp):Prop:=H a=some (.tup [.int s.1,.int s.2])\/(s=FST/\∀H,SqT K H a [.int (-1),.int 0])
theorem a4W.ts{K:Fg}{s:Stp}(h:a4W K H a s)(t:K7 H H'):a4W K H' a s:=by
 rcases h with h | h
 ·exact .inl (t _ _ h)
 ·exact .inr h
theorem a4W.sq{K:Fg}{s:Stp}(h:a4W K H a s):SqT K H a [.int s.1,.int s.2]:=by
 rcases h with h | ⟨e,h⟩
 ·exact SqT.of h
 ·subst e;exact h H
structure a0H(K:Fg)(H:Hp)(l:Addr)(S:List Stp):Prop where
 ex:∃vs:List Addr,H l=some (.lst (vs.map V.ref))/\vs.length=S.length/\∀(i:Nat) x s,vs[i]? = some x->S[i]? = some s->a4W K H x s
theorem a0H.same{K:Fg}{l:Addr}{S:List Stp}(h:a0H K H l S)(s:p9 H H'):a0H K H' l S:=by
 obtain⟨vs,h1,h2,h3⟩:=h.ex
 exact⟨vs,s _ _ h1,h2,fun i x t e1 e2=>(h3 i x t e1 e2).ts (p9.ts s)⟩
theorem a0H.put{K:Fg}{l y:Addr}{S:List Stp}(h:a0H K H l S)(hy:H y=some (.lst xs))(n:l≠y):a0H K (upd H y (.lst ys)) l S:=by
 obtain⟨vs,h1,h2,h3⟩:=h.ex
 exact⟨vs,by rw[j5 n];exact h1,h2,fun i x t e1 e2=>(h3 i x t e1 e2).ts (K7.put hy)⟩
theorem b2c{K:Fg}{c:Cn}{E:XK}(ck:a7e K c)(hn:D7 H na N)(h400:N.length<=400)(h2:∀l∈N,l.length<=2)
  (k:∀a H',H a=none->a0H K H' a (a1H N)->p9 H H'->Q (.ref a) H'):a1Y K c [.ref na] H Q E:=by
 obtain⟨ns,a1,a2,a3⟩:=id hn.ex
 refine⟨rfl,?_⟩
 unfold a7Z
 nofun
 exists z6 (by simp) fun D H1 hD e1 s1=>?_
 exact_mod_cast a0x ?_
 specialize a0n (a7H ?_)
 refine⟨na,rfl,⟨_,SqL.of (s1 _ _ a1)⟩,?_⟩
 refine b9d N.length (fun i σ H2=>∃x2 x3 vs,σ=[some (.ref na),some (.ref D),x2,x3]/\H2 D=some (.lst ((vs:List Addr).map V.ref))/\vs.length=(a5e N i).length/\vs.length<=1+2 * i/\(∀(j:Nat) x s,vs[j]? = some x->(a5e N i)[j]? = some s->a4W K H2 x s)/\p9 H H2) ?_ ?_ ?_ ?_
 ·refine⟨_,_,[c.a0M],rfl,e1,rfl,by simp,fun j x s f1 f2=>?_,s1⟩
  cases j with
  | zero=>
   cases f1
   cases f2
   exact .inr ⟨rfl,ck.a6r⟩
  | succ j=>simp at f1
 ·rintro _ H2 ⟨x2,x3,vs,rfl,hD2,lv,_,at2,s2⟩
  exists ⟨⟨_,SqL.of (s2 _ _ a1),by rw[a8,a2];exact d5 _⟩,?_⟩
  exact k D H2 hD ⟨vs,hD2,lv,at2⟩ s2
 ·rintro i _ H2 hi ⟨x2,x3,vs,rfl,hD2,lv,_,at2,s2⟩
  exact⟨_,_,SqL.of (s2 _ _ a1),by rw[b7,g9 (show i<ns.length by omega)];rfl⟩
 ·rintro i _ H2 hi ⟨x2,x3,vs,rfl,hD2,lv,lv2,at2,s2⟩ x H3 ⟨p,y,hp,rfl,rfl,gy⟩
  obtain⟨nx,f1⟩:∃nx,ns[i]? = some nx:=⟨_,g9 (by omega)⟩
  have gy:=gy _ (SqL.of (s2 _ _ a1))
  rw[b7,f1]at gy
  cases gy
  refine a5X (SqT.of d8) ?_
  have s3:p9 H2 (upd H2 p (.tup [V.int (i:Int),V.ref nx])):=w4 hp
  obtain⟨H3,hH3⟩:∃H3,H3=upd H2 p (.tup [V.int (i:Int),V.ref nx]):=⟨_,rfl⟩
  rw[<-hH3]at s3 ⊢
  have s03:=s2.trans s3
  have hl:=M8 hi
  obtain⟨l,hle⟩:∃l,l=N[i]:=⟨_,rfl⟩
  rw[<-hle]at hl
  have hll:=h2 l (mI hl)
  have hx:=s03 _ _ (a3 i nx l f1 hl)
  ext
  specialize a6J ?_
  exists ⟨Z1 (s3 _ _ hD2),?_⟩
  specialize X1 (a0y ?_)
  refine R7 hx ?_
  rw[R8]
  refine⟨l.length,rfl,by omega,by omega,fun A hA=>?_⟩
  rw[l5]
  refine a2H (fun j ys H4=>∃ws:List Addr,ys=ws.map V.ref/\ws.length=j/\(∀(q:Nat) x,ws[q]? = some x->H4 x=some (.tup [.int (i:Int),.int (q:Int)]))/\H4 A=some (.lst ys)/\p9 H3 H4) ?_ ?_ ?_ ?_
  ·exact⟨[],rfl,rfl,by simp,d8,w4 hA⟩
  ·rintro j ys H4 ⟨_,_,_,_,h,_⟩
   exact h
  ·rintro j ys H4 hj ⟨ws,rfl,lw,at4,hA4,s4⟩ R hR
   ext
   refine z6 (by simp) fun z H5 hz e5 s5=>?_
   rw[X5]at e5
   have nzA:z≠A:=(d4 hA4 hz).symm
   refine hR _ _ (s5 _ _ hA4) (F6 (by rw[a8];omega)) ⟨ws++[z],by simp,by simp[lw],fun q x hq=>?_,d8,fun b o e=>?_⟩
   ·rcases P6 hq with ⟨_,g⟩ | ⟨hq',g⟩
    ·have:=s5 _ _ (at4 q x g)
     rw[j5 (O0 this (s5 _ _ hA4) (by intro z;cases z))]
     exact this
    ·subst g
     rw[j5 nzA,e5,hq',lw]
   ·rw[j5 (d4 e hA)];exact s5 _ _ (s4 _ _ e)
  ·rintro ys H4 ⟨ws,rfl,lw,at4,hA4,s4⟩
   ext
   have hD4:H4 D=_:=s4 _ _ (s3 _ _ hD2)
   have s04:=s03.trans s4
   refine a8s hD4 hA4 (big (by rw[a8,a8];omega)) ?_
   rw[<-u9]
   have hon:a2T N i=(A0 l.length).map fun(a:Nat)=>((i:Int),(a:Int)):=by
    unfold a2T
    simp[L0,hl]
   have hU:=a7p N i
   have lon:(a2T N i).length=l.length:=by rw[hon];simp
   refine⟨_,_,vs++ws,rfl,d8,by rw[hU,c9,c9,lv,lw,lon],by rw[c9];omega,fun j x s g1 g2=>?_,fun b o e=>?_⟩
   ·rw[hU]at g2
    by_cases hj:j<vs.length
    ·rw[L5 hj]at g1
     rw[L5 (by omega)]at g2
     exact((at2 j x s g1 g2).ts (p9.ts (s3.trans s4))).ts (K7.put hD4)
    ·rw[K8 (by omega)]at g1
     rw[K8 (by omega),<-lv,hon,b7]at g2
     have hq:j - vs.length<l.length:=by
      have:=(gI g1)
      omega
     rw[a1U hq]at g2
     cases g2
     have:=at4 _ _ g1
     exact .inl (by rw[j5 (O0 this hD4 (by intro z;cases z))];exact this)
   ·rw[j5 (d4 e hD)];exact s04 _ _ e
def c5R(c:Cn)(H:Hp)(x:Addr)(N:Nt):Prop:=∃dx fs n,H x=some (.ins c.F2 dx fs)/\fs.lookup ("nexts" : Str)=some (V.ref n)/\D7 H n N
theorem eq2(p q:Int):O3 [.int p,.int q] [.int (-1),.int 0]=decide ((p,q)=FST):=by
 unfold O3
 simp only[v7,a4N,Nat.zero_add,Nat.reduceAdd,a9a]
 rw[show A0 2=[0,1] from rfl]
 simp only[b3o,c6f,b3p,L0,a3E,List.getElem?_cons_succ,a3y,beq_self_eq_true]
 unfold FST
 by_cases h:p = -1
 ·by_cases h':q=0
  ·subst h h';decide
  ·subst h
   simp[eqV,h']
 ·simp[eqV,h]
theorem b2I{K:Fg}{c:Cn}{x:Addr}{s:Stp}{E:XK}(ck:a7e K c)(hp:c5R c H x N)(ha:a4W K H a s)(hs:a8U N s)(k:Q (.int (a2f N s:Nat)) H):Z2 K c [.ref x,.ref a] H Q E:=by
 refine⟨rfl,?_⟩
 unfold a3u
 nofun
 refine⟨_,_,_,_,rfl,rfl,ha.sq,ck.a6r H,rfl,rfl,?_⟩
 rw[eq2]
 ext
 by_cases e:s=FST
 ·exists D9 (c7I e) ?_
  unfold a2f at k
  rw[if_pos e]at k
  exact k
 ·exists y0 (c7H e) ?_
  rcases hs with z | ⟨p,q,l,t,rfl,h1,h2⟩
  ·exact(e z).elim
  rcases ha with ha | ⟨z,_⟩
  rotate_left
  ·exact(e z).elim
  obtain⟨dx,fs,n,hx,hf,hn⟩:=hp
  specialize b2p ?_
  exists ⟨x,_,dx,fs,_,rfl,hx,ck.Y6,ck.a0e,hf,?_⟩
  refine F4 ha (a0Q _ _) ?_
  obtain⟨xs,y,f1,f2,f3,_⟩:=hn.at h1
  exists J2 f1 f2 ?_
  refine F4 ha (a3p _ _ _) ?_
  refine J2 f3 (c5S h2) ?_
  have:a2f N ((p:Int),(q:Int))=t:=by
   unfold a2f
   rw[if_neg e]
   show(N.getD (p:Int).toNat []).getD (q:Int).toNat 0=t
   rw[l5,l5]
   simp[L0,h1,h2]
  rw[this]at k
  exact k
structure b9z(K:Fg)(H0 H:Hp)(e:Addr)(es:List Addr)(P:List (List Stp)):Prop where
 same:p9 H0 H
 h:H e=some (.lst (es.map V.ref))
 len:es.length=P.length
 nd:es.Nodup
 na:e∉es
 at_:∀(i:Nat) y S,es[i]? = some y->P[i]? = some S->a0H K H y S
 new:H0 e=none/\∀y∈es,H0 y=none
theorem b9z.add{K:Fg}{e:Addr}{es:List Addr}{P:List (List Stp)}(h:b9z K H0 H e es P){t:Nat}{y:Addr}{S:List Stp}{s:Stp}{vs:List Addr}(e1:es[t]? = some y)(e2:P[t]? = some S)(hy:H y=some (.lst (vs.map V.ref)))
  (lv:vs.length=S.length) (at2:∀(i:Nat) x s,vs[i]? = some x->S[i]? = some s->a4W K H x s) (ha:a4W K H a s):b9z K H0 (upd H y (.lst ((vs++[a]).map V.ref))) e es (P.set t (S++[s])):=by
 have hm:=mI e1
 have ye:y≠e:=fun z=>h.na (z ▸ hm)
 refine⟨fun b o q=>by rw[j5 (d4 q (h.new.2 y hm))];exact h.same b o q,by rw[j5 ye.symm];exact h.h,by rw[a0J];exact h.len,h.nd,h.na,fun i z S' f1 f2=>?_,h.new⟩
 by_cases q:i=t
 ·subst q
  rw[e1]at f1
  cases f1
  rw[F8 (gI e2)]at f2
  cases f2
  refine⟨vs++[a],d8,by simp[lv],fun j x s' g1 g2=>?_⟩
  rcases P6 g1 with ⟨_,k1⟩ | ⟨j1,k1⟩
  ·rcases P6 g2 with ⟨_,k2⟩ | ⟨j2,k2⟩
   ·exact(at2 j x s' k1 k2).ts (K7.put hy)
   ·omega
  ·rcases P6 g2 with ⟨_,k2⟩ | ⟨j2,k2⟩
   ·omega
   ·subst k1 k2
    exact ha.ts (K7.put hy)
 ·rw[J3 (Ne.symm q)]at f2
  have:z≠y:=by
   rintro rfl
   exact q (c2f h.nd f1 e1)
  exact(h.at_ i z S' f1 f2).put hy this
structure c6D(K:Fg)(c:Cn)(H:Hp)(x:Addr)(N:Nt):Prop where
 ex:∃dx r n e es,H x=some (.ins c.F2 dx [("rows",.ref r),("nexts",.ref n),("entries",.ref e)])/\M3 H r N/\D7 H n N/\H e=some (.lst ((es:List Addr).map V.ref))/\es.length=N.length /\
  ∀(t:Nat) y,es[t]? = some y->a0H K H y ((a1H N).filter fun s=>decide (a2f N s=t))
structure b9v(K:Fg)(c:Cn)(Z:Addr->Prop)(rs:List Addr)(H:Hp)(x:Addr)(N:Nt):Prop where
 ex:∃dx r n e es ns,H x=some (.ins c.F2 dx [("rows",.ref r),("nexts",.ref n),("entries",.ref e)])/\(M3 H r N/\H r=some (.lst (rs.map V.ref)))/\H n=some (.lst ((ns:List Addr).map V.ref))/\ns.length=N.length/\(∀(i:Nat) y l,ns[i]? = some y->N[i]? = some l->H y=some (.lst (IL l))) /\
  H e=some (.lst ((es:List Addr).map V.ref))/\es.length=N.length/\(∀(t:Nat) y,es[t]? = some y->a0H K H y ((a1H N).filter fun s=>decide (a2f N s=t)))/\∀z,Z z->z≠r/\z≠n/\z≠e/\z∉ns/\z∉es
theorem D7.ins{H:Hp}{a x C dx:Addr}{N:Nt}{fs:List (Str×V)}{o:HO}(h:D7 H a N)(hx:H x=some (.ins C dx fs)):D7 (upd H x o) a N:=by
 obtain⟨as,q1,q2,q3⟩:=h.ex
 exact⟨as,by rw[j5 (O0 q1 hx (by intro z;cases z))];exact q1,q2,fun j y l e1 e2=>by
  have q:=q3 j y l e1 e2
  rw[j5 (O0 q hx (by intro z;cases z))];exact q⟩
theorem K7.ins{H:Hp}{x C dx:Addr}{fs:List (Str×V)}{o:HO}(hx:H x=some (.ins C dx fs)):K7 H (upd H x o):=fun a xs e=>by
 rw[j5 (O0 e hx (by intro z;cases z))];exact e
theorem M3.ins{H:Hp}{a x C dx:Addr}{N:Nt}{fs:List (Str×V)}{o:HO}(h:M3 H a N)(hx:H x=some (.ins C dx fs)):M3 (upd H x o) a N:=by
 obtain⟨as,q1,q2,q3⟩:=h.ex
 exact⟨as,by rw[j5 (O0 q1 hx (by intro z;cases z))];exact q1,q2,fun j y l e1 e2=>(q3 j y l e1 e2).ts (K7.ins hx)⟩
theorem b5K(h:∀l∈N,l.length<=2):(a1H N).length<=1+2 * N.length:=by
 have go:∀i,i<=N.length->(a5e N i).length<=1+2 * i:=by
  intro i
  induction i with
  | zero=>intro _;show 1<=1;exact d5 _
  | succ i ih=>
   intro hi
   rw[a7p,c9]
   have:=ih (by omega)
   have h2:(a2T N i).length<=2:=by
    unfold a2T
    rw[a8,Z5]
    have e:N.getD i []=N[i]:=by simp[L0,show i<N.length by omega]
    rw[e]
    exact h _ (z7 _)
   omega
 exact go _ (d5 _)
theorem b4y{S:List Stp}{f:Stp->Nat}{t:Nat}{s:Stp}(h:S[i]? = some s):(S.take (i+1)).filter (fun s=>decide (f s=t))=(S.take i).filter (fun s=>decide (f s=t))++(if f s=t then [s] else []):=by
 rw[O6,h,a7v]
 congr 1
 by_cases e:f s=t
 ·rw[if_pos e];simp[e]
 ·rw[if_neg e];simp[e]
theorem b0R{K:Fg}{c:Cn}{x:Addr}{E:XK}(ck:a7e K c)(hrs:H ra=some (.lst (rs.map V.ref)))(hr:M3 H ra N)(hn:D7 H na N)(hv:a2J N)(hx:H x=some (.ins c.F2 dx []))
  (k:∀H',b9v K c (fun z=>∃o,H z=some o/\z≠x) rs H' x N->(∀b o,H b=some o->b≠x->H' b=some o)->Q .non H'):Q3 K c [.ref x,.ref ra,.ref na] H Q E:=by
 obtain⟨rs',r1,r2,r3⟩:=id hr.ex
 obtain rfl:rs'=rs:=by
  rw[hrs]at r1
  exact(a0O (f:=V.ref) (fun a b h=>V.ref.inj h) |>.mp (HO.lst.inj (Option.some.inj r1))).symm
 obtain⟨ns,n1,n2,n3⟩:=id hn.ex
 have hpos:=hv.pos
 have h400:=hv.le
 refine⟨rfl,?_⟩
 unfold a7o
 nofun
 exists a7A r1 (by rw[a8];omega) (by rw[a8];omega) ?_
 nofun
 specialize X1 (T9 ?_)
 refine⟨ra,rfl,⟨_,SqL.of r1⟩,fun D hD=>?_⟩
 refine Y4 (xs:=rs'.map V.ref) (fun i ys H2=>ys=z4 i (V.bl true)/\H2 D=some (.lst ys)/\p9 H H2) ⟨rfl,d8,w4 hD⟩ ?_ ?_ ?_ ?_
 ·rintro i ys H2 ⟨_,h,_⟩
  exact h
 ·rintro i ys H2 _ ⟨_,_,s2⟩
  exact SqL.of (s2 _ _ r1)
 ·rintro i y ys H2 hy ⟨rfl,hD2,s2⟩ R hR
  rw[b7]at hy
  cases hrx:rs'[i]? with
  | none=>rw[hrx]at hy;cases hy
  | some rx=>
   rw[hrx]at hy
   cases hy
   have hi:i<N.length:=by rw[<-r2];exact(gI hrx)
   ext
   refine b6w ck ((r3 i rx _ hrx (M8 hi)).ts (p9.ts s2)) fun H3 s3=>?_
   refine hR _ _ (s3 _ _ hD2) (F6 (by rw[D0];omega)) ⟨a7X i,d8,fun b o e=>?_⟩
   rw[j5 (d4 e hD)];exact s3 _ _ (s2 _ _ e)
 rintro ys H2 ⟨rfl,hD2,s2⟩
 ext
 refine a4V hD2 fun H3 s3=>?_
 have s03:=s2.trans s3
 ext
 nofun
 refine a8L (hr.same s03) (hn.same s03) h400 hv.two hv.lt fun H4 s4=>?_
 have s04:=s03.trans s4
 ext
 nofun
 refine a9v (hn.same s04) hv fun H5 s5=>?_
 have s05:=s04.trans s5
 ext
 exact_mod_cast a0x ?_
 specialize b3Q ?_
 refine b0M (s05 _ _ r1) fun rp H6 hrp e6 s6=>?_
 have s06:=s05.trans s6
 ext
 refine⟨x,_,dx,[],rfl,s06 _ _ hx,ck.Y6,ck.a0L,by simp,?_⟩
 obtain⟨H7,hH7⟩:∃H7,H7=upd H6 x (.ins c.F2 dx (a1T "rows" (.ref rp) [])):=⟨_,rfl⟩
 have x7:H7 x=some (.ins c.F2 dx [("rows",.ref rp)]):=hH7 ▸ d8
 have f7:∀b o,H6 b=some o->b≠x->H7 b=some o:=fun b o e n=>by rw[hH7,j5 n];exact e
 have rows7:M3 H7 rp N:=by
  have q:M3 H6 rp N:=⟨rs',e6,r2,fun i y l a b=>(r3 i y l a b).ts (p9.ts s06)⟩
  rw[hH7]
  exact q.ins (s06 _ _ hx)
 have net7:D7 H7 na N:=by rw[hH7];exact(hn.same s06).ins (s06 _ _ hx)
 have ra7:H7 ra=some (.lst (rs'.map V.ref)):=f7 _ _ (s06 _ _ r1) (O0 r1 hx (by intro z;cases z))
 rw[<-hH7]
 clear hH7
 exact_mod_cast a0x ?_
 exact_mod_cast b3Q ?_
 exact_mod_cast X1 (T9 ?_)
 obtain⟨ns',m1,m2,m3⟩:=id net7.ex
 ext
 refine⟨na,rfl,⟨_,SqL.of m1⟩,fun np hnp=>?_⟩
 refine Y4 (xs:=ns'.map V.ref) (fun i ys H8=>∃as:List Addr,ys=as.map V.ref/\as.length=i/\(∀(j:Nat) y l,as[j]? = some y->N[j]? = some l->H8 y=some (.lst (IL l))/\y≠np)/\H8 np=some (.lst ys)/\p9 H7 H8/\∀y∈as,H7 y=none) ?_ ?_ ?_ ?_ ?_
 ·exact⟨[],rfl,rfl,by simp,d8,w4 hnp,by simp⟩
 ·rintro i ys H8 ⟨_,_,_,_,h,_⟩
  exact h
 ·rintro i ys H8 _ ⟨_,_,_,_,_,s8,_⟩
  exact SqL.of (s8 _ _ m1)
 ·rintro i y ys H8 hy ⟨as,rfl,la,at8,hnp8,s8,fr8⟩ R hR
  rw[b7]at hy
  cases hnx:ns'[i]? with
  | none=>rw[hnx]at hy;cases hy
  | some nx=>
   rw[hnx]at hy
   cases hy
   have hi:i<N.length:=by rw[<-m2];exact(gI hnx)
   ext
   refine b0M (s8 _ _ (m3 i nx _ hnx (M8 hi))) fun q H9 hq e9 s9=>?_
   have nq:q≠np:=(d4 hnp8 hq).symm
   refine hR _ _ (s9 _ _ hnp8) (F6 (by rw[a8];omega)) ⟨as++[q],by simp,by simp[la],fun j y l g1 g2=>?_,d8,fun b o e=>?_,fun y hy=>?_⟩
   ·rcases P6 g1 with ⟨_,f1⟩ | ⟨hj,f1⟩
    ·obtain⟨f2,f3⟩:=at8 j y l f1 g2
     exact⟨by rw[j5 f3];exact s9 _ _ f2,f3⟩
    ·rw[hj,la,M8 hi]at g2
     cases g2
     subst f1
     exact⟨by rw[j5 nq];exact e9,nq⟩
   ·rw[j5 (d4 e hnp)];exact s9 _ _ (s8 _ _ e)
   ·rcases i8.mp hy with z | z
    ·exact fr8 y z
    ·rw[c6.mp z];exact s8.free hq
 rintro ys H8 ⟨as,rfl,la,at8,hnp8,s8,fr8⟩
 rw[a8,m2]at la
 have net8:D7 H8 np N:=⟨as,hnp8,la,fun i y l a b=>(at8 i y l a b).1⟩
 ext
 refine⟨x,_,dx,_,rfl,s8 _ _ x7,ck.Y6,ck.a0e,by simp,?_⟩
 obtain⟨H9,hH9⟩:∃H9,H9=upd H8 x (.ins c.F2 dx (a1T "nexts" (.ref np) [("rows",.ref rp)])):=⟨_,rfl⟩
 have x9:H9 x=some (.ins c.F2 dx [("rows",.ref rp),("nexts",.ref np)]):=by
  rw[hH9,d8]
  simp only[a1T]
  rw[if_neg (by decide)]
 have f9:∀b o,H8 b=some o->b≠x->H9 b=some o:=fun b o e n=>by rw[hH9,j5 n];exact e
 have rows9:M3 H9 rp N:=by rw[hH9];exact(rows7.same s8).ins (s8 _ _ x7)
 have net9:D7 H9 np N:=by rw[hH9];exact net8.ins (s8 _ _ x7)
 have ra9:H9 ra=some (.lst (rs'.map V.ref)):=f9 _ _ (s8 _ _ ra7) (O0 ra7 x7 (by intro z;cases z))
 rw[<-hH9]
 clear hH9
 exact_mod_cast a0x ?_
 exact_mod_cast b3Q ?_
 specialize X1 (T9 ?_)
 refine⟨ra,rfl,⟨_,SqL.of ra9⟩,fun ep hep=>?_⟩
 refine Y4 (xs:=rs'.map V.ref) (fun i ys H10=>∃es,ys=es.map V.ref/\a4k H9 H10 ep es (z4 i [])) ?_ ?_ ?_ ?_ ?_
 ·exact⟨[],rfl,.nil hep (w4 hep) d8⟩
 ·rintro i ys H10 ⟨es,rfl,I⟩
  exact I.h
 ·rintro i ys H10 _ ⟨es,rfl,I⟩
  exact SqL.of (I.same _ _ ra9)
 ·rintro i y ys H10 hy ⟨es,rfl,I⟩ R hR
  have hi:i<N.length:=by
   have:=(gI hy)
   rw[a8,r2]at this
   exact this
  ext
  refine z6 (by simp) fun p H11 hp e11 s11=>?_
  have:=I.len
  rw[D0]at this
  refine hR _ _ (s11 _ _ I.h) (F6 (by rw[a8];omega)) ⟨es++[p],by simp,?_⟩
  have q:=I.snoc hp e11 s11
  rw[show z4 i ([]:List Nat)++[[]]=z4 (i+1) [] from by rw[a5z]]at q
  rw[show es.map V.ref++[V.ref p]=(es++[p]).map V.ref by simp]
  exact q
 rintro ys H10 ⟨es,rfl,I10⟩
 rw[a8,r2]at I10
 ext
 have x10:=I10.same _ _ x9
 refine⟨x,_,dx,_,rfl,x10,ck.Y6,ck.a0j,by simp,?_⟩
 obtain⟨F,hF⟩:∃F:List (Str×V),F=([("rows",.ref rp),("nexts",.ref np),("entries",.ref ep)]:List (Str×V)):=⟨_,rfl⟩
 have hput:a1T "entries" (.ref ep) [("rows",.ref rp),("nexts",.ref np)]=F:=by
  rw[hF]
  simp only[a1T]
  rw[if_neg (by decide),if_neg (by decide)]
 rw[hput]
 obtain⟨H11,hH11⟩:∃H11,H11=upd H10 x (.ins c.F2 dx F):=⟨_,rfl⟩
 obtain⟨H0,hH0⟩:∃H0,H0=upd H9 x (.ins c.F2 dx F):=⟨_,rfl⟩
 have x0:H0 x=some (.ins c.F2 dx F):=hH0 ▸ d8
 have f0:∀b o,H9 b=some o->b≠x->H0 b=some o:=fun b o e n=>by rw[hH0,j5 n];exact e
 have rows0:M3 H0 rp N:=by rw[hH0];exact rows9.ins x9
 have net0:D7 H0 np N:=by rw[hH0];exact net9.ins x9
 have np0:H0 np=some (.lst (as.map V.ref)):=by
  have:=f9 _ _ hnp8 (O0 hnp8 (s8 _ _ x7) (by intro z;cases z))
  exact f0 _ _ this (O0 this x9 (by intro z;cases z))
 have rp0:H0 rp=some (.lst (rs'.map V.ref)):=by
  have q:=s8 _ _ (f7 _ _ e6 (O0 e6 (s06 _ _ hx) (by intro z;cases z)))
  have q:=f9 _ _ q (O0 q (s8 _ _ x7) (by intro z;cases z))
  exact f0 _ _ q (O0 q x9 (by intro z;cases z))
 have at0:∀(i:Nat) y l,as[i]? = some y->N[i]? = some l->H0 y=some (.lst (IL l)):=fun i y l a b=>by
  have q:=(at8 i y l a b).1
  have q:=f9 _ _ q (O0 q (s8 _ _ x7) (by intro z;cases z))
  exact f0 _ _ q (O0 q x9 (by intro z;cases z))
 have old9:∀b o,H b=some o->b≠x->H9 b=some o:=fun b o e n=>f9 _ _ (s8 _ _ (f7 _ _ (s06 _ _ e) n)) n
 have ent11:b9z K H0 H11 ep es (z4 N.length []):=by
  have nxe:x≠ep:=d4 x9 hep
  have nxes:∀y∈es,x≠y:=fun y hy=>d4 x9 (I10.new.2 y hy)
  refine⟨fun b o e=>?_,by rw[hH11,j5 nxe.symm];exact I10.h,by rw[D0];have:=I10.len;rwa [D0]at this,I10.nd,I10.na,fun i y S a b=>?_,by rw[hH0,j5 nxe.symm];exact hep,fun y hy=>by rw[hH0,j5 (nxes y hy).symm];exact I10.new.2 y hy⟩
  ·rw[hH0]at e
   rw[hH11]
   by_cases q:b=x
   ·subst q
    rw[d8]at e ⊢
    exact e
   ·rw[j5 q]at e ⊢
    exact I10.same _ _ e
  ·have hi:=(gI b)
   rw[D0]at hi
   have q:=I10.at_ i y [] a (by rw[J4,if_pos hi])
   rw[J4,if_pos hi]at b
   cases b
   refine⟨[],?_,rfl,by simp⟩
   rw[hH11,j5 (O0 q x10 (by intro z;cases z))]
   exact q
 have old:∀b o,H b=some o->b≠x->H0 b=some o:=fun b o e n=>f0 _ _ (f9 _ _ (s8 _ _ (f7 _ _ (s06 _ _ e) n)) n) n
 rw[<-hH11]
 clear hH11 hH0 I10 x10 f0 f9 x9 ra9 net9 rows9
 specialize a0n (T9 ?_)
 specialize b2p ?_
 exists ⟨x,_,dx,F,.ref np,rfl,ent11.same _ _ x0,ck.Y6,ck.a0e,by rw[hF];rfl,?_⟩
 refine b2c ck (net0.same ent11.same) h400 hv.two fun sl H12 hsl S12 s12=>?_
 obtain⟨vs,v1,v2,v3⟩:=id S12.ex
 have nsl:sl∉es:=fun z=>by
  obtain⟨i,hi⟩:=F1.mp z
  have hil:i<N.length:=by
   have:=ent11.len
   rw[D0]at this
   rw[<-this];exact(gI hi)
  obtain⟨ws,w1,_⟩:=(ent11.at_ i sl [] hi (by rw[J4,if_pos hil])).ex
  rw[hsl]at w1
  cases w1
 refine⟨sl,rfl,⟨_,SqL.of v1⟩,a0D (xs:=vs.map V.ref) (fun i σ H13=>∃x3 P,σ=[some (.ref x),some (.ref ra),some (.ref na),x3]/\b9z K H0 H13 ep es P/\P.length=N.length/\(∀t,t<N.length->P[t]? = some (((a1H N).take i).filter fun s=>decide (a2f N s=t)))/\a0H K H13 sl (a1H N)/\H13 sl=some (.lst (vs.map V.ref))) ?_ ?_ ?_ ?_⟩
 ·refine⟨_,z4 N.length [],rfl,⟨ent11.same.trans s12,s12 _ _ ent11.h,ent11.len,ent11.nd,ent11.na,fun i y S a b=>(ent11.at_ i y S a b).same s12,ent11.new⟩,by simp,fun t ht=>by rw[J4,if_pos ht];simp,S12,v1⟩
 ·rintro i σ H13 _ ⟨_,_,_,_,_,_,_,h⟩
  exact SqL.of h
 ·rintro i y _ H13 hy ⟨x3,P,rfl,I13,lP,hP,S13,hsl13⟩
  rw[b7]at hy
  cases hvx:vs[i]? with
  | none=>rw[hvx]at hy;cases hy
  | some vx=>
   rw[hvx]at hy
   cases hy
   obtain⟨ws,w1,w2,w3⟩:=S13.ex
   have ews:ws=vs:=by
    rw[hsl13]at w1
    have:=a0O (f:=V.ref) (fun a b h=>V.ref.inj h) |>.mp (HO.lst.inj (Option.some.inj w1))
    exact this.symm
   subst ews
   have hi:i<(a1H N).length:=by rw[<-w2];exact(gI hvx)
   obtain⟨s,hs⟩:∃s,(a1H N)[i]? = some s:=⟨_,g9 hi⟩
   have hst:=w3 i vx s hvx hs
   have hm:=mI hs
   have his:=b6x hm
   have hlt:=c1m hv his
   have x13:=I13.same _ _ x0
   ext
   specialize a6J ?_
   specialize b2p ?_
   refine⟨x,_,dx,F,.ref ep,rfl,x13,ck.Y6,ck.a0j,by rw[hF];rfl,?_⟩
   specialize a5g ?_
   exists ⟨x,dx,F,rfl,x13,by rw[hF];rfl,?_⟩
   refine b2I ck ⟨dx,F,np,x13,by rw[hF];rfl,net0.same I13.same⟩ hst his ?_
   obtain⟨z,hz⟩:∃z,es[a2f N s]? = some z:=⟨_,g9 (by have:=I13.len;omega)⟩
   refine J2 I13.h (a1t (by rw[b7,hz];rfl)) ?_
   have hPt:=hP _ hlt
   obtain⟨us,u1,u2,u3⟩:=(I13.at_ _ z _ hz hPt).ex
   exists ⟨Z1 u1,?_⟩
   have hul:us.length<=i:=by
    rw[u2]
    refine E3 (a5a _ _) ?_
    rw[P5];omega
   have hlen1:(a1H N).length<=1000:=by
    rw[<-w2]
    have:(a1H N).length<=1+2 * N.length:=b5K hv.two
    omega
   refine a0B u1 (F6 (by rw[a8];omega)) ?_
   have add:=I13.add (a:=vx) (s:=s) hz hPt u1 u2 u3 hst
   rw[show us.map V.ref++[V.ref vx]=(us++[vx]).map V.ref by simp]
   have nz:sl≠z:=fun q=>nsl (q ▸ mI hz)
   refine⟨_,_,rfl,add,by rw[a0J];exact lP,fun t ht=>?_,S13.put u1 nz,by rw[j5 nz];exact hsl13⟩
   rw[b4y hs]
   by_cases q:a2f N s=t
   ·subst q
    rw[F8 (by omega),if_pos rfl]
   ·rw[J3 q,if_neg q,b0j]
    exact hP t ht
 ·rintro _ H13 ⟨x3,P,rfl,I13,lP,hP,S13,hsl13⟩
  have f8:∀b o,H b=some o->b≠x->H7 b=some o:=fun b o e n=>f7 _ _ (s06 _ _ e) n
  refine k H13 ⟨dx,rp,np,ep,es,as,hF ▸ I13.same _ _ x0,⟨rows0.same I13.same,I13.same _ _ rp0⟩,I13.same _ _ np0,la,fun i y l a b=>I13.same _ _ (at0 i y l a b),I13.h,by rw[I13.len,lP],fun t y hy=>?_,fun z ⟨o,ho,hzx⟩=>⟨d4 (s05 _ _ ho) hrp,d4 (f8 _ _ ho hzx) hnp,d4 (old9 _ _ ho hzx) hep,fun q=>d4 (f8 _ _ ho hzx) (fr8 z q) rfl,fun q=>d4 (old _ _ ho hzx) (I13.new.2 z q) rfl⟩⟩ fun b o e n=>I13.same _ _ (old b o e n)
  have ht:t<N.length:=by
   have:=(gI hy)
   have:=I13.len
   omega
  have q:=I13.at_ t y _ hy (hP t ht)
  rw[a8,v2,V5]at q
  exact q
structure c6I(H:Hp)(d:Addr)(ds:List V):Prop where
 h:H d=some (.tup ds)
 ex:∃k v1 v2,ds=[.str k,v1,v2]/\OpN v1/\OpN v2
def b6T(H:Hp)(p:Addr)(xs:List V):Prop:=H p=some (.tup xs)/\a3B H xs
theorem b6T.ts(h:b6T H p xs)(t:K7 H H'):b6T H' p xs:=⟨t _ _ h.1,h.2.ts t⟩
theorem a7B.x{a:Bool}(h:a7B H (.ref p) a):∃xs,b6T H p xs:=by
 obtain⟨q,xs,e,h1,h2,_⟩:=h
 cases e
 exact⟨xs,h1,h2⟩
theorem a3B.head(h:a3B H xs):∃k r,xs=.str k::r:=by cases h <;> exact⟨_,_,rfl⟩
def sbV(xs:List V):Option Str:=match xs with
 | .str k :: .str n::_=>if k=("set" : Str)\/k=("copy" : Str)\/k=("take" : Str)then some n else none
 | _=>none
def nmV(o:Option Str):V:=match o with
 | some s=>.str s
 | none=>.non
section
variable {K:Fg}{E:XK}
theorem a9P(hr:b6T H p xs)(k:∀H',p9 H H'->Q (nmV (sbV xs)) H'):a2F K [.ref p] H Q E:=by
 obtain⟨hp,rS⟩:=id hr
 refine⟨rfl,?_⟩
 unfold b1W
 obtain⟨k0,r,rfl⟩:=rS.head
 ext
 exists F4 hp (a0Q _ _) ?_
 refine z6 (by simp) fun l H1 hl e1 s1=>?_
 refine a6a e1 rfl rfl ?_
 refine⟨_,rfl,?_⟩
 have hp1:=s1 _ _ hp
 have k1:=k H1 s1
 cases rS with
 | set n p2 nm d2=>
  exists D9 (by decide +kernel) ?_
  exact F4 hp1 (a3p _ _ _) k1
 | copy n v nm o=>
  exists D9 (by decide +kernel) ?_
  exact F4 hp1 (a3p _ _ _) k1
 | take n nm=>
  exists D9 (by decide +kernel) ?_
  exact F4 hp1 (a3p _ _ _) k1
 | tell v o=>
  exists y0 (by decide +kernel) ?_
  rw[show sbV [.str "tell",v]=none by rcases o with ⟨s,rfl,_⟩ | ⟨i,rfl,_⟩ <;> rfl]at k1
  exact k1
 | ask v o=>
  exists y0 (by decide +kernel) ?_
  rw[show sbV [.str "ask",v]=none by rcases o with ⟨s,rfl,_⟩ | ⟨i,rfl,_⟩ <;> rfl]at k1
  exact k1
 | skip=>
  exists y0 (by decide +kernel) ?_
  exact k1
end
theorem a7I:∀(l m:List Str),l.Nodup->(∀x∈l,x∈m)->l.length<=m.length
 | [],m,_,_=>F5 _
 | x::l,m,nd,h=>by
  obtain⟨n1,n2⟩:=S0.mp nd
  have hx:=h x (C2 ..)
  have:=a7I l (m.erase x) n2 fun y hy=>(b7d (fun e=>n1 (by rw[<-e];exact hy))).mpr (h y (C6 _ hy))
  rw[a3A hx]at this
  have:=a4H hx
  rw[v7]
  omega
section
def a4l(H:Hp)(rs:List Addr)(RC:Nat->List V):Prop:=∀(i:Nat) p,rs[i]? = some p->b6T H p (RC i)
theorem a4l.ts(h:a4l H rs RC)(t:K7 H H'):a4l H' rs RC:=fun i p e=>(h i p e).ts t
theorem b2q(hR:M3 H ra N)(hra:H ra=some (.lst (rs.map V.ref))):∃RC,a4l H rs RC:=by
 obtain⟨rs',r1,r2,r3⟩:=hR.ex
 obtain rfl:rs'=rs:=by
  rw[hra]at r1
  exact(a0O (f:=V.ref) (fun a b h=>V.ref.inj h) |>.mp (HO.lst.inj (Option.some.inj r1))).symm
 refine⟨fun i=>match rs'[i]? with
  | some p=>(match H p with
   | some (.tup xs)=>xs
   | _=>[])
  | none=>[],fun i p hp=>?_⟩
 have hi:=(gI hp)
 obtain⟨xs,hx⟩:=(r3 i p _ hp (M8 (by omega))).x
 simp only[hp,hx.1]
 exact hx
theorem c2T{l:Addr}(h:H l=some (.lst (ss.map V.str)))(k:Q (.bl (decide (s∈ss))) H):qIn false (.str s) (.ref l) H Q:=by
 have e:inV (.str s) (ss.map V.str)=decide (s∈ss):=by
  unfold inV
  rw[X9,a0i,decide_eq_true_iff]
  constructor
  ·rintro⟨z,hz,e⟩
   obtain⟨u,hu,rfl⟩:=u8.mp hz
   have:u=s:=by simpa[eqV]using e
   rw[<-this];exact hu
  ·intro h
   exact⟨_,u8.mpr ⟨s,h,rfl⟩,by simp[eqV]⟩
 unfold qIn
 simp only[h]
 refine⟨rfl,?_,?_⟩
 ·rw[A8]
  intro x hx
  obtain⟨u,_,rfl⟩:=u8.mp hx
  rfl
 ·rw[e];exact k
theorem c2S{l:Addr}(h:H l=some (.lst (ss.map V.str)))(k:Q (.bl (!decide (s∈ss))) H):qIn true (.str s) (.ref l) H Q:=by
 have z:=c2T (Q:=fun v _=>v=.bl (decide (s∈ss))) (s:=s) h rfl
 unfold qIn at z ⊢
 simp only[h]at z ⊢
 refine⟨z.1,z.2.1,?_⟩
 have e:=V.bl.inj z.2.2
 have e:inV (.str s) (ss.map V.str)=decide (s∈ss):=e
 show Q (.bl (!inV (.str s) (ss.map V.str))) H
 rw[e];exact k
end
def inK(ks:List (List Key))(k:List Key):Bool:=ks.any fun u=>decide (u=k)
theorem a4B{ks:List (List Key)}{k:List Key}:inK ks k=true↔k∈ks:=by
 unfold inK
 rw[a0i]
 exact⟨fun⟨u,h,e⟩=>of_decide_eq_true e ▸ h,fun h=>⟨k,h,c7I rfl⟩⟩
def a8T(ks:List (List Key))(o:Option (List Key)):List (List Key):=match o with
 | some k=>if inK ks k=true then ks else ks++[k]
 | none=>ks
def a0R(D:Nat->Option (List Key))(n:Nat):List (List Key):=((A0 n).map D).foldl a8T []
def KM(ks:List (List Key))(g:List Key->V):List (List Key×V):=ks.map fun k=>(k,g k)
section
variable {k:List Key}{ks:List (List Key)}{g:List Key->V}
theorem a0k:a0R D (n+1)=a8T (a0R D n) (D n):=by
 unfold a0R
 rw[a0I,u9,List.foldl_append];rfl
theorem b8S{o:Option (List Key)}:(a8T ks o).length<=ks.length+1:=by
 unfold a8T
 cases o with
 | none=>simp
 | some u=>
  simp only
  split
  ·omega
  ·simp
theorem a4A(D:Nat->Option (List Key)):∀n,(a0R D n).length<=n
 | 0=>by simp[a0R]
 | n+1=>by
  rw[a0k]
  have:=b8S (ks:=a0R D n) (o:=D n)
  have:=a4A D n
  omega
theorem c1H(ks:List (List Key))(g:List Key->V):(KM ks g).map (·.1)=ks:=by
 unfold KM
 rw[M7]
 exact(V3 fun _ _=>rfl).trans (a9C _)
theorem c4y:(KM ks g).length=ks.length:=by unfold KM;rw[a8]
theorem c4w(ks:List (List Key))(g:List Key->V)(k:List Key):a5J (KM ks g) k=if inK ks k=true then some (g k)else none:=by
 induction ks with
 | nil=>rfl
 | cons u ks ih=>
  unfold KM a5J at ih ⊢
  rw[E7,X8]
  by_cases e:u=k
  ·rw[show decide (((u,g u):List Key×V).1=k)=true from c7I e]
   subst e
   rw[if_pos (a4B.mpr C2)];rfl
  ·rw[show decide (((u,g u):List Key×V).1=k)=false from c7H e]
   refine ih.trans ?_
   have:inK (u::ks) k=inK ks k:=by unfold inK;rw[Y5,c7H e,c5W]
   rw[this]
theorem c4x(ks:List (List Key))(g:List Key->V)(k:List Key)(v:V):a1r (KM ks g) k v=KM (a8T ks (some k)) fun u=>if u=k then v else g u:=by
 unfold a1r
 rw[a5I,c4w]
 by_cases h:inK ks k=true
 ·rw[if_pos h,if_pos (show(some (g k)).isSome=true from rfl)]
  unfold a8T
  simp only[if_pos h]
  unfold KM
  rw[M7]
  apply V3
  intro u _
  show(if u=k then (u,v)else (u,g u))=(u,if u=k then v else g u)
  split <;> rfl
 ·rw[if_neg h,if_neg (by intro z;cases z)]
  unfold a8T
  simp only[if_neg h]
  unfold KM
  rw[u9]
  congr 1
  ·apply V3
   intro u hu
   show(u,g u)=(u,if u=k then v else g u)
   rw[if_neg fun z:u=k=>h (a4B.mpr (z ▸ hu))]
  ·simp
theorem c1E(h:k∈ks):a8T ks (some k)=ks:=by unfold a8T;exact if_pos (a4B.mpr h)
end
def b3h(H:Hp)(p:Addr)(o:Option (List Key)):Prop:=match o with
 | some k=>∃n d,H p=some (.tup [.str "set",n,.ref d])/\H d=some (.tup (k.map kV))
 | none=>∃s xs,H p=some (.tup (.str s::xs))/\s≠("set" : Str)
def a7d(H:Hp)(rs:List Addr)(D:Nat->Option (List Key)):Prop:=∀(i:Nat) p,rs[i]? = some p->b3h H p (D i)
theorem b3h.ts{o:Option (List Key)}(h:b3h H p o)(t:K7 H H'):b3h H' p o:=by
 cases o with
 | some k=>
  obtain⟨n,d,h1,h2⟩:=h
  exact⟨n,d,t _ _ h1,t _ _ h2⟩
 | none=>
  obtain⟨s,xs,h1,h2⟩:=h
  exact⟨s,xs,t _ _ h1,h2⟩
theorem a7d.ts(h:a7d H rs D)(t:K7 H H'):a7d H' rs D:=fun i p e=>(h i p e).ts t
theorem OpN.key(h:OpN v):∃k:Key,v=kV k:=by
 rcases h with ⟨s,rfl,_⟩ | ⟨n,rfl,_⟩
 ·exact⟨.inr s,rfl⟩
 ·exact⟨.inl n,rfl⟩
theorem a3B.dk(h:H p=some (.tup xs))(r:a3B H xs):∃o,b3h H p o:=by
 cases r with
 | set n q a d=>
  obtain⟨k,v1,v2,hd,o1,o2,_⟩:=d
  obtain⟨k1,rfl⟩:=o1.key
  obtain⟨k2,rfl⟩:=o2.key
  exact⟨some [.inr k,k1,k2],.str n,q,h,hd⟩
 | copy n v a o=>exact⟨none,_,_,h,by decide⟩
 | take n a=>exact⟨none,_,_,h,by decide⟩
 | tell v o=>exact⟨none,_,_,h,by decide⟩
 | ask v o=>exact⟨none,_,_,h,by decide⟩
 | skip=>exact⟨none,_,_,h,by decide⟩
theorem a7d.ex(hr:M3 H a N)(h:H a=some (.lst (rs.map V.ref))):∃D,a7d H rs D:=by
 obtain⟨rs',q1,q2,q3⟩:=hr.ex
 rw[h]at q1
 obtain rfl:rs=rs':=(a0O (f:=V.ref) (fun a b h=>V.ref.inj h) |>.mp (HO.lst.inj (Option.some.inj q1)))
 have:∀i:Nat,∃o,∀p,rs[i]? = some p->b3h H p o:=fun i=>by
  cases e:rs[i]? with
  | none=>exact⟨none,fun p z=>by cases z⟩
  | some p=>
   have hi:=(gI e)
   obtain⟨q,xs,e2,h1,h2,_⟩:=q3 i p N[i] e (by simp)
   cases e2
   obtain⟨o,ho⟩:=a3B.dk h1 h2
   exact⟨o,fun p' z=>by cases z;exact ho⟩
 obtain⟨D,hD⟩:=Classical.axiomOfChoice this
 exact⟨D,fun i p e=>hD i p e⟩
theorem a6T(r n e:Addr)(m:Str)(h:m∉(["rows","nexts","entries"]:List Str)):([("rows",.ref r),("nexts",.ref n),("entries",.ref e)]:List (Str×V)).lookup m=none:=by
 rw[List.lookup_eq_none_iff]
 intro p hp
 simp only[g6,j8,or_false]at h hp
 rcases hp with rfl | rfl | rfl
 ·simp;intro z;exact h (.inl z)
 ·simp;intro z;exact h (.inr (.inl z))
 ·simp;intro z;exact h (.inr (.inr z))
structure a4X(c:Cn)(H:Hp)(x:Addr)(N:Nt)(rs:List Addr):Prop where
 ex:∃dx r n e,H x=some (.ins c.F2 dx [("rows",.ref r),("nexts",.ref n),("entries",.ref e)])/\D7 H n N/\H r=some (.lst (rs.map V.ref))/\rs.length=N.length
section
variable {K:Fg}{c:Cn}{x w:Addr}{S:List Stp}{E:XK}
theorem a4X.same(h:a4X c H x N rs)(s:p9 H H'):a4X c H' x N rs:=by
 obtain⟨dx,r,n,e,h1,h2,h3,h4⟩:=h.ex
 exact⟨dx,r,n,e,s _ _ h1,h2.same s,s _ _ h3,h4⟩
theorem a4X.kept(h:a4X c H x N rs)(hB:Bag H b d)(h2':∀l∈N,l.length<=2)(k:A7 b H H'):a4X c H' x N rs:=by
 obtain⟨dx,r,n,e,h1,h2,h3,h4⟩:=h.ex
 obtain⟨bs,hb⟩:=hB.lst
 exact⟨dx,r,n,e,k.1 _ _ h1 (O0 h1 hb (by intro z;cases z)),h2.kept hB h2' k,k.1 _ _ h3 (a0A hB h3),h4⟩
theorem b9v.pc{Z:Addr->Prop}(h:b9v K c Z rs H x N):a4X c H x N rs:=by
 obtain⟨dx,r,n,e,es,ns,h1,⟨h2,h2r⟩,h3,h4,h5,h6,h7,h8,_⟩:=h.ex
 refine⟨dx,r,n,e,h1,⟨ns,h3,h4,h5⟩,h2r,?_⟩
 obtain⟨rs',q1,q2,_⟩:=h2.ex
 rw[h2r]at q1
 have:=congrArg a9D (HO.lst.inj (Option.some.inj q1))
 rw[a8,a8]at this
 omega
theorem c2u(h:s≠("set" : Str)):decide (V.str s=V.str "set")=false:=c7H fun z=>h (V.str.inj z)
theorem b1p{k:List Key}(h:b3h H a (some k))(q:∀d,H d=some (.tup (k.map kV))->Q (.ref d) H):a1J K [.ref a] H Q E:=by
 obtain⟨n,d,h1,h2⟩:=h
 refine⟨rfl,?_⟩
 unfold a6A
 ext
 exists F4 h1 (a0Q _ _) ?_
 exists D9 (by decide) ?_
 refine F4 h1 (a4I _ _ _ _) ?_
 exact q d h2
theorem b1q(h:b3h H a none)(q:Q .non H):a1J K [.ref a] H Q E:=by
 obtain⟨s,xs,h1,h2⟩:=h
 refine⟨rfl,?_⟩
 unfold a6A
 ext
 exists F4 h1 (a0Q _ _) ?_
 exists y0 (c2u h2) ?_
 exact q
theorem a8I(ck:a7e K c)(hz:a4X c H x N rs)(h400:N.length<=400)(hD:a7d H rs D)
  (k:∀l bs H',H' l=some (.lst ((bs:List Addr).map V.ref))->a4Y H' bs (a0R D rs.length)->H l=none->p9 H H'->Q (.ref l) H'):W7 K [.ref x] H Q E:=by
 obtain⟨dx,r,n,e,p1,p2,p3,p4⟩:=id hz.ex
 refine⟨rfl,?_⟩
 unfold a5O
 nofun
 intro fd hfd
 have s1:p9 H (upd H fd (.dT [])):=w4 hfd
 obtain⟨H1,hH1⟩:∃H1,H1=upd H fd (.dT []):=⟨_,rfl⟩
 have e1:H1 fd=some (.dT (KM (a0R D 0) fun _=>.bl true)):=hH1 ▸ d8
 rw[<-hH1]at s1 ⊢
 ext
 exact_mod_cast a0x ?_
 specialize a0n (T9 ?_)
 specialize b2p ?_
 refine⟨x,_,dx,_,.ref r,rfl,s1 _ _ p1,ck.Y6,ck.a0L,rfl,?_⟩
 refine⟨r,rfl,⟨_,SqL.of (s1 _ _ p3)⟩,a0D (xs:=rs.map V.ref) (fun i σ H2=>∃y2 y3,σ=[some (.ref x),some (.ref fd),y2,y3]/\H2 fd=some (.dT (KM (a0R D i) fun _=>.bl true))/\p9 H H2) ⟨_,_,rfl,e1,s1⟩ ?_ ?_ ?_⟩
 ·rintro i σ H2 _ ⟨_,_,_,_,s2⟩
  exact SqL.of (s2 _ _ p3)
 ·rintro i v _ H2 hv ⟨y2,y3,rfl,e2,s2⟩
  rw[b7]at hv
  obtain⟨p,hp,rfl⟩:=t5.mp hv
  have hi:=(gI hp)
  have rd:=(hD i p hp).ts (p9.ts s2)
  have ln:=a4A D i
  ext
  nofun
  cases hk:D i with
  | none=>
   rw[hk]at rd
   exists b1q rd ?_
   exists ⟨rfl,?_⟩
   exists y0 (by decide) ?_
   refine⟨_,_,rfl,?_,s2⟩
   rw[a0k,hk];exact e2
  | some u=>
   rw[hk]at rd
   exists b1p rd fun d hd=>?_
   exists ⟨rfl,?_⟩
   exists D9 (by rw[c7H (by intro z;cases z)];rfl) ?_
   specialize a8p ?_
   refine⟨fd,_,rfl,a8V.t e2 hd (F6 (by rw[c4y];omega)),?_⟩
   refine⟨_,_,rfl,?_,fun b o q=>by rw[j5 (d4 q hfd)];exact s2 _ _ q⟩
   rw[d8,c4x,a0k,hk]
   exact congrArg (fun g=>some (HO.dT (KM _ g))) (funext fun u'=>by split <;> rfl)
 ·rintro _ H2 ⟨y2,y3,rfl,e2,s2⟩
  rw[a8]at e2
  ext
  refine⟨fd,_,rfl,e2,fun bs kb l hl=>?_⟩
  rw[c1H]at kb
  have s3:p9 H2 (upd H2 l (.lst (bs.map V.ref))):=w4 hl
  exact k l bs _ d8 ⟨kb.1,fun i b k a1 a2=>s3 _ _ (kb.2 i b k a1 a2)⟩ (s2.free hl) (s2.trans s3)
end
abbrev Sto:=List (Str×Int)
def c5N(S:Sto)(s:Str):Int:=match S with
 | []=>0
 | p::r=>if p.1=s then p.2 else c5N r s
def c0m(S:Sto)(n:Str)(i:Int):Sto:=match S with
 | []=>[(n,i)]
 | p::r=>if p.1=n then (p.1,i)::r else p::c0m r n i
def b7y(S:Sto)(v:V):Int:=match v with
 | .str s=>c5N S s
 | .int i=>i
 | _=>0
def wv(kd:Str)(x y:Int):Int:=if kd = "plus" then (x+y) % 1000000000000 else if kd = "minus" then (x - y) % 1000000000000 else if kd = "times" then x * y % 1000000000000 else if kd = "less" then (if x<y then 1 else 0)else (if x=y then 1 else 0)
inductive Rw
 | set (n k:Str) (a b:V) | copy (n:Str) (v:V) | take (n:Str) | tell (v:V) | ask (v:V) | skip
variable{w:Rw}
def RwS(H:Hp)(xs:List V)(w:Rw):Prop:=match w with
 | .set n k a b=>∃q,xs=[.str "set",.str n,.ref q]/\H q=some (.tup [.str k,a,b])/\OpN a/\OpN b/\NmS n
 | .copy n v=>xs=[.str "copy",.str n,v]/\OpN v/\NmS n
 | .take n=>xs=[.str "take",.str n]/\NmS n
 | .tell v=>xs=[.str "tell",v]/\OpN v
 | .ask v=>xs=[.str "ask",v]/\OpN v
 | .skip=>xs=[.str "skip"]
structure Rs where
 S:Sto
 L:List Int
 T:List Int
 W:List Stp
 p:Stp
 e:Bool
def doR(w:Rw)(S:Sto)(L T:List Int):Sto×List Int×List Int:=match w with
 | .set n k a b=>(c0m S n (wv k (b7y S a) (b7y S b)),L,T)
 | .copy n v=>(c0m S n (b7y S v),L,T)
 | .take n=>(c0m S n (L.getLast?.getD 0),L.dropLast,T)
 | .tell v=>(S,L,T++[b7y S v])
 | _=>(S,L,T)
def c4O(w:Rw)(S:Sto):Int:=match w with
 | .ask v=>if b7y S v=0 then 1 else 0
 | _=>0
def st1(N:Nt)(W:Nat->Rw)(r:Rs):Rs:=
 let t:=a2f N r.p
 let d:=doR (W t) r.S r.L r.T
 ⟨d.1,d.2.1,d.2.2,r.W++[r.p],((t:Int),c4O (W t) d.1),decide ((N.getD t []).length=0)⟩
def rn(N:Nt)(W:Nat->Rw):Nat->Rs->Rs
 | 0,r=>r
 | m+1,r=>if r.e=true then r else rn N W m (st1 N W r)
section
variable {S:Sto}{n:Str}{i:Int}
theorem RwS.ts(h:RwS H xs w)(t:K7 H H'):RwS H' xs w:=by
 cases w with
 | set n k a b=>obtain⟨q,h1,h2,h3⟩:=h;exact⟨q,h1,t _ _ h2,h3⟩
 | _=>exact h
theorem a3B.rw(h:a3B H xs):∃w,RwS H xs w:=by
 cases h with
 | set n p nm d=>obtain⟨k,a,b,h,o1,o2,_⟩:=d;exact⟨.set n k a b,p,rfl,h,o1,o2,nm⟩
 | copy n v nm o=>exact⟨.copy n v,rfl,o,nm⟩
 | take n nm=>exact⟨.take n,rfl,nm⟩
 | tell v o=>exact⟨.tell v,rfl,o⟩
 | ask v o=>exact⟨.ask v,rfl,o⟩
 | skip=>exact⟨.skip,rfl⟩
end
def a1G(v:V):List Str:=match v with
 | .str s=>[s]
 | _=>[]
def rdW(w:Rw):List Str:=match w with
 | .set _ _ a b=>a1G a++a1G b
 | .copy _ v=>a1G v
 | .tell v=>a1G v
 | .ask v=>a1G v
 | _=>[]
def opW(w:Rw):List V:=match w with
 | .set _ _ a b=>[a,b]
 | .copy _ v=>[v]
 | .tell v=>[v]
 | .ask v=>[v]
 | _=>[]
def seW(w:Rw):List Str:=match w with
 | .set n _ _ _=>[n]
 | .copy n _=>[n]
 | .take n=>[n]
 | _=>[]
def nmW(w:Rw):List Str:=rdW w++seW w
section
variable {K:Fg}{c:Cn}{x:Addr}{W:Nat->Rw}{E:XK}
theorem c6k(h:te σ H fun x H1=>∃(l:Addr) (ss:List Str),x=.ref l/\H1 l=some (.lst (ss.map V.str))/\ss.length<4000/\(∀ds:List Str,ds.Nodup->(∀x∈ds,x∈ss)->ds.length<64) /\
 ∀(p:Addr) (ts:List Str),ts.Nodup->(∀x,x∈ts↔x∈ss)->P4 ts=true->H1 p=none->Q (.ref p) (upd H1 p (.lst (ts.map V.str)))):tSS te σ H Q:=h
theorem a0a:(a1G v).length<=1:=by cases v <;> simp[a1G]
theorem c1c:(nmW w).length<=3:=by
 unfold nmW
 rw[c9]
 cases w with
 | set n k a b=>have:=a0a (v:=a);have:=a0a (v:=b);show(a1G a++a1G b).length+1<=3;rw[c9];omega
 | copy n v=>have:=a0a (v:=v);show(a1G v).length+1<=3;omega
 | take n=>show 0+1<=3;omega
 | tell v=>have:=a0a (v:=v);show(a1G v).length+0<=3;omega
 | ask v=>have:=a0a (v:=v);show(a1G v).length+0<=3;omega
 | skip=>show 0+0<=3;omega
theorem c3L:(opW w).length<=2:=by cases w <;> simp[opW]
theorem c5C(h:RwS H xs w):∀v∈opW w,OpN v:=by
 intro v hv
 cases w with
 | set n k a b=>
  obtain⟨q,_,_,o1,o2,_⟩:=h
  simp only[opW,g6,j8,or_false]at hv
  rcases hv with rfl | rfl
  ·exact o1
  ·exact o2
 | copy n v'=>rw[c6.mp hv];exact h.2.1
 | tell v'=>rw[c6.mp hv];exact h.2
 | ask v'=>rw[c6.mp hv];exact h.2
 | _=>cases hv
theorem c1Z(s:Str):s∈rdW w↔V.str s∈opW w:=by
 have one:∀v:V,s∈a1G v↔V.str s=v:=fun v=>by
  cases v with
  | str t=>show s∈[t]↔_;rw[c6];exact⟨fun e=>by rw[e],V.str.inj⟩
  | _=>exact⟨(fun h=>nomatch h),fun h=>nomatch h⟩
 cases w with
 | set n k a b=>show s∈a1G a++a1G b↔V.str s∈[a,b];rw[i8,one,one];simp
 | copy n v=>show s∈a1G v↔V.str s∈[v];rw[one];simp
 | tell v=>show s∈a1G v↔V.str s∈[v];rw[one];simp
 | ask v=>show s∈a1G v↔V.str s∈[v];rw[one];simp
 | _=>exact⟨(fun h=>nomatch h),fun h=>nomatch h⟩
theorem c4Q(h:RwS H xs w):seW w=(match sbV xs with | some n=>[n] | none=>[]):=by
 cases w with
 | set n k a b=>obtain⟨q,rfl,_⟩:=h;rfl
 | copy n v=>obtain⟨rfl,_⟩:=h;rfl
 | take n=>obtain⟨rfl,_⟩:=h;rfl
 | tell v=>obtain⟨rfl,o⟩:=h;rcases o with ⟨s,rfl,_⟩ | ⟨i,rfl,_⟩ <;> rfl
 | ask v=>obtain⟨rfl,o⟩:=h;rcases o with ⟨s,rfl,_⟩ | ⟨i,rfl,_⟩ <;> rfl
 | skip=>cases h;rfl
theorem b2u(hp:H p=some (.tup xs))(hw:RwS H xs w)(k:∀l H',H l=none->H' l=some (.lst (opW w))->p9 H H'->Q (.ref l) H'):a0v K [.ref p] H Q E:=by
 refine⟨rfl,?_⟩
 unfold a4S
 nofun
 cases w with
 | set n kd v1 v2=>
  obtain⟨q,rfl,hq,_⟩:=hw
  refine F4 hp (a0Q _ _) ?_
  walk_at "go"
  exists D9 (by decide) ?_
  exists F4 hp (a4I _ _ _ _) ?_
  exists F4 hq (a3p _ _ _) ?_
  exists F4 hp (a4I _ _ _ _) ?_
  exists F4 hq (a4I _ _ _ _) ?_
  exact z6 (by simp) k
 | copy n v=>
  obtain⟨rfl,_⟩:=hw
  refine F4 hp (a0Q _ _) ?_
  walk_at "go"
  refine y0 (by decide) ?_
  walk_at "go"
  exists D9 (by decide) ?_
  exists F4 hp (a4I _ _ _ _) ?_
  exact z6 (by simp) k
 | take n=>
  obtain⟨rfl,_⟩:=hw
  refine F4 hp (a0Q _ _) ?_
  walk_at "go"
  refine y0 (by decide) ?_
  walk_at "go"
  refine y0 (by decide) ?_
  walk_at "go"
  refine z6 (by decide) fun q G _ e s=>?_
  exists a6a e rfl (by decide +kernel) ?_
  exists y0 (by decide +kernel) ?_
  exact z6 (by decide) fun l H' hl e' s'=>k l H' (s.free hl) e' (s.trans s')
 | tell v=>
  obtain⟨rfl,_⟩:=hw
  refine F4 hp (a0Q _ _) ?_
  walk_at "go"
  refine y0 (by decide) ?_
  walk_at "go"
  refine y0 (by decide) ?_
  walk_at "go"
  refine z6 (by decide) fun q G _ e s=>?_
  exists a6a e rfl (by decide +kernel) ?_
  exists D9 (by decide +kernel) ?_
  exists F4 (s _ _ hp) (a3p _ _ _) ?_
  exact z6 (by simp) fun l H' hl e' s'=>k l H' (s.free hl) e' (s.trans s')
 | ask v=>
  obtain⟨rfl,_⟩:=hw
  refine F4 hp (a0Q _ _) ?_
  walk_at "go"
  refine y0 (by decide) ?_
  walk_at "go"
  refine y0 (by decide) ?_
  walk_at "go"
  refine z6 (by decide) fun q G _ e s=>?_
  exists a6a e rfl (by decide +kernel) ?_
  exists D9 (by decide +kernel) ?_
  exists F4 (s _ _ hp) (a3p _ _ _) ?_
  exact z6 (by simp) fun l H' hl e' s'=>k l H' (s.free hl) e' (s.trans s')
 | skip=>
  cases hw
  refine F4 hp (a0Q _ _) ?_
  walk_at "go"
  refine y0 (by decide) ?_
  walk_at "go"
  refine y0 (by decide) ?_
  walk_at "go"
  refine z6 (by decide) fun q G _ e s=>?_
  exists a6a e rfl (by decide +kernel) ?_
  exists y0 (by decide +kernel) ?_
  exact z6 (by decide) fun l H' hl e' s'=>k l H' (s.free hl) e' (s.trans s')
theorem b8d(hp:H p=some (.tup xs))(hw:RwS H xs w)(k:∀l R H',H l=none->H' l=some (.lst ((R:List Str).map V.str))->R.length<=2->(∀s,s∈R↔s∈rdW w)->p9 H H'->Q (.ref l) H'):a1Z K [.ref p] H Q E:=by
 refine⟨rfl,?_⟩
 unfold a8a
 nofun
 exists z6 (by decide) fun D H1 hD e1 s1=>?_
 exact_mod_cast a0x ?_
 specialize a0n (T9 ?_)
 refine b2u (s1 _ _ hp) (hw.ts (p9.ts s1)) fun ol H2 hol e2 s2=>?_
 have nD:ol≠D:=(d4 e1 hol).symm
 have s02:=s1.trans s2
 have oo:=c5C hw
 have lo:=c3L (w:=w)
 refine⟨ol,rfl,⟨_,SqL.of e2⟩,a0D (xs:=opW w) (fun i σ H3=>∃y2 R,σ=[some (.ref p),some (.ref D),y2]/\H3 D=some (.lst ((R:List Str).map V.str))/\R.length<=i/\(∀s,s∈R↔V.str s∈(opW w).take i)/\H3 ol=some (.lst (opW w))/\p9 H H3) ⟨_,[],rfl,s2 _ _ e1,d5 _,fun s=>by simp,e2,s02⟩ ?_ ?_ ?_⟩
 ·rintro i σ H3 _ ⟨_,_,_,_,_,_,h,_⟩
  exact SqL.of h
 ·rintro i v _ H3 hv ⟨y2,R,rfl,f1,f2,f3,f4,s3⟩
  have hi:=(gI hv)
  have tk:(opW w).take (i+1)=(opW w).take i++[v]:=by rw[O6,hv];rfl
  ext
  rcases oo v (mI hv)with ⟨s,rfl,_⟩ | ⟨n,rfl,_⟩
  ·refine a1L (s := "str") rfl (by decide) ?_
   refine⟨_,rfl,?_⟩
   exists D9 (by decide) ?_
   refine c2S f1 ?_
   refine⟨_,rfl,?_⟩
   by_cases hm:s∈R
   ·exists y0 (by simp[hm]) ?_
    refine⟨_,R,rfl,f1,by omega,fun z=>?_,f4,s3⟩
    rw[f3,tk,i8,c6]
    refine⟨.inl,fun h=>h.elim id fun e=>?_⟩
    rw[e]
    exact(f3 s).mp hm
   ·exists D9 (by simp[hm]) ?_
    specialize a6J ?_
    exists ⟨Z1 f1,?_⟩
    refine a0B f1 (F6 (by rw[a8];omega)) ?_
    refine⟨_,R++[s],rfl,by rw[d8,u9];rfl,by rw[c9];simp;omega,fun z=>?_,by rw[j5 nD];exact f4,fun b o e=>by rw[j5 (d4 e hD)];exact s3 _ _ e⟩
    rw[i8,f3,tk,i8,c6,c6]
    exact⟨fun h=>h.imp id fun e=>by rw[e],fun h=>h.imp id V.str.inj⟩
  ·refine a1L (s := "int") rfl (by decide) ?_
   refine⟨_,rfl,?_⟩
   exists y0 (by decide) ?_
   refine⟨_,R,rfl,f1,by omega,fun z=>?_,f4,s3⟩
   rw[f3,tk,i8,c6]
   exact⟨.inl,fun h=>h.elim id fun e=>nomatch e⟩
 rintro _ H3 ⟨y2,R,rfl,f1,f2,f3,f4,s3⟩
 rw[V5]at f3
 ext
 exact k D R H3 hD f1 (by omega) (fun s=>(f3 s).trans (c1Z s).symm) s3
theorem a6M(ck:a7e K c)(hz:a4X c H x N rs)(h400:N.length<=400)(hr:a4l H rs RC)(hw:∀(i:Nat) p,rs[i]? = some p->RwS H (RC i) (W i))(bd:∀ds:List Str,ds.Nodup->(∀s∈ds,∃i,i<rs.length/\s∈nmW (W i))->ds.length<64)
  (k:∀l ts H',H l=none->H' l=some (.lst ((ts:List Str).map V.str))->ts.Nodup->(∀s,s∈ts↔∃i,i<rs.length/\s∈nmW (W i))->P4 ts=true->p9 H H'->Q (.ref l) H'):W3 K [.ref x] H Q E:=by
 obtain⟨dx,r,n,e,p1,p2,p3,p4⟩:=id hz.ex
 refine⟨rfl,?_⟩
 unfold a5N
 nofun
 exists z6 (by decide) fun D H1 hD e1 s1=>?_
 exact_mod_cast a0x ?_
 specialize a0n (T9 ?_)
 specialize b2p ?_
 refine⟨x,_,dx,_,.ref r,rfl,s1 _ _ p1,ck.Y6,ck.a0L,rfl,?_⟩
 refine⟨r,rfl,⟨_,SqL.of (s1 _ _ p3)⟩,a0D (xs:=rs.map V.ref) (fun i σ H2=>∃y2 F,σ=[some (.ref x),some (.ref D),y2]/\H2 D=some (.lst ((F:List Str).map V.str))/\F.length<=3 * i/\(∀s,s∈F↔∃j,j<i/\s∈nmW (W j))/\p9 H H2) ⟨_,[],rfl,e1,d5 _,fun s=>⟨(fun h=>nomatch h),fun⟨j,h,_⟩=>absurd h (a0N _)⟩,s1⟩ ?_ ?_ ?_⟩
 ·rintro i σ H2 _ ⟨_,_,_,_,_,_,s2⟩
  exact SqL.of (s2 _ _ p3)
 ·rintro i v _ H2 hv ⟨y2,F,rfl,f1,f2,f3,s2⟩
  rw[b7]at hv
  obtain⟨p,hp,rfl⟩:=t5.mp hv
  have hi:=(gI hp)
  have rX:=(hr i p hp).ts (p9.ts s2)
  have rW:=(hw i p hp).ts (p9.ts s2)
  ext
  nofun
  specialize a6J ?_
  exists ⟨Z1 f1,?_⟩
  exists b8d rX.1 rW fun rl R H3 hrl e3 lR mR s3=>?_
  refine a8s (s3 _ _ f1) e3 (a1h (F6 (by rw[a8,a8];omega))) ?_
  rw[<-u9]
  have t4:K7 H3 (upd H3 D (.lst ((F++R).map V.str))):=K7.put (s3 _ _ f1)
  have s4:p9 H (upd H3 D (.lst ((F++R).map V.str))):=fun b o e=>by rw[j5 (d4 e hD)];exact s3 _ _ (s2 _ _ e)
  obtain⟨H4,hH4⟩:∃H4,H4=upd H3 D (.lst ((F++R).map V.str)):=⟨_,rfl⟩
  have e4:H4 D=some (.lst ((F++R).map V.str)):=hH4 ▸ d8
  rw[<-hH4]at t4 s4 ⊢
  have rX4:=(hr i p hp).ts (p9.ts s4)
  have rW4:=(hw i p hp).ts (p9.ts s4)
  ext
  refine a9P rX4 fun H5 s5=>?_
  have step:∀(G:List Str),(∀s,s∈G↔(s∈F\/s∈R)\/s∈seW (W i))->∀s,s∈G↔∃j,j<i+1/\s∈nmW (W j):=fun G hG s=>by
   rw[hG,f3,mR]
   unfold nmW
   constructor
   ·rintro((⟨j,h1,h2⟩ | h) | h)
    ·exact⟨j,by omega,h2⟩
    ·exact⟨i,by omega,D8 _ h⟩
    ·exact⟨i,by omega,p8 _ h⟩
   ·rintro⟨j,h1,h2⟩
    by_cases e:j=i
    ·subst e
     rcases i8.mp h2 with h | h
     ·exact .inl (.inr h)
     ·exact .inr h
    ·exact .inl (.inl ⟨j,by omega,h2⟩)
  have sb:=c4Q rW4
  cases hs:sbV (RC i)with
  | none=>
   rw[hs]at sb
   exists ⟨rfl,_,rfl,y0 rfl ?_⟩
   exact⟨_,F++R,rfl,s5 _ _ e4,by rw[c9];omega,step _ fun s=>by rw[i8,sb];simp,s4.trans s5⟩
  | some n=>
   rw[hs]at sb
   exists ⟨rfl,_,rfl,D9 rfl ?_⟩
   specialize a6J ?_
   exists ⟨Z1 (s5 _ _ e4),?_⟩
   refine a9P (rX4.ts (p9.ts s5)) fun H6 s6=>?_
   rw[hs]
   ext
   have s46:=s5.trans s6
   refine a0B (s46 _ _ e4) (F6 (by rw[a8,c9];omega)) ?_
   refine⟨_,F++R++[n],rfl,by rw[d8,u9,u9,u9];rfl,by rw[c9,c9];simp;omega,step _ fun s=>by rw[i8,i8,sb],fun b o e=>by rw[j5 (d4 e hD)];exact s46 _ _ (s4 _ _ e)⟩
 rintro _ H2 ⟨y2,F,rfl,f1,f2,f3,s2⟩
 rw[a8]at f2 f3
 ext
 specialize c6k ?_
 refine⟨D,F,rfl,f1,by omega,fun ds nd hd=>bd ds nd fun s hs=>(f3 s).mp (hd s hs),fun l ts nd mem so hl=>?_⟩
 exact k l ts _ (s2.free hl) d8 nd (fun s=>(mem s).trans (f3 s)) so (s2.trans (w4 hl))
end
section
theorem a9Q:∀(l:List Str) (p:Str),b0h p l=true->(p::l).Pairwise (fun a b=>a.cps.toList<=b.cps.toList)
 | [],p,_=>by simp
 | x::r,p,h=>by
  have h:(!PySem.Spec.ltCps x.cps.toList p.cps.toList&&b0h x r)=true:=h
  rw[M4,PyProof.Rows.ltCps_eq,Bool.not_eq_true',decide_eq_false_iff_not]at h
  have ih:=a9Q r x h.2
  have px:p.cps.toList<=x.cps.toList:=h.1
  refine b9J.mpr ⟨fun y hy=>?_,ih⟩
  rcases g6.mp hy with rfl | hy
  ·exact px
  ·exact List.le_trans px (List.rel_of_pairwise_cons ih hy)
theorem a9K:∀(l:List Str),P4 l=true->l.Pairwise (fun a b=>a.cps.toList<=b.cps.toList)
 | [],_=>b1L
 | x::r,h=>a9Q r x h
theorem a3S{a b:List Str}(ha:P4 a=true)(hb:P4 b=true)(p:a.Perm b):a=b:=by
 refine p.eq_of_pairwise (le:=fun a b:Str=>a.cps.toList<=b.cps.toList) (fun x y _ _ h1 h2=>?_) (a9K a ha) (a9K b hb)
 have:=List.le_antisymm h1 h2
 obtain⟨⟨l⟩⟩:=x
 obtain⟨⟨m⟩⟩:=y
 have e:l=m:=this
 rw[e]
theorem b1d{a b:List Str}(ha:a.Nodup)(hb:b.Nodup)(h:∀x,x∈a↔x∈b):a.Perm b:=(List.perm_ext_iff_of_nodup ha hb).mpr h
theorem c5L{a b:Key}(h:eqV (kV a) (kV b)=true):a=b:=by
 cases a with
 | inl i=>cases b with
  | inl j=>
   have h:(i == j)=true:=h
   have:=eq_of_beq h
   rw[this]
  | inr t=>cases h
 | inr s=>cases b with
  | inl j=>cases h
  | inr t=>
   have h:(s == t)=true:=h
   have:=eq_of_beq h
   rw[this]
theorem a6d(k:List Key):(k.map kV).all J0=true:=by
 rw[A8]
 intro v hv
 obtain⟨a,_,rfl⟩:=u8.mp hv
 cases a <;> rfl
theorem b2N(k k':List Key):O3 (k.map kV) (k'.map kV)=decide (k=k'):=by
 by_cases e:k=k'
 ·subst e
  rw[b2O _ (a6d k),c7I rfl]
 ·rw[c7H e]
  cases h:O3 (k.map kV) (k'.map kV)with
  | false=>rfl
  | true=>
   exfalso
   unfold O3 at h
   rw[M4,A8,beq_iff_eq,a8,a8]at h
   obtain⟨h1,h2⟩:=h
   refine e (List.ext_getElem h2 fun j a b=>?_)
   have:=h1 j (N4.mpr (by omega))
   rw[Q0,Q0,b7,b7,g9 a,g9 b]at this
   exact c5L this
end
def bD(ss:List Str):List (Key×V):=ss.map fun s=>(Sum.inr s,V.bl true)
section
variable {K:Fg}{c:Cn}{x:Addr}{W:Nat->Rw}{E:XK}
theorem c4p:(bD ss).length=ss.length:=by unfold bD;rw[a8]
theorem c4n(h:s∈ss):a1r (bD ss) (Sum.inr s) (.bl true)=bD ss:=by
 unfold a1r
 rw[if_pos]
 ·refine(V3 fun q hq=>?_).trans (a9C _)
  obtain⟨u,hu,rfl⟩:=u8.mp hq
  show(if _ then _ else _)=_
  split <;> rfl
 ·rw[a0i]
  exact⟨(Sum.inr s,.bl true),u8.mpr ⟨s,h,rfl⟩,by simp⟩
theorem c4o(h:s∉ss):a1r (bD ss) (Sum.inr s) (.bl true)=bD (ss++[s]):=by
 unfold a1r
 rw[if_neg]
 ·unfold bD;rw[u9];rfl
 ·rw[a0i]
  rintro⟨q,hq,e⟩
  obtain⟨u,hu,rfl⟩:=u8.mp hq
  exact h (Sum.inr.inj (of_decide_eq_true e) ▸ hu)
def ptW(w:Rw):List V:=match w with
 | .set n _ a b=>[.str n,a,b]
 | .copy n v=>[.str n,v]
 | .take n=>[.str n]
 | .tell v=>[v]
 | .ask v=>[v]
 | .skip=>[]
theorem c5s(s:Str):V.str s∈ptW w↔s∈nmW w:=by
 unfold nmW
 rw[i8,c1Z]
 have one:∀n:Str,V.str s=V.str n↔s=n:=fun n=>⟨V.str.inj,fun e=>by rw[e]⟩
 cases w with
 | set n k a b=>simp only[ptW,opW,seW,g6,j8,or_false,one];exact Or.comm
 | copy n v=>simp only[ptW,opW,seW,g6,j8,or_false,one];exact Or.comm
 | take n=>simp only[ptW,opW,seW,g6,j8,or_false,false_or,one]
 | tell v=>simp only[ptW,opW,seW,g6,j8,or_false]
 | ask v=>simp only[ptW,opW,seW,g6,j8,or_false]
 | skip=>simp only[ptW,opW,seW,j8,or_false]
theorem c5r(h:RwS H xs w):∀v∈ptW w,(∃s,v=.str s)\/∃i,v=.int i:=by
 have op:∀ {v:V},OpN v->(∃s,v=.str s)\/∃i,v=.int i:=fun o=>by
  rcases o with ⟨s,e,_⟩ | ⟨i,e,_⟩
  ·exact .inl ⟨s,e⟩
  ·exact .inr ⟨i,e⟩
 intro v hv
 cases w with
 | set n k a b=>
  obtain⟨q,_,_,o1,o2,_⟩:=h
  simp only[ptW,g6,j8,or_false]at hv
  rcases hv with rfl | rfl | rfl
  ·exact .inl ⟨n,rfl⟩
  ·exact op o1
  ·exact op o2
 | copy n v'=>
  simp only[ptW,g6,j8,or_false]at hv
  rcases hv with rfl | rfl
  ·exact .inl ⟨n,rfl⟩
  ·exact op h.2.1
 | take n=>rw[c6.mp hv];exact .inl ⟨n,rfl⟩
 | tell v'=>rw[c6.mp hv];exact op h.2
 | ask v'=>rw[c6.mp hv];exact op h.2
 | skip=>cases hv
theorem b1C(hra:H ra=some (.lst (rs.map V.ref)))(l400:rs.length<=400)(hr:a4l H rs RC)(hw:∀(i:Nat) p,rs[i]? = some p->RwS H (RC i) (W i))(bd:∀ds:List Str,ds.Nodup->(∀s∈ds,∃i,i<rs.length/\s∈nmW (W i))->ds.length<64)
  (k:∀l ts H',H l=none->H' l=some (.lst ((ts:List Str).map V.str))->ts.Nodup->(∀s,s∈ts↔∃i,i<rs.length/\s∈nmW (W i))->P4 ts=true->p9 H H'->Q (.ref l) H'):a1q K [.ref ra] H Q E:=by
 refine⟨rfl,?_⟩
 unfold a7n
 nofun
 exists b3R fun fd H1 hfd e1 s1=>?_
 exact_mod_cast a0x ?_
 specialize a0n (T9 ?_)
 refine⟨ra,rfl,⟨_,SqL.of (s1 _ _ hra)⟩,a0D (xs:=rs.map V.ref) (fun i σ H2=>∃y2 y3 y4 ss,σ=[some (.ref ra),some (.ref fd),y2,y3,y4]/\H2 fd=some (.dK (bD ss))/\ss.Nodup/\(∀s,s∈ss↔∃j,j<i/\s∈nmW (W j))/\ss.length<=3 * i/\p9 H H2) ⟨_,_,_,[],rfl,e1,b1K,fun s=>⟨(fun h=>nomatch h),fun⟨j,h,_⟩=>absurd h (a0N _)⟩,d5 _,s1⟩ ?_ ?_ ?_⟩
 ·rintro i σ H2 _ ⟨_,_,_,_,_,_,_,_,_,s2⟩
  exact SqL.of (s2 _ _ hra)
 ·rintro i v _ H2 hv ⟨y2,y3,y4,ss,rfl,e2,nd,sp,sl,s2⟩
  rw[b7]at hv
  obtain⟨p,hp',rfl⟩:=t5.mp hv
  have hi:=(gI hp')
  obtain⟨hx,rS⟩:=(hr i p hp').ts (p9.ts s2)
  have rW:=(hw i p hp').ts (p9.ts s2)
  obtain⟨w,hwd⟩:∃w,w=W i:=⟨_,rfl⟩
  rw[<-hwd]at rW
  generalize RC i=xs at hx rS rW
  obtain⟨k0,r0,rfl⟩:=rS.head
  ext
  nofun
  refine c2c hx (b2B _ _) fun q H3 hq e3 s3=>?_
  rw[c4k]at e3
  ext
  exists c2O e3 fun wl H4 hwl e4 s4=>?_
  have s24:=s3.trans s4
  have hx4:=s24 _ _ hx
  have rW4:=rW.ts (p9.ts s24)
  exact_mod_cast a0z (P:=fun σ H5=>∃wl,σ=[some (.ref ra),some (.ref fd),some (.ref p),some (.ref wl),y4]/\H5 wl=some (.lst (ptW w))/\p9 H4 H5) ?_ ?_
  rotate_left
  ·intro nx hnx
   ext
   exists F4 hx4 (a0Q _ _) ?_
   have old:r0=ptW w->nx [some (.ref ra),some (.ref fd),some (.ref p),some (.ref wl),y4] H4:=fun h=>hnx _ _ ⟨wl,rfl,by rw[<-h];exact e4,p9.refl _⟩
   cases w with
   | set n kd a b=>
    obtain⟨q2,er,hq2,_⟩:=rW4
    cases er
    exists D9 (by decide) ?_
    exists F4 hx4 (a3p _ _ _) ?_
    exists F4 hx4 (a4I _ _ _ _) ?_
    exists F4 hq2 (a3p _ _ _) ?_
    exists F4 hx4 (a4I _ _ _ _) ?_
    exists F4 hq2 (a4I _ _ _ _) ?_
    exists z6 (by simp) fun wl2 H5 hwl2 e5 s5=>?_
    exact hnx _ _ ⟨wl2,rfl,e5,s5⟩
   | copy n v=>
    obtain⟨er,_⟩:=rW4
    cases er
    exists y0 (by decide) ?_
    exact old rfl
   | take n=>
    obtain⟨er,_⟩:=rW4
    cases er
    exists y0 (by decide) ?_
    exact old rfl
   | tell v=>
    obtain⟨er,_⟩:=rW4
    cases er
    exists y0 (by decide) ?_
    exact old rfl
   | ask v=>
    obtain⟨er,_⟩:=rW4
    cases er
    exists y0 (by decide) ?_
    exact old rfl
   | skip=>
    cases rW4
    exists y0 (by decide) ?_
    exact old rfl
  rintro _ H5 ⟨wl,rfl,e5,s5⟩
  have s05:=(s2.trans s24).trans s5
  have f5:=(s24.trans s5) _ _ e2
  have po:=c5r rW
  specialize a0n (T9 ?_)
  refine⟨wl,rfl,⟨_,SqL.of e5⟩,a0D (xs:=ptW w) (fun j σ H6=>∃y4 s6,σ=[some (.ref ra),some (.ref fd),some (.ref p),some (.ref wl),y4]/\H6 fd=some (.dK (bD s6))/\s6.Nodup/\(∀s,s∈s6↔s∈ss\/V.str s∈(ptW w).take j)/\s6.length<=ss.length+j/\H6 wl=some (.lst (ptW w))/\p9 H H6) ⟨_,ss,rfl,f5,nd,fun s=>by simp,d5 _,e5,s05⟩ ?_ ?_ ?_⟩
  ·rintro j σ H6 _ ⟨_,_,_,_,_,_,_,q,_⟩
   exact SqL.of q
  ·rintro j u _ H6 hu ⟨y4,s6,rfl,f6,nd6,m6,l6,e6,s06⟩
   have tk:(ptW w).take (j+1)=(ptW w).take j++[u]:=by rw[O6,hu];rfl
   have hj:=(gI hu)
   have lp:(ptW w).length<=3:=by cases w <;> simp[ptW]
   ext
   rcases po u (mI hu)with ⟨s,rfl⟩ | ⟨m,rfl⟩
   ·refine a1L (s := "str") rfl (by decide) ?_
    refine⟨_,rfl,?_⟩
    refine D9 (by decide) ?_
    specialize a8p ?_
    refine⟨fd,_,rfl,a8V.k (k:=Sum.inr s) f6 (F6 (by rw[c4p];omega)),?_⟩
    have s7:∀ {kvs:List (Key×V)},p9 H (upd H6 fd (.dK kvs)):=fun b o e=>by rw[j5 (d4 e hfd)];exact s06 _ _ e
    have e7:∀ {kvs:List (Key×V)},upd H6 fd (.dK kvs) wl=some (.lst (ptW w)):=(j5 (O0 e6 f6 (by intro z;cases z))).trans e6
    by_cases hm:s∈s6
    ·rw[c4n hm]
     refine⟨_,s6,rfl,d8,nd6,fun z=>?_,by omega,e7,s7⟩
     rw[m6,tk,i8,c6]
     constructor
     ·exact fun h=>h.imp id .inl
     ·rintro(h | h | h)
      ·exact .inl h
      ·exact .inr h
      ·exact V.str.inj h ▸ (m6 s).mp hm
    ·rw[c4o hm]
     refine⟨_,s6++[s],rfl,d8,?_,fun z=>?_,by rw[c9];simp;omega,e7,s7⟩
     ·exact a3s.mpr ⟨nd6,by simp,fun a ha b hb e=>hm (by rw[c6.mp hb]at e;rw[<-e];exact ha)⟩
     ·rw[i8,m6,tk,i8,c6,c6,or_assoc]
      exact⟨fun h=>h.imp id fun h=>h.imp id fun e=>by rw[e],fun h=>h.imp id fun h=>h.imp id V.str.inj⟩
   ·refine a1L (s := "int") rfl (by decide) ?_
    refine⟨_,rfl,?_⟩
    exists y0 (by decide) ?_
    refine⟨_,s6,rfl,f6,nd6,fun z=>?_,by omega,e6,s06⟩
    rw[m6,tk,i8,c6]
    exact⟨fun h=>h.imp id .inl,fun h=>h.imp id fun h=>h.elim id fun e=>nomatch e⟩
  rintro _ H6 ⟨y4,s6,rfl,f6,nd6,m6,l6,e6,s06⟩
  have lp:(ptW w).length<=3:=by cases w <;> simp[ptW]
  rw[V5]at m6
  refine⟨_,_,_,s6,rfl,f6,nd6,fun s=>?_,by omega,s06⟩
  rw[m6,sp,c5s,hwd]
  constructor
  ·rintro(⟨j,h1,h2⟩ | h)
   ·exact⟨j,by omega,h2⟩
   ·exact⟨i,by omega,h⟩
  ·rintro⟨j,h1,h2⟩
   by_cases e:j=i
   ·subst e;exact .inr h2
   ·exact .inl ⟨j,by omega,h2⟩
 rintro _ H2 ⟨y2,y3,y4,ss,rfl,e2,nd,sp,sl,s2⟩
 rw[a8]at sp
 ext
 refine⟨fd,bD ss,ss,rfl,e2,by unfold bD;rw[M7];rfl,bd ss nd fun s hs=>(sp s).mp hs,fun l ts pm so hl=>?_⟩
 exact k l ts _ (s2.free hl) d8 (pm.nodup_iff.mpr nd) (fun s=>pm.mem_iff.trans (sp s)) so (s2.trans (w4 hl))
theorem b6s(hra:H ra=some (.lst (rs.map V.ref)))(l400:rs.length<=400)(hD:a7d H rs D)(k:∀l bs H',H l=none->H' l=some (.lst ((bs:List Addr).map V.ref))->a4Y H' bs (a0R D rs.length)->p9 H H'->Q (.ref l) H'):a5T K [.ref ra] H Q E:=by
 refine⟨rfl,?_⟩
 unfold b4M
 nofun
 exists z6 (by simp) fun L H1 hL e1 s1=>?_
 exact_mod_cast a0x ?_
 specialize a0n (T9 ?_)
 refine⟨ra,rfl,⟨_,SqL.of (s1 _ _ hra)⟩,a0D (xs:=rs.map V.ref) (fun i σ H2=>∃y2 bs,σ=[some (.ref ra),some (.ref L),y2]/\H2 L=some (.lst ((bs:List Addr).map V.ref))/\a4Y H2 bs (a0R D i)/\p9 H H2) ⟨_,[],rfl,e1,⟨rfl,fun i b k h=>nomatch h⟩,s1⟩ ?_ ?_ ?_⟩
 ·rintro i σ H2 _ ⟨_,_,_,_,_,s2⟩
  exact SqL.of (s2 _ _ hra)
 ·rintro i v _ H2 hv ⟨y2,bs,rfl,e2,kb,s2⟩
  rw[b7]at hv
  obtain⟨p,hp',rfl⟩:=t5.mp hv
  have hi:=(gI hp')
  have dk:=(hD i p hp').ts (p9.ts s2)
  ext
  cases hd:D i with
  | none=>
   rw[hd]at dk
   obtain⟨s,xs,hx,ns⟩:=dk
   exists F4 hx (a0Q _ _) ?_
   exists y0 (c7H fun z=>ns (V.str.inj z)) ?_
   exact⟨_,bs,rfl,e2,by rw[a0k,hd];exact kb,s2⟩
  | some ky=>
   rw[hd]at dk
   obtain⟨n,d,hx,hd'⟩:=dk
   exists F4 hx (a0Q _ _) ?_
   exists D9 (by decide) ?_
   exists F4 hx (a4I _ _ _ _) ?_
   refine⟨d,L,_,bs,rfl,rfl,hd',a6d ky,e2,fun b hb=>?_,?_⟩
   ·obtain⟨j,hj⟩:=F1.mp hb
    have lj:=(gI hj)
    obtain⟨k',hk'⟩:∃k',(a0R D i)[j]? = some k':=⟨_,g9 (by rw[<-kb.1];exact lj)⟩
    exact⟨_,kb.2 j b k' hj hk',a6d k'⟩
   have ea:bs.any (a4R H2 (ky.map kV))=inK (a0R D i) ky:=by
    rw[X9,a4B,a0i]
    constructor
    ·rintro⟨b,hb,h⟩
     obtain⟨j,hj⟩:=F1.mp hb
     have lj:=(gI hj)
     obtain⟨k',hk'⟩:∃k',(a0R D i)[j]? = some k':=⟨_,g9 (by rw[<-kb.1];exact lj)⟩
     unfold a4R at h
     rw[kb.2 j b k' hj hk']at h
     have h:O3 (k'.map kV) (ky.map kV)=true:=h
     rw[b2N,decide_eq_true_eq]at h
     rw[<-h]
     exact mI hk'
    ·intro h
     obtain⟨j,hj⟩:=F1.mp h
     have lj:=(gI hj)
     obtain⟨b,hb⟩:∃b,bs[j]? = some b:=⟨_,g9 (by rw[kb.1];exact lj)⟩
     refine⟨b,mI hb,?_⟩
     unfold a4R
     rw[kb.2 j b ky hb hj]
     show O3 (ky.map kV) (ky.map kV)=true
     rw[b2N,c7I rfl]
   rw[ea]
   refine⟨_,rfl,?_⟩
   have lk:=a4A D i
   cases hin:inK (a0R D i) ky with
   | true=>
    exists y0 rfl ?_
    exact⟨_,bs,rfl,e2,by rw[a0k,hd,c1E (a4B.mp hin)];exact kb,s2⟩
   | false=>
    exists D9 rfl ?_
    specialize a6J ?_
    exists ⟨Z1 e2,?_⟩
    exists F4 hx (a4I _ _ _ _) ?_
    refine a0B e2 (F6 (by rw[a8,kb.1];omega)) ?_
    have ts:K7 H2 (upd H2 L (.lst (bs.map V.ref++[V.ref d]))):=K7.put e2
    refine⟨_,bs++[d],rfl,by rw[d8,u9];rfl,?_,fun b o e=>by rw[j5 (d4 e hL)];exact s2 _ _ e⟩
    have ek:a0R D (i+1)=a0R D i++[ky]:=by
     rw[a0k,hd]
     unfold a8T
     exact if_neg (by rw[hin];decide)
    rw[ek]
    refine⟨by rw[c9,c9,kb.1];rfl,fun j b k' f1 f2=>?_⟩
    rcases P6 f1 with ⟨h1,f1⟩ | ⟨h1,f1⟩
    ·rcases P6 f2 with ⟨_,f2⟩ | ⟨h2,_⟩
     ·exact ts _ _ (kb.2 j b k' f1 f2)
     ·have:=kb.1;omega
    ·rcases P6 f2 with ⟨h2,_⟩ | ⟨_,f2⟩
     ·have:=kb.1;omega
     ·subst f1 f2
      exact ts _ _ hd'
 rintro _ H2 ⟨y2,bs,rfl,e2,kb,s2⟩
 rw[a8]at kb
 ext
 exact k L bs H2 hL e2 kb s2
end
section
variable {K:Fg}{c:Cn}{q x:Addr}{W:Nat->Rw}{E:XK}
theorem b1e{bs bs':List Addr}{ks:List (List Key)}(h1:H p=some (.lst (bs.map V.ref)))(k1:a4Y H bs ks)(h2:H q=some (.lst (bs'.map V.ref)))(k2:a4Y H bs' ks):Dq K H 2 (.ref p) (.ref q):=by
 refine .lst (SqL.of h1) (SqL.of h2) (by rw[a8,a8,k1.1,k2.1]) fun i u v f1 f2=>?_
 rw[b7]at f1 f2
 obtain⟨a,ha,rfl⟩:=t5.mp f1
 obtain⟨b,hb,rfl⟩:=t5.mp f2
 have li:=(gI ha)
 obtain⟨k',hk'⟩:∃k',ks[i]? = some k':=⟨_,g9 (by rw[<-k1.1];exact li)⟩
 refine .tup (SqT.of (k1.2 i a k' ha hk')) (SqT.of (k2.2 i b k' hb hk')) rfl fun j u v g1 g2=>?_
 rw[g1]at g2
 cases g2
 exact .flat (A8.mp (a6d k') u (mI g1))
theorem b0u(h1:H p=some (.lst (ss.map V.str)))(h2:H q=some (.lst (ss.map V.str))):Dq K H 1 (.ref p) (.ref q):=by
 refine .lst (SqL.of h1) (SqL.of h2) rfl fun i u v f1 f2=>?_
 rw[f1]at f2
 cases f2
 rw[b7]at f1
 obtain⟨z,_,rfl⟩:=t5.mp f1
 exact .flat rfl
theorem b1f{bs:List Addr}{ks:List (List Key)}(h:a4Y H bs ks)(t:K7 H H'):a4Y H' bs ks:=⟨h.1,fun i b k a e=>t _ _ (h.2 i b k a e)⟩
structure AkN(K:Fg)(c:Cn)(H:Hp)(x ra:Addr)(N:Nt)(rs:List Addr)(RC:Nat->List V)(W:Nat->Rw)(D:Nat->Option (List Key)):Prop where
 pc:a4X c H x N rs
 le:N.length<=400
 ra:H ra=some (.lst (rs.map V.ref))
 rc:a4l H rs RC
 rw:∀(i:Nat) p,rs[i]? = some p->RwS H (RC i) (W i)
 dk:a7d H rs D
 bd:∀ds:List Str,ds.Nodup->(∀s∈ds,∃i,i<rs.length/\s∈nmW (W i))->ds.length<64
theorem AkN.same(h:AkN K c H x ra N rs RC W D)(s:p9 H H'):AkN K c H' x ra N rs RC W D:=⟨h.pc.same s,h.le,s _ _ h.ra,h.rc.ts (p9.ts s),fun i p e=>(h.rw i p e).ts (p9.ts s),h.dk.ts (p9.ts s),h.bd⟩
theorem b9t{t:Int}(ck:a7e K c)(A:AkN K c H x ra N rs RC W D)(k:∀H',p9 H H'->Q (.bl true) H'):a3R K c [.ref x,.ref ra,.int t] H Q E:=by
 obtain⟨dx,r,n,e,p1,p2,p3,p4⟩:=id A.pc.ex
 have l400:rs.length<=400:=by have:=A.le;omega
 refine⟨rfl,?_⟩
 unfold b4N
 nofun
 by_cases ht:t=0
 ·subst ht
  refine D9 (by decide) ?_
  nofun
  specialize a5g ?_
  exists ⟨x,dx,_,rfl,p1,a6T r n e _ (by decide),?_⟩
  exists a8I ck A.pc A.le A.dk fun l bs H1 e1 kb hl s1=>?_
  have A1:=A.same s1
  exists b6s A1.ra l400 A1.dk fun l2 bs2 H2 hl2 e2 kb2 s2=>?_
  nofun
  have f2:=s2 _ _ e1
  refine a1L (s := "list") (by simp only[a1F,f2]) (by decide) ?_
  refine⟨_,rfl,?_⟩
  exists y0 (by decide) ?_
  refine⟨l,l2,2,rfl,rfl,by decide,b1e f2 (b1f kb (p9.ts s2)) e2 kb2,_,rfl,?_⟩
  exists y0 rfl ?_
  nofun
  specialize a6J ?_
  exists ⟨Z1 f2,?_⟩
  have lk:=a4A D rs.length
  refine a0B f2 (F6 (by rw[a8,kb.1];omega)) ?_
  have t3:K7 H2 (upd H2 l (.lst (bs.map V.ref++[.str "more"]))):=K7.put f2
  have s3:p9 H (upd H2 l (.lst (bs.map V.ref++[.str "more"]))):=fun b o z=>by rw[j5 (d4 z hl)];exact s2 _ _ (s1 _ _ z)
  obtain⟨H3,hH3⟩:∃H3,H3=upd H2 l (.lst (bs.map V.ref++[.str "more"])):=⟨_,rfl⟩
  have e3:H3 l2=some (.lst (bs2.map V.ref)):=by rw[hH3,j5 (d4 e1 hl2).symm];exact e2
  rw[<-hH3]at t3 s3 ⊢
  ext
  nofun
  exists D9 (by decide) ?_
  specialize a5g ?_
  exists ⟨x,dx,_,rfl,s3 _ _ p1,a6T r n e _ (by decide),?_⟩
  have A3:=A.same s3
  exists a8I ck A3.pc A3.le A3.dk fun l4 bs4 H4 e4 kb4 hl4 s4=>?_
  exact⟨l4,l2,2,rfl,rfl,by decide,b1e e4 kb4 (s4 _ _ e3) (b1f (b1f kb2 t3) (p9.ts s4)),k H4 (s3.trans s4)⟩
 ·refine y0 (c7H fun z=>ht (V.int.inj z)) ?_
  nofun
  specialize a5g ?_
  exists ⟨x,dx,_,rfl,p1,a6T r n e _ (by decide),?_⟩
  exists a6M ck A.pc A.le A.rc A.rw A.bd fun l ts H1 hl e1 nd1 m1 so1 s1=>?_
  have A1:=A.same s1
  refine b1C A1.ra l400 A1.rc A1.rw A1.bd fun l2 ts2 H2 hl2 e2 nd2 m2 so2 s2=>?_
  obtain rfl:ts2=ts:=a3S so2 so1 (b1d nd2 nd1 fun s=>(m2 s).trans (m1 s).symm)
  ext
  nofun
  have f2:=s2 _ _ e1
  refine a1L (s := "list") (by simp only[a1F,f2]) (by decide) ?_
  refine⟨_,rfl,?_⟩
  exists y0 (by decide) ?_
  refine⟨l,l2,1,rfl,rfl,by decide,b0u f2 e2,_,rfl,?_⟩
  exists y0 rfl ?_
  nofun
  specialize a6J ?_
  exists ⟨Z1 f2,?_⟩
  have lt:=A.bd ts2 nd2 fun s hs=>(m2 s).mp hs
  refine a0B f2 (F6 (by rw[a8];omega)) ?_
  have s3:p9 H (upd H2 l (.lst (ts2.map V.str++[.str "more"]))):=fun b o z=>by rw[j5 (d4 z hl)];exact s2 _ _ (s1 _ _ z)
  obtain⟨H3,hH3⟩:∃H3,H3=upd H2 l (.lst (ts2.map V.str++[.str "more"])):=⟨_,rfl⟩
  have e3:H3 l2=some (.lst (ts2.map V.str)):=by rw[hH3,j5 (d4 e1 hl2).symm];exact e2
  rw[<-hH3]at s3 ⊢
  ext
  nofun
  exists y0 (c7H fun z=>ht (V.int.inj z)) ?_
  specialize a5g ?_
  exists ⟨x,dx,_,rfl,s3 _ _ p1,a6T r n e _ (by decide),?_⟩
  have A3:=A.same s3
  refine a6M ck A3.pc A3.le A3.rc A3.rw A3.bd fun l4 ts4 H4 hl4 e4 nd4 m4 so4 s4=>?_
  obtain rfl:ts4=ts2:=a3S so4 so2 (b1d nd4 nd2 fun s=>(m4 s).trans (m2 s).symm)
  ext
  exact⟨l4,l2,1,rfl,rfl,by decide,b0u e4 (s4 _ _ e3),k H4 (s3.trans s4)⟩
theorem b4q{α:Type}(f:α->List Str)(h:∀a,(f a).length<=2):∀l:List α,(l.flatMap f).length<=2 * l.length
 | []=>d5 _
 | a::r=>by
  rw[List.flatMap_cons,c9,v7]
  have:=h a
  have:=b4q f h r
  omega
theorem b8P(l24:rs.length<=24)(l3:ps.length<=3)(hr:a4l H rs RC)(hw:∀(i:Nat) p,rs[i]? = some p->RwS H (RC i) (W i))(hi:∀x∈rs,a6o ps H (.ref x))(ds:List Str)(nd:ds.Nodup)(hd:∀s∈ds,∃i,i<rs.length/\s∈nmW (W i)):ds.length<64:=by
 obtain⟨own,hown⟩:∃own:Nat->List Str,own=fun i=>match W i with | .set n _ _ _=>[n] | w=>nmW w:=⟨_,rfl⟩
 obtain⟨dn,hdn⟩:∃dn:Addr->List Str,dn=fun p=>match H p with | some (.tup [_,a,b])=>a1G a++a1G b | _=>[]:=⟨_,rfl⟩
 have lo:∀i,(own i).length<=2:=fun i=>by
  rw[hown]
  dsimp only
  cases W i with
  | set n k a b=>show 1<=2;omega
  | copy n v=>have:=a0a (v:=v);show(a1G v++[n]).length<=2;rw[c9];simp;omega
  | take n=>show 1<=2;omega
  | tell v=>have:=a0a (v:=v);show(a1G v++[]).length<=2;rw[c9];simp;omega
  | ask v=>have:=a0a (v:=v);show(a1G v++[]).length<=2;rw[c9];simp;omega
  | skip=>show 0<=2;omega
 have ld:∀p,(dn p).length<=2:=fun p=>by
  rw[hdn]
  dsimp only
  split
  ·rename_i a b _
   have:=a0a (v:=a)
   have:=a0a (v:=b)
   rw[c9];omega
  ·exact F5 _
 have sub:∀s∈ds,s∈(A0 rs.length).flatMap own++ps.flatMap dn:=fun s hs=>by
  obtain⟨i,hi',hm⟩:=hd s hs
  obtain⟨p,hp⟩:∃p,rs[i]? = some p:=⟨_,g9 hi'⟩
  rw[i8,a9d,a9d]
  have rW:=hw i p hp
  have rC:=(hr i p hp).1
  cases hw':W i with
  | set n kd a b=>
   rw[hw']at hm rW
   obtain⟨q,ex,hq,_⟩:=rW
   rcases i8.mp hm with z | z
   ·refine .inr ⟨q,?_,?_⟩
    ·obtain⟨p',xs',e1,e2,e3⟩:=hi p (mI hp)
     cases e1
     rw[rC]at e2
     cases e2
     exact e3 _ _ ex
    ·rw[hdn]
     dsimp only
     rw[hq]
     exact z
   ·refine .inl ⟨i,N4.mpr hi',?_⟩
    rw[hown]
    dsimp only
    rw[hw']
    exact z
  | _=>
   refine .inl ⟨i,N4.mpr hi',?_⟩
   rw[hown]
   dsimp only
   rw[hw']
   rw[hw']at hm
   exact hm
 have:=a7I ds _ nd sub
 have:=b4q own lo (A0 rs.length)
 have:=b4q dn ld ps
 rw[c9]at *
 rw[Z5]at *
 omega
end
inductive Fw(N:Nt):Stp->List Stp->Nat->Prop
 | one {s:Stp}:a8U N s->Fw N s [] (a2f N s)
 | cons {s s':Stp} {r:List Stp} {t:Nat}:a8U N s->s'.1=(a2f N s:Int)->Fw N s' r t->Fw N s (s'::r) t
def a0F(m:Nat):List (List Nat):=((A0 m).map fun k=>[k+1])++[[]]
section
variable {k t e:Nat}{W:List Stp}
theorem a4E:(a0F m).length=m+1:=by simp[a0F]
theorem a8M(h:k<m):(a0F m)[k]? = some [k+1]:=by
 unfold a0F
 rw[L5 (by simpa using h),b7,a1U h]
 rfl
theorem a9Z:(a0F m)[m]? = some []:=by
 unfold a0F
 rw[K8 (by simp)]
 simp
theorem a2h(h:(a0F m)[k]? = some l):(k<m/\l=[k+1])\/(k=m/\l=[]):=by
 by_cases q:k<m
 ·rw[a8M q]at h
  cases h
  exact .inl ⟨q,rfl⟩
 ·have:=(gI h)
  rw[a4E]at this
  have:k=m:=by omega
  subst this
  rw[a9Z]at h
  cases h
  exact .inr ⟨rfl,rfl⟩
theorem b2V(h:m<=399):a2J (a0F m):=by
 have len:(a0F m).length=m+1:=a4E
 refine⟨by omega,by omega,fun l hl=>?_,fun l hl t ht=>?_,fun k hk=>?_,fun k hk=>?_⟩
 ·obtain⟨k,hk⟩:=F1.mp hl
  rcases a2h hk with ⟨_,rfl⟩ | ⟨_,rfl⟩ <;> simp
 ·obtain⟨k,hk⟩:=F1.mp hl
  rcases a2h hk with ⟨h1,rfl⟩ | ⟨_,rfl⟩
  ·have:t=k+1:=by simpa using ht
   omega
  ·cases ht
 ·rw[len]at hk
  induction k with
  | zero=>exact .zero
  | succ k ih=>exact .step (ih (by omega)) (a8M (by omega)) (by simp)
 ·rw[len]at hk
  have go:∀j k,k+j=m->Gd (a0F m) k:=by
   intro j
   induction j with
   | zero=>
    intro k e
    have:k=m:=by omega
    subst this
    exact .stop a9Z
   | succ j ih=>
    intro k e
    exact .step (a8M (by omega)) (c6.mpr rfl) (ih (k+1) (by omega))
  exact go (m - k) k (by omega)
end
theorem b6E{tn:TE}(hm:m<=400)(htn:∀(s:St) (R:VK) (H':Hp),R (.int (m:Int)) H'->tn σ H' R)
  (k:∀a H',H a=none->D7 H' a (a0F m)->p9 H H'->Q (.ref a) H'):tOp a0V (V9 (a0S (b4 tn g7)) U2 (P3 (b4 (tOp a0V (b8 0) (tC (.int 1))) g7))) (P3 (b4 (P3 g7) g7)) σ H Q:=by
 exact_mod_cast c4W ?_
 exact_mod_cast X1 (a0y ?_)
 exact_mod_cast b7Z ?_
 refine htn σ _ _ ?_
 exact_mod_cast c1Y ?_
 refine⟨(m:Int),rfl,by omega,by omega,fun D hD=>?_⟩
 rw[l5]
 refine a2H (fun i ys H10=>∃as:List Addr,ys=as.map V.ref/\as.length=i/\(∀(j:Nat) y,as[j]? = some y->H10 y=some (.lst (IL [j+1]))/\y≠D)/\H10 D=some (.lst ys)/\p9 H H10) ?_ ?_ ?_ ?_
 ·exact⟨[],rfl,rfl,by simp,d8,w4 hD⟩
 ·rintro i ys H10 ⟨_,_,_,_,h,_⟩
  exact h
 ·rintro i ys H10 hi ⟨as,rfl,la,at10,hD10,s10⟩ R hR
  rw[X5]
  ext
  refine z6 (by simp) fun y H11 hy e11 s11=>?_
  have nyD:y≠D:=(d4 hD10 hy).symm
  refine hR _ _ (s11 _ _ hD10) (F6 (by rw[a8];omega)) ⟨as++[y],by simp,by simp[la],fun j z e=>?_,d8,fun b o e=>?_⟩
  ·rcases P6 e with ⟨_,e⟩ | ⟨hj,e⟩
   ·obtain⟨q1,q2⟩:=at10 j z e
    exact⟨by rw[j5 q2];exact s11 _ _ q1,q2⟩
   ·subst e
    refine⟨?_,nyD⟩
    rw[j5 nyD,e11,hj,la]
    rfl
  ·rw[j5 (d4 e hD)];exact s11 _ _ (s10 _ _ e)
 rintro _ H10 ⟨as,rfl,la,at10,hD10,s10⟩
 ext
 exists z6 (by simp) fun y2 H12 hy2 e12 s12=>?_
 refine z6 (by simp) fun y3 H13 hy3 e13 s13=>?_
 have s1013:=s12.trans s13
 refine b3U (s1013 _ _ hD10) e13 ?_
 refine z6 (a1h (by rw[a8];show as.length+1<100000;omega)) fun na H14 hna e14 s14=>?_
 have s1014:=s1013.trans s14
 refine k na H14 ((s10.trans s1013).free hna) ⟨as++[y2],by rw[u9];exact e14,by rw[c9,la,a4E];rfl,fun i x l f1 f2=>?_⟩ (s10.trans s1014)
 rcases a2h f2 with ⟨hi,rfl⟩ | ⟨hi,rfl⟩
 ·rw[L5 (by omega)]at f1
  exact s1014 _ _ (at10 i x f1).1
 ·rw[K8 (by omega),show i - as.length=0 by omega]at f1
  cases f1
  exact(s13.trans s14) _ _ e12
section
variable {K:Fg}{c:Cn}{q x:Addr}{W:Nat->Rw}{E:XK}
theorem b4U(hR:M3 H ra N)(hra:H ra=some (.lst (rs.map V.ref))):∃(RC:Nat->List V) (W:Nat->Rw) (D:Nat->Option (List Key)),a4l H rs RC/\(∀(i:Nat) p,rs[i]? = some p->RwS H (RC i) (W i))/\a7d H rs D:=by
 obtain⟨RC,hr⟩:=b2q hR hra
 have ex:∀i:Nat,∃w:Rw,∀p,rs[i]? = some p->RwS H (RC i) w:=fun i=>by
  cases e:rs[i]? with
  | none=>exact⟨.skip,fun p z=>nomatch z⟩
  | some p=>
   obtain⟨w,hw⟩:=(hr i p e).2.rw
   exact⟨w,fun _ _=>hw⟩
 obtain⟨W,hW⟩:=Classical.axiomOfChoice ex
 obtain⟨D,hD⟩:=a7d.ex hR hra
 exact⟨RC,W,D,hr,hW,hD⟩
theorem a6m(ck:a7e K c)(hra:H ra=some (.lst (rs.map V.ref)))(R:M3 H ra N)(T:D7 H na N)(hv:a2J N)(hr:a4l H rs RC)(hw:∀(i:Nat) p,rs[i]? = some p->RwS H (RC i) (W i))(hD:a7d H rs D)
  (bd:∀ds:List Str,ds.Nodup->(∀s∈ds,∃i,i<rs.length/\s∈nmW (W i))->ds.length<64) (hx:H x=none) (hdx:H dx=none)
  (k:∀H',AkN K c H' x ra N rs RC W D->p9 H H'->Q .non H'):Q3 K c [.ref x,.ref ra,.ref na] (upd (upd H dx (.own x)) x (.ins c.F2 dx [])) Q E:=by
 have sm:p9 H (upd (upd H dx (.own x)) x (.ins c.F2 dx [])):=fun b o e=>by
  rw[j5 (d4 e hx),j5 (d4 e hdx)];exact e
 obtain⟨H9,hH9⟩:∃H9,H9=upd (upd H dx (.own x)) x (.ins c.F2 dx []):=⟨_,rfl⟩
 have x9:H9 x=some (.ins c.F2 dx []):=hH9 ▸ d8
 rw[<-hH9]at sm ⊢
 refine b0R ck (sm _ _ hra) (R.same sm) (T.same sm) hv x9 fun H10 pz old=>?_
 have s:p9 H H10:=fun b o e=>old b o (sm _ _ e) (d4 e hx)
 exact k H10 ⟨pz.pc,hv.le,s _ _ hra,hr.ts (p9.ts s),fun i p e=>(hw i p e).ts (p9.ts s),hD.ts (p9.ts s),bd⟩ s
theorem AkN.kept(h:AkN K c H x ra N rs RC W D)(hB:Bag H b d)(hv:a2J N)(k:A7 b H H'):AkN K c H' x ra N rs RC W D:=⟨h.pc.kept hB hv.two k,h.le,k.1 _ _ h.ra (a0A hB h.ra),h.rc.ts (k.ts hB),fun i p e=>(h.rw i p e).ts (k.ts hB),h.dk.ts (k.ts hB),h.bd⟩
theorem a9W(f:Nat->List Key)(inj:∀i j,f i=f j->i=j):∀n,a0R (fun i=>some (f i)) n=(A0 n).map f
 | 0=>rfl
 | n+1=>by
  rw[a0k,a9W f inj n,a0I,u9]
  unfold a8T
  refine if_neg ?_
  rw[a4B]
  intro h
  obtain⟨j,hj,e⟩:=u8.mp h
  have:=inj _ _ e
  have:=N4.mp hj
  omega
abbrev kyM(i:Nat):List Key:=[.inr "plus",.inr "y",.inl (i:Int)]
theorem c1g(ck:a7e K c)(k:∀H',p9 H H'->Q (.bl true) H'):a7F K c [] H Q E:=by
 have nmX:NmS "x" := ⟨by decide +kernel,by decide +kernel⟩
 have nmY:NmS "y" := ⟨by decide +kernel,by decide +kernel⟩
 refine⟨rfl,?_⟩
 unfold b7F
 exact_mod_cast a0x ?_
 refine c2z ?_
 specialize X1 (a0y ?_)
 obtain⟨m,hm⟩:∃m:Nat,m=400:=⟨_,rfl⟩
 refine⟨400,rfl,by omega,by omega,fun R' hR'=>?_⟩
 rw[show(400:Int).toNat=m by rw[hm];rfl]
 refine a2H (n:=m) (fun i ys H1=>∃rs:List Addr,ys=rs.map V.ref/\rs.length=i/\(∀(j:Nat) q,rs[j]? = some q->∃d,H1 q=some (.tup [.str "set",.str "x",.ref d])/\H1 d=some (.tup [.str "plus",.str "y",.int (j:Int)]))/\H1 R'=some (.lst ys)/\p9 H H1) ⟨[],rfl,rfl,by simp,d8,w4 hR'⟩ ?_ ?_ ?_
 ·rintro i ys H1 ⟨_,_,_,_,h,_⟩
  exact h
 ·rintro i ys H1 hi ⟨rs,rfl,lr,ar,e1,s1⟩ R hR
  rw[X5]
  ext
  exists z6 (by simp) fun d H2 hd e2 s2=>?_
  refine z6 (by simp) fun q H3 hq e3 s3=>?_
  have s13:=s2.trans s3
  have e13:=s13 _ _ e1
  have t4:K7 H3 (upd H3 R' (.lst (rs.map V.ref++[.ref q]))):=K7.put e13
  refine hR _ _ e13 (F6 (by rw[a8];omega)) ⟨rs++[q],by simp,by simp[lr],fun j y f=>?_,d8,fun b o e=>by rw[j5 (d4 e hR')];exact s13 _ _ (s1 _ _ e)⟩
  rcases P6 f with ⟨_,f⟩ | ⟨hj,f⟩
  ·obtain⟨d',g1,g2⟩:=ar j y f
   exact⟨d',t4 _ _ (s13 _ _ g1),t4 _ _ (s13 _ _ g2)⟩
  ·subst f
   refine⟨d,t4 _ _ e3,t4 _ _ ?_⟩
   rw[hj,lr]
   exact s3 _ _ e2
 rintro _ H1 ⟨rs,rfl,lr,ar,e1,s1⟩
 ext
 have hv:a2J (a0F 399):=b2V (by decide)
 have cl:(a0F 399).length=399+1:=a4E
 have dn:∀ {H2:Hp} {d:Addr} {j:Nat},j<400->H2 d=some (.tup [.str "plus",.str "y",.int (j:Int)])->a4Z H2 d:=fun {H2 d j} hj h=>⟨"plus",.str "y",.int (j:Int),h,.inl ⟨_,rfl,nmY⟩,.inr ⟨(j:Int),rfl,by omega,by omega⟩,by decide⟩
 have R1:M3 H1 R' (a0F 399):=⟨rs,e1,by rw[lr,cl];omega,fun i x l f1 f2=>by
  obtain⟨d,g1,g2⟩:=ar i x f1
  have hi:=(gI f1)
  have hl:(l.length == 2)=false:=by rcases a2h f2 with ⟨_,rfl⟩ | ⟨_,rfl⟩ <;> rfl
  rw[hl]
  exact⟨x,_,rfl,g1,.set _ _ nmX (dn (by omega) g2),_,_,rfl,by decide⟩⟩
 nofun
 specialize b0G ?_
 refine b6E (m:=399) (by decide) (fun _ R H' h=>by
  ext
  exact h) fun na H2 hna T2 s2=>?_
 ext
 intro x dx hx hdx hne
 have e2:=s2 _ _ e1
 have ar2:∀(j:Nat) q,rs[j]? = some q->∃d,H2 q=some (.tup [.str "set",.str "x",.ref d])/\H2 d=some (.tup [.str "plus",.str "y",.int (j:Int)]):=fun j q f=>let⟨d,g1,g2⟩:=ar j q f; ⟨d,s2 _ _ g1,s2 _ _ g2⟩
 obtain⟨RC,hr⟩:=b2q (R1.same s2) e2
 have hw:∀(i:Nat) p,rs[i]? = some p->RwS H2 (RC i) (.set "x" "plus" (.str "y") (.int (i:Int))):=fun i p f=>by
  obtain⟨d,g1,g2⟩:=ar2 i p f
  have hi:=(gI f)
  have:=(hr i p f).1
  rw[g1]at this
  obtain⟨_,_,_,g3,o1,o2,_⟩:=dn (H2:=H2) (j:=i) (by omega) g2
  rw[g2]at g3
  cases g3
  exact⟨d,(HO.tup.inj (Option.some.inj this)).symm,g2,o1,o2,nmX⟩
 have hD:a7d H2 rs fun i=>some (kyM i):=fun i p f=>let⟨d,g1,g2⟩:=ar2 i p f; ⟨_,d,g1,g2⟩
 have mem:∀s,(∃i,i<rs.length/\s∈nmW (.set "x" "plus" (.str "y") (.int (i:Int))))↔s∈(["x","y"]:List Str):=fun s=>by
  constructor
  ·rintro⟨i,_,h⟩
   have h:s∈(["y","x"]:List Str):=h
   simp only[g6,j8,or_false]at h ⊢
   exact h.symm
  ·intro h
   refine⟨0,by omega,?_⟩
   show s∈(["y","x"]:List Str)
   simp only[g6,j8,or_false]at h ⊢
   exact h.symm
 refine a6m ck e2 (R1.same s2) T2 hv hr hw hD (fun ds nd h=>by
  have:=a7I ds ["x","y"] nd fun s hs=>(mem s).mp (h s hs)
  have:(["x","y"]:List Str).length=2:=rfl
  omega) hx hdx fun H3 A3 s3=>⟨rfl,?_⟩
 obtain⟨dx',r,n,e,p1,_⟩:=id A3.pc.ex
 ext
 specialize a5g ?_
 exists ⟨x,dx',_,rfl,p1,a6T r n e _ (by decide),?_⟩
 refine a8I ck A3.pc A3.le A3.dk fun l bs H4 e4 kb hl s4=>?_
 rw[a9W kyM (fun i j h=>by
  have h:=(List.cons.inj (List.cons.inj (List.cons.inj h).2).2).1
  have:=Sum.inl.inj h
  omega)]at kb
 have s24:=s3.trans s4
 ext
 specialize X1 (T9 ?_)
 have e24:=s24 _ _ e2
 refine⟨R',rfl,⟨_,SqL.of e24⟩,fun L hL=>?_⟩
 refine Y4 (xs:=rs.map V.ref) (fun i ys H5=>∃ds:List Addr,ys=ds.map V.ref/\a4Y H5 ds ((A0 i).map kyM)/\H5 L=some (.lst ys)/\p9 H4 H5) ⟨[],rfl,⟨rfl,fun i b k h=>nomatch h⟩,d8,w4 hL⟩ ?_ ?_ ?_ ?_
 ·rintro i ys H5 ⟨_,_,_,h,_⟩
  exact h
 ·rintro i ys H5 _ ⟨_,_,_,_,s5⟩
  exact SqL.of (s5 _ _ e24)
 ·rintro i y ys H5 hy ⟨ds,rfl,kd,e5,s5⟩ R hR
  rw[b7]at hy
  obtain⟨q,hq,rfl⟩:=t5.mp hy
  have hi:=(gI hq)
  obtain⟨d,g1,g2⟩:=ar2 i q hq
  have s25:=s24.trans s5
  ext
  refine F4 (s25 _ _ g1) (a4I _ _ _ _) ?_
  have t6:K7 H5 (upd H5 L (.lst (ds.map V.ref++[.ref d]))):=K7.put e5
  have ld:ds.length=i:=by rw[kd.1,a8,Z5]
  refine hR _ _ e5 (F6 (by rw[a8];omega)) ⟨ds++[d],by simp,?_,d8,fun b o e=>by rw[j5 (d4 e hL)];exact s5 _ _ e⟩
  rw[a0I,u9]
  refine⟨by rw[c9,c9,kd.1];rfl,fun j b k' f1 f2=>?_⟩
  rcases P6 f1 with ⟨h1,f1⟩ | ⟨h1,f1⟩
  ·rcases P6 f2 with ⟨_,f2⟩ | ⟨h2,_⟩
   ·exact t6 _ _ (kd.2 j b k' f1 f2)
   ·have:=kd.1;omega
  ·rcases P6 f2 with ⟨h2,_⟩ | ⟨_,f2⟩
   ·have:=kd.1;omega
   ·subst f1 f2
    exact t6 _ _ (s25 _ _ g2)
 rintro _ H5 ⟨ds,rfl,kd,e5,s5⟩
 rw[a8]at kd
 ext
 refine⟨l,L,2,rfl,rfl,by decide,b1e (s5 _ _ e4) (b1f kb (p9.ts s5)) e5 kd,_,rfl,?_⟩
 exists D9 rfl ?_
 have s35:=s4.trans s5
 have A5:=A3.same s35
 specialize a5g ?_
 exists ⟨x,dx',_,rfl,s35 _ _ p1,a6T r n e _ (by decide),?_⟩
 refine a6M ck A5.pc A5.le A5.rc A5.rw A5.bd fun l2 ts H6 hl2 e6 nd6 m6 so6 s6=>?_
 obtain rfl:ts=(["x","y"]:List Str):=a3S so6 (by decide +kernel) (b1d nd6 (by decide) fun s=>(m6 s).trans (mem s))
 ext
 refine z6 (by simp) fun z H7 hz e7 s7=>?_
 exact⟨l2,z,1,rfl,rfl,by decide,b0u (ss:=(["x","y"]:List Str)) (s7 _ _ e6) e7,k H7 ((((s1.trans s2).trans s3).trans s35).trans (s6.trans s7))⟩
end
theorem a9T:a2J [[]]:=by
 refine⟨by decide,by decide,by decide,by decide,fun k hk=>?_,fun k hk=>?_⟩
 ·have:k=0:=by have:k<1:=hk;omega
  subst this
  exact .zero
 ·have:k=0:=by have:k<1:=hk;omega
  subst this
  exact .stop rfl
structure Rwd(H:Hp)(ra na:Addr)(N:Nt)(rs ps:List Addr):Prop where
 r:M3 H ra N
 n:D7 H na N
 ra:H ra=some (.lst (rs.map V.ref))
 i:∀x∈rs,a6o ps H (.ref x)
theorem Rwd.same(h:Rwd H ra na N rs ps)(s:p9 H H'):Rwd H' ra na N rs ps:=⟨h.r.same s,h.n.same s,s _ _ h.ra,fun x hx=>(h.i x hx).ts (p9.ts s)⟩
theorem Rwd.kept(h:Rwd H ra na N rs ps)(hB:Bag H b d)(hv:a2J N)(k:A7 b H H'):Rwd H' ra na N rs ps:=⟨h.r.kept hB k,h.n.kept hB hv.two k,k.1 _ _ h.ra (a0A hB h.ra),fun x hx=>(h.i x hx).ts (k.ts hB)⟩
theorem b8a(h:Rwd H ra na N rs ps)(l24:N.length<=24)(l3:ps.length<=3):∃(RC:Nat->List V) (W:Nat->Rw) (D:Nat->Option (List Key)),a4l H rs RC/\(∀(i:Nat) p,rs[i]? = some p->RwS H (RC i) (W i))/\a7d H rs D/\∀ds:List Str,ds.Nodup->(∀s∈ds,∃i,i<rs.length/\s∈nmW (W i))->ds.length<64:=by
 obtain⟨RC,W,D,h1,h2,h3⟩:=b4U h.r h.ra
 obtain⟨rs',q1,q2,_⟩:=h.r.ex
 rw[h.ra]at q1
 have:=congrArg a9D (HO.lst.inj (Option.some.inj q1))
 rw[a8,a8]at this
 exact⟨RC,W,D,h1,h2,h3,b8P (by omega) l3 h1 h2 h.i⟩
theorem law_reading(K:Fg)(hl:ns.length<=63)(hO:c1F H)(hS:SqL K H a (ns.map V.int)):a8h K [.ref a] H (fun v _=>v=.bl true) (fun _ _ _=>False):=by
 refine⟨rfl,fun c ck=>?_⟩
 unfold b7G
 nofun
 exists c4m hS hl fun b d H1 B1 s1 _=>?_
 exact_mod_cast a0z (P:=fun σ Hi=>σ=[some (.ref a),some (.ref b),none,none,none,none,none,none,none,none,none,none]/\Bag Hi b d) ?_ ?_
 rotate_left
 ·intro nx hnx
  ext
  exists E6 B1 (by decide) (by decide) fun n1 H2 a0 a1 B2 k2=>?_
  refine a0C (fun _=>?_) (fun _=>?_)
  ·ext
   refine c1g ck fun H3 s3=>?_
   refine⟨_,rfl,?_⟩
   exists y0 rfl ?_
   exact hnx _ _ ⟨rfl,B2.same s3⟩
  ·ext
   exact hnx _ _ ⟨rfl,B2⟩
 rintro _ H2 ⟨rfl,B2⟩
 nofun
 refine b2P B2 fun p1 r1 n1 N1 H3 e3 R3 T3 v1 l1 ⟨ps1,lp1,_,rs1,hr1,hi1⟩ B3 k3=>?_
 refine a5X (SqT.of e3) ?_
 have Y:Rwd H3 r1 n1 N1 rs1 ps1:=⟨R3,T3,hr1,hi1⟩
 nofun
 refine b2P B3 fun p2 r2 n2 N2 H4 e4 R4 T4 v2 l2 ⟨ps2,lp2,_,rs2,hr2,hi2⟩ B4 k4=>?_
 refine a5X (SqT.of e4) ?_
 have U4:Rwd H4 r2 n2 N2 rs2 ps2:=⟨R4,T4,hr2,hi2⟩
 have W4:=Y.kept B3 v1 k4
 nofun
 refine b2E B4 fun sa H5 S5 B5 k5 _=>?_
 have W5:=W4.kept B4 v1 k5
 have U5:=U4.kept B4 v2 k5
 ext
 nofun
 refine b5i B5 S5 fun dd H6 d6 hdd B6 k6=>?_
 have W6:=W5.kept B5 v1 k6
 have U6:=U5.kept B5 v2 k6
 obtain⟨S6,nsa⟩:=S5.kept B5 k6
 ext
 exists z6 (by simp) fun pl H7 hpl e7 s7=>?_
 have e7:H7 pl=some (.lst ([dd].map V.ref)):=e7
 have P7:b0f H7 pl:=⟨[dd],e7,by simp,by simp,fun p hp=>by rw[c6.mp hp];exact d6.ts (p9.ts s7)⟩
 have B7:=B6.same s7
 refine b8c (m:=0) B7 (S6.same s7) P7 e7 fun v H8 r8 _ B8 k8=>?_
 have W8:=(W6.same s7).kept B7 v1 k8
 have U8:=(U6.same s7).kept B7 v2 k8
 obtain⟨S8,_⟩:=(S6.same s7).kept B7 k8
 obtain⟨q0,xs0,rfl,hq0⟩:=id r8
 ext
 exact_mod_cast a0z (P:=fun σ Hi=>∃q,σ=[some (.ref a),some (.ref b),some (.ref r1),some (.ref n1),some (.ref r2),some (.ref n2),some (.ref sa),some (.ref q),none,none,none,none]/\a7B Hi (.ref q) false/\Bag Hi b d/\A7 b H8 Hi) ?_ ?_
 rotate_left
 ·intro nx hnx
  ext
  exists E6 B8 (by decide) (by decide) fun n9 H9 a0 a1 B9 k9=>?_
  refine a0C (fun _=>?_) (fun _=>?_)
  ·ext
   exists z6 (by simp) fun q1 G1 hq1 g1 t1=>?_
   exists z6 (by simp) fun q2 G2 hq2 g2 t2=>?_
   obtain⟨S9,_⟩:=S8.kept B8 k9
   obtain⟨ss,s91,s92,s93,s94⟩:=(S9.same (t1.trans t2)).ex
   obtain⟨s0,sr,rfl⟩:=List.exists_cons_of_ne_nil s92
   exists J2 s91 (a0Q _ _) ?_
   exists z6 (by simp) fun q3 G3 hq3 g3 t3=>?_
   exists z6 (by simp) fun q4 G4 hq4 g4 t4=>?_
   have t14:=(t1.trans t2).trans (t3.trans t4)
   have BG3:=(B9.same (t1.trans t2)).same t3
   refine E6 (BG3.same t4) (by decide) (by decide) fun j G5 j0 j1 B5' k5'=>?_
   obtain⟨u,hu,hu2⟩:=a1O (xs:=[V.ref q1,V.ref q2,V.ref q3]) j0 (by simpa using j1)
   refine J2 (k5'.1 _ _ g4 (BG3.nb hq4).1) hu ?_
   have kk:A7 b H8 G5:=(k9.trans (A7.of_same t14)).trans k5'
   have ts:=k5'.ts (BG3.same t4)
   have m:=mI hu2
   simp only[g6,j8,or_false]at m
   ext
   rcases m with rfl | rfl | rfl
   ·exact hnx _ _ ⟨q1,rfl,⟨q1,_,rfl,ts _ _ (((t2.trans t3).trans t4) _ _ g1),.skip,_,_,rfl,by decide⟩,B5',kk⟩
   ·exact hnx _ _ ⟨q2,rfl,⟨q2,_,rfl,ts _ _ ((t3.trans t4) _ _ g2),.tell _ (.inr ⟨7,rfl,by decide,by decide⟩),_,_,rfl,by decide⟩,B5',kk⟩
   ·exact hnx _ _ ⟨q3,rfl,⟨q3,_,rfl,ts _ _ (t4 _ _ g3),.tell _ (.inl ⟨s0,rfl,s94 s0 (by simp)⟩),_,_,rfl,by decide⟩,B5',kk⟩
  ·ext
   exact hnx _ _ ⟨q0,rfl,a7B.ts r8 (k9.ts B8),B9,k9⟩
 rintro _ H9 ⟨q,rfl,r9,B9,k9⟩
 have W9:=W8.kept B8 v1 k9
 have U9:=U8.kept B8 v2 k9
 obtain⟨RC1,Wa,D1,c1,c2,c3,c4⟩:=b8a W9 l1 lp1
 nofun
 specialize b0G ?_
 intro x1 dx1 hx1 hdx1 hne1
 refine a6m ck W9.ra W9.r W9.n v1 c1 c2 c3 c4 hx1 hdx1 fun H10 A10 s10=>⟨rfl,?_⟩
 have U10:=U9.same s10
 obtain⟨RC2,Wb,D2,f1,f2,f3,f4⟩:=b8a U10 l2 lp2
 ext
 specialize b0G ?_
 intro x2 dx2 hx2 hdx2 hne2
 exists a6m ck U10.ra U10.r U10.n v2 f1 f2 f3 f4 hx2 hdx2 fun H11 A11 s11=>⟨rfl,?_⟩
 specialize b0G ?_
 exists z6 (by simp) fun rb H12 hrb e12 s12=>?_
 exists z6 (by simp) fun nl H13 hnl e13 s13=>?_
 exists z6 (by simp) fun nb H14 hnb e14 s14=>?_
 have s1114:=s12.trans (s13.trans s14)
 have s914:=(s10.trans s11).trans s1114
 have e12':H14 rb=some (.lst ([q].map V.ref)):=(s13.trans s14) _ _ e12
 have R14:M3 H14 rb [[]]:=⟨[q],e12',rfl,fun i x l f1 f2=>by
  match i with
  | 0=>cases f1;cases f2;exact r9.ts (p9.ts s914)
  | i+1=>cases f1⟩
 have T14:D7 H14 nb [[]]:=⟨[nl],e14,rfl,fun i x l f1 f2=>by
  match i with
  | 0=>cases f1;cases f2;exact s14 _ _ e13
  | i+1=>cases f1⟩
 obtain⟨RC3,Wc,D3,g1,g2,g3⟩:=b4U R14 e12'
 intro x3 dx3 hx3 hdx3 hne3
 refine a6m ck e12' R14 T14 a9T g1 g2 g3 (fun ds nd h=>by
  have:=a7I ds (nmW (Wc 0)) nd fun s hs=>by
   obtain⟨i,hi,hm⟩:=h s hs
   have:i=0:=by have:i<1:=hi;omega
   rw[this]at hm
   exact hm
  have:=c1c (w:=Wc 0)
  omega) hx3 hdx3 fun H15 A15 s15=>⟨rfl,?_⟩
 ext
 exists z6 (by simp) fun pl2 H16 hpl2 e16 s16=>?_
 have s916:=(s914.trans s15).trans s16
 have s1116:=(s1114.trans s15).trans s16
 have B16:=B9.same s916
 nofun
 exists E6 B16 (by decide) (by decide) fun n17 H17 m0 m1 B17 k17=>?_
 have A1:=((A10.same s11).same s1116).kept B16 v1 k17
 have A2:=(A11.same s1116).kept B16 v2 k17
 have A3:=(A15.same s16).kept B16 a9T k17
 have e17:H17 pl2=some (.lst [.ref x1,.ref x2,.ref x3]):=k17.1 _ _ e16 (a0A (as:=[x1,x2,x3]) B16 e16)
 exact_mod_cast a0x ?_
 specialize a0n (a0y ?_)
 refine⟨6,rfl,by decide,by decide,?_⟩
 refine a0p (fun i σ Hi=>∃y10 y11,σ=[some (.ref a),some (.ref b),some (.ref r1),some (.ref n1),some (.ref r2),some (.ref n2),some (.ref sa),some (.ref q),some (.ref pl2),some (.int n17),y10,y11]/\p9 H17 Hi) ⟨_,_,rfl,p9.refl _⟩ ?_ ?_
 ·rintro i _ Hi hi ⟨y10,y11,rfl,si⟩
  rw[X5]
  ext
  nofun
  exists a0c (by decide) ?_
  have e17i:=si _ _ e17
  obtain⟨j,hj⟩:∃j:Nat,((i:Int) % 3)=(j:Int):=⟨((i:Int) % 3).toNat,by omega⟩
  have j3:j<3:=by omega
  rw[hj]
  have fin:∀ {x ra:Addr} {N:Nt} {rs:List Addr} {RC:Nat->List V} {W:Nat->Rw} {D:Nat->Option (List Key)} {Hj:Hp},AkN K c Hj x ra N rs RC W D->p9 H17 Hj->∀R:VK,(∀Hk,p9 H17 Hk->R (.bl true) Hk)->a3R K c [.ref x,.ref ra,.int ((n17+(i:Int)) % 2)] Hj R E0:=fun A sj R hR=>b9t ck A fun Hk sk=>hR Hk (sj.trans sk)
  have done:∀Hk,p9 H17 Hk->∃y10 y11,[some (V.ref a),some (.ref b),some (.ref r1),some (.ref n1),some (.ref r2),some (.ref n2),some (.ref sa),some (.ref q),some (.ref pl2),some (.int n17),some (.int (i:Int)),some (.int (j:Int))]=[some (V.ref a),some (.ref b),some (.ref r1),some (.ref n1),some (.ref r2),some (.ref n2),some (.ref sa),some (.ref q),some (.ref pl2),some (.int n17),y10,y11]/\p9 H17 Hk:=fun Hk sk=>⟨_,_,rfl,sk⟩
  match j,j3 with
  | 0,_=>
   exists J2 e17i (a0Q _ _) ?_
   exists z6 (by simp) fun z1 Hj hz1 ez1 sz1=>?_
   exists z6 (by simp) fun z2 Hk hz2 ez2 sz2=>?_
   exists J2 ez2 (a0Q _ _) ?_
   exists a0c (by decide) ?_
   have sk:=(si.trans sz1).trans sz2
   refine fin (A1.same sk) sk _ fun Hl sl=>?_
   refine⟨_,rfl,?_⟩
   exists y0 rfl ?_
   exact done Hl sl
  | 1,_=>
   exists J2 e17i (a3p _ _ _) ?_
   exists z6 (by simp) fun z1 Hj hz1 ez1 sz1=>?_
   exists z6 (by simp) fun z2 Hk hz2 ez2 sz2=>?_
   exists J2 ez2 (a3p _ _ _) ?_
   exists a0c (by decide) ?_
   have sk:=(si.trans sz1).trans sz2
   refine fin (A2.same sk) sk _ fun Hl sl=>?_
   refine⟨_,rfl,?_⟩
   exists y0 rfl ?_
   exact done Hl sl
  | 2,_=>
   exists J2 e17i (a4I _ _ _ _) ?_
   exists z6 (by simp) fun z1 Hj hz1 ez1 sz1=>?_
   exists z6 (by simp) fun z2 Hk hz2 ez2 sz2=>?_
   exists J2 ez2 (a4I _ _ _ _) ?_
   exists a0c (by decide) ?_
   have sk:=(si.trans sz1).trans sz2
   have A3k:=A3.same sk
   have ez:Hk z1=some (.lst ([q].map V.ref)):=sz2 _ _ ez1
   refine fin (⟨A3k.pc,A3k.le,ez,A3k.rc,A3k.rw,A3k.dk,A3k.bd⟩:AkN K c Hk x3 z1 [[]] [q] RC3 Wc D3) sk _ fun Hl sl=>?_
   refine⟨_,rfl,?_⟩
   exists y0 rfl ?_
   exact done Hl sl
 rintro _ Hi ⟨y10,y11,rfl,si⟩
 ext
 rfl
end RD
set_option maxHeartbeats 0
namespace PR
open PySem L2 RD Y
abbrev c6J:Str:="__init__"
abbrev c6K:Str:="_law_script"
abbrev c6L:Str:="_law_bag"
abbrev c6M:Str:="_law_bag_here"
abbrev c6N:Str:="_law_many_here"
abbrev c6O:Str:="_law_take"
abbrev c6P:Str:="self"
abbrev c6Q:Str:="operands_of"
abbrev c6R:Str:="reads_of"
abbrev c6S:Str:="check_length"
abbrev c6T:Str:="thing"
abbrev c6U:Str:="is_whole"
abbrev c6V:Str:="is_value"
abbrev c6W:Str:="is_operand"
abbrev c6X:Str:="check_each"
abbrev c6Y:Str:="is_below"
abbrev c6Z:Str:="following"
abbrev c7a:Str:="place"
abbrev c7b:Str:="are_nexts"
abbrev c7c:Str:="rows"
abbrev c7d:Str:="nexts"
abbrev c7e:Str:="check_nexts"
abbrev c7f:Str:="stops_of"
abbrev c7g:Str:="check_ways"
abbrev c7h:Str:="steps_of"
abbrev c7i:Str:="_law_rows"
abbrev c7j:Str:="_law_plan"
abbrev c7k:Str:="_law_k"
abbrev c7l:Str:="_law_row_here"
abbrev c7m:Str:="_law_many"
abbrev c7n:Str:="_law_nexts"
abbrev c7o:Str:="_law_net"
abbrev c7p:Str:="_law_good"
abbrev c7q:Str:="_law_turn"
abbrev c7r:Str:="_law_reached"
abbrev c7s:Str:="_law_one"
abbrev c7t:Str:="_law_order"
abbrev c7u:Str:="_law_mended"
abbrev c7v:Str:="_law_name"
abbrev c7w:Str:="_law_names_here"
abbrev c7x:Str:="_law_names"
abbrev c7y:Str:="_law_value"
abbrev c7z:Str:="_law_operand"
abbrev c7A:Str:="_law_deed"
abbrev c7B:Str:="_law_pool"
abbrev c7C:Str:="_law_row"
abbrev c7D:Str:="_law_drawn"
abbrev c7E:Str:="_law_deeds"
abbrev c7F:Str:="_law_all_names"
abbrev c7G:Str:="_law_asked"
section
def top(i:Nat):Stmt:=PySem.Challenge.pw_oncedone_k23_deeds_and_names.main.body.getD i (.Pass ⟨0,0,0,0⟩)
abbrev b4T:Stmt:=top 40
abbrev b3P:Stmt:=top 41
abbrev a6I:Stmt:=top 25
abbrev a3b:Stmt:=O2 (top 38) 5
abbrev a2q:Stmt:=top 27
abbrev a5f:Stmt:=top 28
abbrev a8n:Stmt:=top 26
abbrev a3a:Stmt:=O2 (top 38) 6
abbrev a1K:Stmt:=top 22
abbrev a4y:Stmt:=top 15
abbrev a5h:Stmt:=top 13
abbrev a5i:Stmt:=top 14
abbrev a2X:Stmt:=top 16
abbrev a6H:Stmt:=top 17
abbrev a8o:Stmt:=top 18
abbrev a2Z:Stmt:=top 23
abbrev a5j:Stmt:=top 21
abbrev a2c:Stmt:=top 31
abbrev a1a:Stmt:=top 32
abbrev a6E:Stmt:=top 35
abbrev a5W:Stmt:=top 34
abbrev a2V:Stmt:=top 33
abbrev a2Y:Stmt:=top 36
abbrev a2W:Stmt:=top 37
abbrev a1i:Stmt:=O2 (top 38) 2
abbrev a0o:Stmt:=O2 (top 38) 0
abbrev a6G:Stmt:=top 54
abbrev b7X:Stmt:=top 48
abbrev a2G:Stmt:=top 49
abbrev b0F:Stmt:=top 42
abbrev b0E:Stmt:=top 43
abbrev b0D:Stmt:=top 44
abbrev a6F:Stmt:=top 45
abbrev b3S:Stmt:=top 46
abbrev b7V:Stmt:=top 47
abbrev a5Y:Stmt:=top 50
abbrev b0I:Stmt:=top 51
abbrev a3T:Stmt:=top 52
abbrev b0J:Stmt:=top 53
abbrev b4R:Stmt:=top 55
structure Txt(K:Fg)(mg:Str->Option Value)(c:Cn):Prop where
 c6c:mg "abs" = none
 c2j:mg "all" = none
 c6b:mg "any" = none
 c4D:mg "bool" = none
 a2m:mg "enumerate" = none
 c6a:mg "int" = none
 J8:mg "isinstance" = none
 Q8:mg "len" = none
 a2u:mg "list" = none
 c5Z:mg "min" = none
 X4:mg "range" = none
 c5Y:mg "set" = none
 a9c:mg "sorted" = none
 b9G:mg "str" = none
 b5t:mg "tuple" = none
 c5X:mg "zip" = none
 c1O:∃u,mg "BOUND" = some u/\C7 (.int 1000000000000) u
 b1H:∃u,mg "DEED_KINDS" = some u/\C7 (.ref c.a3t) u
 b6W:∃u,mg "FIGURES" = some u/\C7 (.str "0123456789") u
 a6s:∃u,mg "FIRST_STEP" = some u/\C7 (.ref c.a0M) u
 b0k:∃u,mg "LETTERS" = some u/\C7 (.str "abcdefghijklmnopqrstuvwxyz") u
 a9b:∃u,mg "LONGEST_NAME" = some u/\C7 (.int 8) u
 c4C:∃u,mg "MOST" = some u/\C7 (.int 400) u
abbrev scF(ns:List (Str×a4P)):Scope:={ kind:=.function,names:=ns,isGenerator:=false,isCoroutine:=false,more:=[] }
local macro_rules | `(tactic| walk_at "c0") => `(tactic| exact ⟨rfl, by decide +kernel, by decide +kernel, rfl, by decide +kernel, by decide +kernel, rfl, by decide +kernel⟩)
local macro_rules | `(tactic| walk_at "c1") => `(tactic| exact ⟨rfl, by decide +kernel, by decide +kernel, rfl, b5f (by decide +kernel), by decide +kernel, rfl, by decide +kernel⟩)
local macro_rules | `(tactic| walk_at "c2") => `(tactic| exact ⟨rfl, by decide +kernel, by decide +kernel, rfl, rfl, by decide +kernel, by decide +kernel, rfl, rfl, by decide +kernel⟩)
local macro_rules | `(tactic| walk_at "c3") => `(tactic| exact ⟨rfl, by decide +kernel, by decide +kernel, rfl, rfl, b5f (by decide +kernel), by decide +kernel, rfl, rfl, by decide +kernel⟩)
def b9A(f:List Value->Prop):List Str->Prop
 | []=>f []
 | _::r=>∀u,b9A (fun us=>f (u::us)) r
theorem b9A.mp:∀ {ps:List Str} {f:List Value->Prop},b9A f ps->∀us,us.length=ps.length->f us
 | [],_,h,[],_=>h
 | _::_,_,h,u::us,e=>b9A.mp (h u) us (Nat.succ.inj e)
section
variable {P:u6}{w:World}{K:Fg}{mg:Str->Option Value}{base h:Heap}{c:Cn}{f C:Addr}{fd:X6}{x q:Str}{st:Stmt}{N ps:List Str}{k:Nat}{t:TS}{pm cd:Value}{sp:Sp}
open PySem.Spec PyProof.Rows in
theorem fk(F:Fun K x q st f fd)(S:y7 N ps (j4 st))(b:∀cdv A outer s H E,L3 k (A.deeper (b1N q (j4 st) s.heap.objs.size f cdv))->N.Nodup->a9i (b2S CX0 P w K mg base N q (j4 st) f cdv A outer s H E).nox (a0E st) t):J1 P w K mg base CX0 (k+1) f fd ps (spD ps.length N.length t):=
 b1R F S (fun _ _ _ _ h=>h.1) fun cdv A outer s H _ _ E hr h=>⟨t,b cdv A outer s H E hr S.nd,h.2⟩
abbrev fdM(x q:Str)(st:Stmt)(pm cd:Value):X6:=Z7 x q (a2g st) (a0E st) (j4 st) .none .none .none pm none cd .none
structure FnI(K:Fg)(x q:Str)(st:Stmt)(f:Addr)(pm cd:Value):Prop where
 l:K.lookup f=some ⟨.type "function",none,.func (fdM x q st pm cd),#[]⟩
 c:a4L K cd q=true
 k:M5 K (.ref f)=true
structure FnG(K:Fg)(x:Str)(st:Stmt)(f:Addr)(pm cd:Value):Prop where
 i:FnI K x x st f pm cd
 a:v6 K q9 x=some (some (.ref f))
structure FnM(K:Fg)(C:Addr)(x q:Str)(st:Stmt)(f:Addr)(pm cd:Value):Prop where
 i:FnI K x q st f pm cd
 a:A9 K (.ref C) x=some (some (.ref f))
 n:a7i K (.ref f)=true
theorem FnI.F(h:FnI K x q st f pm cd):Fun K x q st f (fdM x q st pm cd):=c4j h.l h.c h.k
abbrev BdA(x q:Str)(st:Stmt)(ps:List Str):Prop:=∀(kV doc pm:Value) (an:Option Addr) (cdv ct:Value),b9A (fun us=>bindArgs (Z7 x q (a2g st) (a0E st) (j4 st) .none kV doc pm an cdv ct) ⟨us,[]⟩=pure (ps.zip us)) ps
theorem mkC(X:K.In h)(G:h.Ns q9 mg)(g:FnG K x st f pm cd)(O:J1 P w K mg base CX0 k f (fdM x x st pm cd) ps sp)(B:BdA x x st ps):C9 P w K mg base k x ps sp:=b6J g.i.F O (O8 X G g.a) (g.i.F.binds fun _ _ _ _ _ _ us hl=>(B _ _ _ _ _ _).mp us hl)
theorem mkM(g:FnM K C x q st f pm cd)(cl:Cls K C)(O:J1 P w K mg base CX0 k f (fdM x q st pm cd) ps sp)(B:BdA x q st ps):a2k P w K mg base k x C ps sp:=⟨_,_,O,cl,⟨g.a,g.n,g.i.k⟩,g.i.F.binds fun _ _ _ _ _ _ us hl=>(B _ _ _ _ _ _).mp us hl⟩
theorem mkK{y:Str}(X:K.In h)(G:h.Ns q9 mg)(g:FnM K C c6J q st f pm cd)(y1:v6 K q9 y=some (some (.ref C)))(m:a3C K C=true)(kc:M5 K (.ref C)=true)(O:J1 P w K mg base CX0 k f (fdM c6J q st pm cd) ps sp)(B:BdA c6J q st ps):b3i P w K mg base k y C ps sp:=⟨_,_,O,O8 X G y1,⟨m,g.a,g.n,kc⟩,g.i.F.binds fun _ _ _ _ _ _ us hl=>(B _ _ _ _ _ _).mp us hl⟩
end
section
variable {P:u6}{w:World}{K:Fg}{mg:Str->Option Value}{base:Heap}{c:Cn}{f:Addr}{fd:X6}(T:Txt K mg c)
abbrev b8D:List Str:=[c6K]
theorem c2x:y7 [c6K] b8D (j4 b4T):=by walk_at "sc"
theorem b9r:M9 [c6K] (j4 b4T) (scF [ (".0",.local),("_law_cell",.local),("abs",.globalImplicit)]) "_law_cell" := by walk_at "c0"
include T in
theorem c3R(F:Fun K c6L c6L b4T f fd):J1 P w K mg base CX0 1 f fd b8D (b0x K):=fk F c2x fun _ _ _ _ _ _ hr nd=>b9 (o4 (v8 (b4I b5 b5 b5 (K0 b9r rfl (F0 (a2O b5u (c7 0) a4q (a4p b5))) (fun _ _ _ _ _=>F3) (fun _ _ _ _ _=>j7 b1U rfl T.c6c PyProof.Rows.boot_abs (j9 (c7 0)))))))
variable(b5o:C9 P w K mg base 1 c6L b8D (b0x K))
abbrev b4b:List Str:=[c6M,c6N]
theorem c0c:y7 [c6M,c6N,"_law_more","_law_cell","_law_value_here","_law_first","_law_second"] b4b (j4 b3P):=by walk_at "sc"
include T in
theorem c0X(F:Fun K c6O c6O b3P f fd):J1 P w K mg base CX0 1 f fd b4b (C5 K):=fk F c0c fun _ _ _ _ _ _ hr nd=>b6 (u5 (C1 (z5 hr) (t7 (c7 0) b5) b5) (b6 (t8 2 nd b5) (b6 (u5 (C1 a1E (t7 (c7 0) b5) (j7 t9 rfl T.Q8 o7 (j9 (t7 (c7 0) b5)))) (b6 (t8 3 nd (t7 (t7 (c7 0) b5) (t7 (c7 0) b5))) (b6 (b5w (c7 0) b5 b9R b5 b7u a7C) (b6 (u5 (C1 b7t (c7 3) b5) (b9 (a3K (c7 3) (a7S (c7 0) b5 a7C))) o0) (b9 (t8 2 nd (z9 F9 (z9 W2 (c7 3) b5) b5)))))) o0) (b9 (a3K (z9 W2 (z9 F9 (z9 a1w (t7 (c7 0) b5) b5) (c7 2)) b5) (a7S (c7 0) b5 a7C))))) o0) (b6 (u5 (C1 a2E (t7 (c7 0) b5) b5) (b6 (t8 4 nd (z9 W2 (t7 (c7 0) b5) (c7 1))) (b6 (a3K (z9 a9F (t7 (c7 0) b5) (c7 1)) (a7S (c7 0) b5 a7C)) (b9 (o4 (c7 4))))) o0) (b6 (t8 5 nd (z9 W2 (z9 a1w (t7 (c7 0) b5) b5) b5)) (b6 (t8 6 nd (z9 W2 (z9 a1w (c7 5) b5) b5)) (b6 (u5 (C1 a2E (c7 1) b5) (b9 (o4 (z9 W2 (z9 F9 (z9 a1w (c7 6) b5) (c7 5)) (c7 1)))) o0) (b9 (o4 (z9 W2 (z9 a9F (c7 6) b5) (c7 1))))))))
variable(A4:C9 P w K mg base 1 c6O b4b (C5 K))
abbrev a6R:List Str:=["row"]
theorem b3N:y7 ["row"] a6R (j4 a6I):=by walk_at "sc"
include T in
theorem b4k(F:Fun K "deed_of" "deed_of" a6I f fd):J1 P w K mg base CX0 1 f fd a6R (a1J K):=fk F b3N fun _ _ _ _ _ _ hr nd=>b9 (o4 (a2P (C1 (z5 hr) (t7 (c7 0) b5) o6) (t7 (c7 0) b5) a5E))
variable(a4G:C9 P w K mg base 1 "deed_of" a6R (a1J K))
abbrev a3g:List Str:=[c6P]
theorem a9o:y7 [c6P,"found","row","deed"] a3g (j4 a3b):=by walk_at "sc"
include T a4G in
theorem a9t(F:Fun K "deeds" "Plan.deeds" a3b f fd):J1 P w K mg base CX0 2 f fd a3g (W7 K):=fk F a9o fun _ _ _ _ _ _ hr nd=>b6 (t8 1 nd b3w) (b6 (G9 PassesOwn.never rfl (F0 (a3M (c7 0))) (L1 2 nd) (b6 (t8 3 nd (o8 a4G hr (j9 (c7 2)))) (b9 (u5 (C1 a7k (c7 3) a5E) (b9 (a2z hr (c7 1) (c7 3) X3)) o0)))) (b9 (o4 (a0m (a9g rfl) rfl T.a2u C4 (j9 (c7 1))))))
variable(Q5:a2k P w K mg base 2 "deeds" c.F2 a3g (W7 K))
abbrev a2r:List Str:=["row"]
theorem a8l:y7 ["row","kind"] a2r (j4 a2q):=by walk_at "sc"
include T in
theorem a8y(F:Fun K c6Q c6Q a2q f fd):J1 P w K mg base CX0 1 f fd a2r (a0v K):=fk F a8l fun _ _ _ _ _ _ hr nd=>b6 (t8 1 nd (t7 (c7 0) b5)) (b6 (u5 (C1 (z5 hr) (c7 1) o6) (b9 (o4 (v8 (y8 (t7 (t7 (c7 0) b5) b5) (t7 (t7 (c7 0) b5) b5))))) o0) (b6 (u5 (C1 (z5 hr) (c7 1) o6) (b9 (o4 (v8 (j9 (t7 (c7 0) b5))))) o0) (b6 (u5 (Y7 a2D (c7 1) (J5 (y8 o6 o6)) rfl) (b9 (o4 (v8 (j9 (t7 (c7 0) b5))))) o0) (b9 (o4 (v8 L9))))))
variable(a1b:C9 P w K mg base 1 c6Q a2r (a0v K))
abbrev a5n:List Str:=["row"]
theorem b2l:y7 ["row","names","operand"] a5n (j4 a5f):=by walk_at "sc"
include T a1b in
theorem b2x(F:Fun K c6R c6R a5f f fd):J1 P w K mg base CX0 2 f fd a5n (a1Z K):=fk F b2l fun _ _ _ _ _ _ hr nd=>b6 (t8 1 nd (v8 L9)) (b6 (G9 PassesOwn.never rfl (F0 (o8 a1b hr (j9 (c7 0)))) (L1 2 nd) (b9 (u5 (T0 (a2y (T6 (j7 M0 rfl T.J8 u4 (y8 (c7 2) (T8 rfl T.b9G a2N rfl)))) (a1u (Y7 a7j (c7 2) (c7 1) rfl)))) (b9 (J9 (Y9 v0 E5 E4 Q1 (c7 1) (j9 (c7 2))))) o0))) (b9 (o4 (c7 1))))
variable(a3l:C9 P w K mg base 2 c6R a5n (a1Z K))
abbrev a8v:List Str:=["row"]
theorem b5S:y7 ["row"] a8v (j4 a8n):=by walk_at "sc"
include T in
theorem b6j(F:Fun K "set_by" "set_by" a8n f fd):J1 P w K mg base CX0 1 f fd a8v (a2F K):=fk F b5S fun _ _ _ _ _ _ hr nd=>b9 (o4 (a2P (Y7 a2D (t7 (c7 0) b5) (J5 (a2B o6 o6 o6)) rfl) (t7 (c7 0) b5) a5E))
variable(a4j:C9 P w K mg base 1 "set_by" a8v (a2F K))
abbrev a3f:List Str:=[c6P]
theorem a9n:y7 [c6P,"found","row"] a3f (j4 a3a):=by walk_at "sc"
include T a3l a4j in
theorem a9s(F:Fun K "names" "Plan.names" a3a f fd):J1 P w K mg base CX0 3 f fd a3f (W3 K):=fk F a9n fun _ _ _ _ _ _ hr nd=>b6 (t8 1 nd (v8 L9)) (b6 (G9 PassesOwn.never rfl (F0 (a3M (c7 0))) (L1 2 nd) (b6 (J9 (Y9 v0 a2L a2K a2Q (c7 1) (j9 (o8 a3l hr (j9 (c7 2)))))) (b9 (u5 (C1 a7k (o8 a4j hr (j9 (c7 2))) a5E) (b9 (J9 (Y9 v0 E5 E4 Q1 (c7 1) (j9 (o8 a4j hr (j9 (c7 2))))))) o0)))) (b9 (o4 (b9N rfl rfl T.a9c a1R rfl T.c5Y PyProof.Rows.boot_set (c7 1)))))
variable(Q4:a2k P w K mg base 3 "names" c.F2 a3f (W3 K))
abbrev a1M:List Str:=["things","at","least"]
theorem a7w:y7 ["things","at","least"] a1M (j4 a1K):=by walk_at "sc"
include T in
theorem a7y(F:Fun K c6S c6S a1K f fd):J1 P w K mg base CX0 1 f fd a1M (a0g K):=fk F a7w fun _ _ _ _ _ _ hr nd=>b6 (u5 (T0 (a0Y (Y0 (T6 (j7 M0 rfl T.J8 u4 (y8 (c7 0) (T8 rfl T.a2u C4 rfl))))) (Z9 (C1 a1E (j7 t9 rfl T.Q8 o7 (j9 (c7 0))) (c7 2))))) (b9 a1D) o0) (b9 (u5 (C1 a2E (j7 t9 rfl T.Q8 o7 (j9 (c7 0))) (U7 T.c4C rfl)) (b9 a1D) o0))
variable(a0G:C9 P w K mg base 1 c6S a1M (a0g K))
abbrev a6P:List Str:=[c6T]
theorem b3L:y7 [c6T] a6P (j4 a4y):=by walk_at "sc"
theorem b1t:M9 [c6T] (j4 a4y) (scF [ (".0",.local),("sign",.local),("LETTERS",.globalImplicit),("FIGURES",.globalImplicit)]) "sign" := by walk_at "c0"
include T in
theorem b4i(F:Fun K "is_name" "is_name" a4y f fd):J1 P w K mg base CX0 1 f fd a6P (V1 K):=fk F b3L fun _ _ _ _ _ _ hr nd=>b6 (u5 (T0 (a0Y (Y0 (T6 (j7 M0 rfl T.J8 u4 (y8 (c7 0) (T8 rfl T.b9G a2N rfl))))) (Z9 (Y0 (b3t a5F a5F b5 (j7 t9 rfl T.Q8 o7 (j9 (c7 0))) (U7 T.a9b rfl)))))) (b9 (o4 X3)) o0) (b9 (o4 (P0 (Y8 a2D (t7 (c7 0) b5) (U7 T.b0k rfl) rfl) (T7 (j7 (a7l rfl) rfl T.c2j a9B (j9 (K0 b1t rfl (b7m (c7 0)) (fun _ _ _ _ _=>F3) (fun _ _ _ _ _=>Y8 a2D (c7 0) (z9 F9 (U7 T.b0k rfl) (U7 T.b6W rfl)) rfl))))))))
variable(Z4:C9 P w K mg base 1 "is_name" a6P (V1 K))
abbrev a5o:List Str:=[c6T]
theorem b2m:y7 [c6T] a5o (j4 a5h):=by walk_at "sc"
include T in
theorem b2y(F:Fun K c6U c6U a5h f fd):J1 P w K mg base CX0 1 f fd a5o (a1f K):=fk F b2m fun _ _ _ _ _ _ hr nd=>b9 (o4 (P0 (j7 M0 rfl T.J8 u4 (y8 (c7 0) (T8 rfl T.c6a PyProof.Rows.boot_int rfl))) (T7 (b7o (j7 M0 rfl T.J8 u4 (y8 (c7 0) (T8 rfl T.c4D PyProof.Rows.boot_bool rfl)))))))
variable(a0l:C9 P w K mg base 1 c6U a5o (a1f K))
abbrev a5p:List Str:=[c6T]
theorem b2n:y7 [c6T] a5p (j4 a5i):=by walk_at "sc"
include T a0l in
theorem b2z(F:Fun K c6V c6V a5i f fd):J1 P w K mg base CX0 2 f fd a5p (a2a K):=fk F b2n fun _ _ _ _ _ _ hr nd=>b9 (o4 (P0 (o8 a0l hr (j9 (c7 0))) (T7 (a7U a5F a1E b5 (c7 0) (U7 T.c1O rfl)))))
variable(a3n:C9 P w K mg base 2 c6V a5p (a2a K))
abbrev a3c:List Str:=[c6T]
theorem a9k:y7 [c6T] a3c (j4 a2X):=by walk_at "sc"
include T Z4 a3n in
theorem a9p(F:Fun K c6W c6W a2X f fd):J1 P w K mg base CX0 3 f fd a3c (R6 K):=fk F a9k fun _ _ _ _ _ _ hr nd=>b9 (o4 (b9O (o8 Z4 hr (j9 (c7 0))) (T7 (o8 a3n hr (j9 (c7 0))))))
variable(O5:C9 P w K mg base 3 c6W a3c (R6 K))
abbrev a6Q:List Str:=[c6T]
theorem b3M:y7 [c6T] a6Q (j4 a6H):=by walk_at "sc"
include T O5 in
theorem b4j(F:Fun K "is_deed" "is_deed" a6H f fd):J1 P w K mg base CX0 4 f fd a6Q (a2U K c):=fk F b3M fun _ _ _ _ _ _ hr nd=>b6 (u5 (T0 (a0Y (Y0 (T6 (j7 M0 rfl T.J8 u4 (y8 (c7 0) (T8 rfl T.b5t a8Y rfl))))) (Z9 (C1 (b1P hr) (j7 t9 rfl T.Q8 o7 (j9 (c7 0))) b5)))) (b9 (o4 X3)) o0) (b9 (o4 (P0 (Y8 b5C (t7 (c7 0) b5) (U7 T.b1H rfl) rfl) (P0 (o8 O5 hr (j9 (t7 (c7 0) b5))) (T7 (o8 O5 hr (j9 (t7 (c7 0) b5))))))))
variable(a4F:C9 P w K mg base 4 "is_deed" a6Q (a2U K c))
abbrev a8x:List Str:=[c6T]
theorem b5U:y7 [c6T,"kind","rest"] a8x (j4 a8o):=by walk_at "sc"
include T Z4 O5 a4F in
theorem b6l(F:Fun K "is_row" "is_row" a8o f fd):J1 P w K mg base CX0 5 f fd a8x (a4w K c):=fk F b5U fun _ _ _ _ _ _ hr nd=>b6 (u5 (T0 (a0Y (Y0 (T6 (j7 M0 rfl T.J8 u4 (y8 (c7 0) (T8 rfl T.b5t a8Y rfl))))) (Z9 (C1 (z5 hr) (j7 t9 rfl T.Q8 o7 (j9 (c7 0))) b5)))) (b9 (o4 X3)) o0) (b6 (t8 1 nd (t7 (c7 0) b5)) (b6 (t8 2 nd (a2O b3s (c7 0) (a4p b5) a4q)) (b6 (u5 (C1 (z5 hr) (c7 1) o6) (b9 (o4 (P0 (a6w (z5 hr) (j7 t9 rfl T.Q8 o7 (j9 (c7 2))) b5) (P0 (o8 Z4 hr (j9 (t7 (c7 2) b5))) (T7 (o8 a4F hr (j9 (t7 (c7 2) b5)))))))) o0) (b6 (u5 (C1 (z5 hr) (c7 1) o6) (b9 (o4 (P0 (a6w (z5 hr) (j7 t9 rfl T.Q8 o7 (j9 (c7 2))) b5) (P0 (o8 Z4 hr (j9 (t7 (c7 2) b5))) (T7 (o8 O5 hr (j9 (t7 (c7 2) b5)))))))) o0) (b6 (u5 (C1 (z5 hr) (c7 1) o6) (b9 (o4 (P0 (a6w (z5 hr) (j7 t9 rfl T.Q8 o7 (j9 (c7 2))) b5) (T7 (o8 Z4 hr (j9 (t7 (c7 2) b5))))))) o0) (b6 (u5 (Y7 a2D (c7 1) (J5 (y8 o6 o6)) rfl) (b9 (o4 (P0 (a6w (z5 hr) (j7 t9 rfl T.Q8 o7 (j9 (c7 2))) b5) (T7 (o8 O5 hr (j9 (t7 (c7 2) b5))))))) o0) (b9 (o4 (P0 (a6w (z5 hr) (c7 1) o6) (T7 (a6w (z5 hr) (j7 t9 rfl T.Q8 o7 (j9 (c7 2))) b5)))))))))))
variable(a6i:C9 P w K mg base 5 "is_row" a8x (a4w K c))
abbrev a3e:List Str:=["rights"]
theorem a9m:y7 ["rights","k","right"] a3e (j4 a2Z):=by walk_at "sc"
include T in
theorem a9r(F:Fun K c6X c6X a2Z f fd):J1 P w K mg base CX0 1 f fd a3e (a0b K):=fk F a9m fun _ _ _ _ _ _ hr nd=>b9 (G9 PassesOwn.never rfl (a4r rfl T.a2m (j9 (c7 0))) (a3L rfl (R5 (L1 1 nd) (R5 (L1 2 nd) a2A))) (b9 (u5 (Y0 (T6 (c7 2))) (b9 a1D) o0)))
variable(V2:C9 P w K mg base 1 c6X a3e (a0b K))
abbrev a5q:List Str:=[c6T,"many"]
theorem b2o:y7 [c6T,"many"] a5q (j4 a5j):=by walk_at "sc"
include T a0l in
theorem b2A(F:Fun K c6Y c6Y a5j f fd):J1 P w K mg base CX0 2 f fd a5q (a2b K):=fk F b2o fun _ _ _ _ _ _ hr nd=>b9 (o4 (P0 (o8 a0l hr (j9 (c7 0))) (T7 (a7U a5F a1E b5 (c7 0) (c7 1)))))
variable(a3o:C9 P w K mg base 2 c6Y a5q (a2b K))
abbrev a4a:List Str:=["row",c6Z,"many"]
theorem b0A:y7 ["row",c6Z,"many","wanted"] a4a (j4 a2c):=by walk_at "sc"
theorem a8N:M9 ["row",c6Z,"many","wanted"] (j4 a2c) (scF [ (".0",.local),(c7a,.local),(c6Y,.globalImplicit),("many",.free)]) c7a := by walk_at "c0"
include T a3o in
theorem b1a(F:Fun K c7b c7b a2c f fd):J1 P w K mg base CX0 3 f fd a4a (a1p K):=fk F b0A fun _ _ _ _ _ _ hr nd=>b6 (u5 (Y0 (T6 (j7 M0 rfl T.J8 u4 (y8 (c7 1) (T8 rfl T.a2u C4 rfl))))) (b9 (o4 X3)) o0) (b6 (t8 3 nd (a2P (C1 (z5 hr) (t7 (c7 0) b5) o6) (J5 (j9 b5)) (J5 (y8 b5 b5)))) (b9 (o4 (P0 (Y8 a2D (j7 t9 rfl T.Q8 o7 (j9 (c7 1))) (c7 3) rfl) (T7 (j7 (a7l rfl) rfl T.c2j a9B (j9 (K0 a8N rfl (F0 (c7 1)) (fun _ _ _ _ _=>F3) (fun _ _ _ _ _=>o8 a3o hr (y8 (c7 0) (c7 3)))))))))))
variable(a2i:C9 P w K mg base 3 c7b a4a (a1p K))
abbrev a2s:List Str:=[c7c,c7d]
theorem a8m:y7 [c7c,c7d] a2s (j4 a1a):=by walk_at "sc"
theorem a6Y:a3r [c7c,c7d] (j4 a1a) (scF [ (".0",.local),("row",.local),(c6Z,.local),(c7b,.globalImplicit),("len",.globalImplicit),(c7c,.free)]) "row" c6Z := by walk_at "c2"
include T V2 a2i in
theorem a8z(F:Fun K c7e c7e a1a f fd):J1 P w K mg base CX0 4 f fd a2s (a0w K):=fk F a8m fun _ _ _ _ _ _ hr nd=>b6 (u5 (T0 (a0Y (Y0 (T6 (j7 M0 rfl T.J8 u4 (y8 (c7 1) (T8 rfl T.a2u C4 rfl))))) (Z9 (C1 (b1P hr) (j7 t9 rfl T.Q8 o7 (j9 (c7 1))) (j7 t9 rfl T.Q8 o7 (j9 (c7 0))))))) (b9 a1D) o0) (b9 (J9 (o8 V2 hr (j9 (a7T a6Y rfl (b7l rfl T.c5X (y8 (c7 0) (c7 1))) (fun _ _ _ _ _=>F3) (fun _ _ _ _ _=>o8 a2i hr (a2B (c7 0) (c7 1) (j7 t9 rfl T.Q8 o7 (j9 (c7 2))))))))))
variable(a1c:C9 P w K mg base 4 c7e a2s (a0w K))
abbrev a6N:List Str:=["begins","leads"]
theorem b3J:y7 ["begins","leads","seen","waiting",c7a] a6N (j4 a6E):=by walk_at "sc"
include T in
theorem b4g(F:Fun K "reached" "reached" a6E f fd):J1 P w K mg base CX0 1 f fd a6N (a1I K):=fk F b3J fun _ _ _ _ _ _ hr nd=>b6 (t8 2 nd a5b) (b6 (t8 3 nd (a0m a1n rfl T.a2u C4 (j9 (c7 0)))) (b6 (b3u PassesOwn.never (C1 a2E (j7 t9 rfl T.Q8 o7 (j9 (c7 3))) b5) (b6 (t8 4 nd (b7r v0 PySem.F.slot_list_pop PySem.F.type_list_pop b5E (c7 3))) (b9 (u5 (a3J hr (c7 4) (c7 2) rfl) (b6 (a2z hr (c7 2) (c7 4) X3) (b9 (J9 (Y9 v0 a2L a2K a2Q (c7 3) (j9 (t7 (c7 1) (c7 4))))))) o0)))) (b9 (o4 (c7 2)))))
variable(a2I:C9 P w K mg base 1 "reached" a6N (a1I K))
abbrev a8u:List Str:=[c7d]
theorem b5R:y7 [c7d,"sources",c7a,c6Z,"target"] a8u (j4 a5W):=by walk_at "sc"
theorem b2X:M9 [c7d,"sources",c7a,c6Z,"target"] (j4 a5W) (scF [(".0",.local),(c6Z,.local)]) c6Z := by walk_at "c0"
include T in
theorem b6i(F:Fun K "turned" "turned" a5W f fd):J1 P w K mg base CX0 1 f fd a8u (a4u K):=fk F b5R fun _ _ _ _ _ _ hr nd=>b6 (a5D (n:=1) nd rfl rfl b2X rfl (F0 (c7 0)) (fun _ _ _ _ _=>F3) (fun _ _ _ _ _=>v8 L9)) (b6 (G9 PassesOwn.never rfl (a4r rfl T.a2m (j9 (c7 0))) (a3L rfl (R5 (L1 2 nd) (R5 (L1 3 nd) a2A))) (b9 (G9 PassesOwn.never rfl (F0 (c7 3)) (L1 4 nd) (b9 (J9 (Y9 v0 E5 E4 Q1 (t7 (c7 1) (c7 4)) (j9 (c7 2)))))))) (b9 (o4 (c7 1))))
variable(a6g:C9 P w K mg base 1 "turned" a8u (a4u K))
abbrev a5l:List Str:=[c7d]
theorem b2j:y7 [c7d] a5l (j4 a2V):=by walk_at "sc"
theorem a9w:a3r [c7d] (j4 a2V) (scF [ (".0",.local),(c7a,.local),(c6Z,.local),("len",.globalImplicit)]) c7a c6Z := by walk_at "c2"
include T in
theorem b2v(F:Fun K c7f c7f a2V f fd):J1 P w K mg base CX0 1 f fd a5l (a1X K):=fk F b2j fun _ _ _ _ _ _ hr nd=>b9 (o4 (a7T a9w rfl (a4r rfl T.a2m (j9 (c7 0))) (fun _ _ _ _ _=>b5v (C1 (z5 hr) (j7 t9 rfl T.Q8 o7 (j9 (c7 1))) b5)) (fun _ _ _ _ _=>c7 0)))
variable(a3j:C9 P w K mg base 1 c7f a5l (a1X K))
abbrev a3d:List Str:=[c7d]
theorem a9l:y7 [c7d,"begun","ending",c7a] a3d (j4 a2Y):=by walk_at "sc"
include T a2I a6g a3j in
theorem a9q(F:Fun K c7g c7g a2Y f fd):J1 P w K mg base CX0 2 f fd a3d (a0Z K):=fk F a9l fun _ _ _ _ _ _ hr nd=>b6 (t8 1 nd (o8 a2I hr (y8 (v8 (j9 b5)) (c7 0)))) (b6 (t8 2 nd (o8 a2I hr (y8 (o8 a3j hr (j9 (c7 0))) (o8 a6g hr (j9 (c7 0)))))) (b9 (G9 PassesOwn.never rfl (F7 rfl T.X4 (j9 (j7 t9 rfl T.Q8 o7 (j9 (c7 0))))) (L1 3 nd) (b9 (u5 (T0 (a0Y (a3J hr (c7 3) (c7 1) rfl) (Z9 (a3J hr (c7 3) (c7 2) rfl)))) (b9 a1D) o0)))))
variable(a1s:C9 P w K mg base 2 c7g a3d (a0Z K))
abbrev a5m:List Str:=[c7d]
theorem b2k:y7 [c7d,"steps",c7a,c6Z] a5m (j4 a2W):=by walk_at "sc"
theorem a9x:M9 [c7d,"steps",c7a,c6Z] (j4 a2W) (scF [ (".0",.local),("at",.local),(c7a,.free)]) "at" := by walk_at "c0"
include T in
theorem b2w(F:Fun K c7h c7h a2W f fd):J1 P w K mg base CX0 1 f fd a5m (a1Y K c):=fk F b2k fun _ _ _ _ _ _ hr nd=>b6 (t8 1 nd (v8 (j9 (U7 T.a6s rfl)))) (b6 (G9 PassesOwn.never rfl (a4r rfl T.a2m (j9 (c7 0))) (a3L rfl (R5 (L1 2 nd) (R5 (L1 3 nd) a2A))) (b9 (J9 (Y9 v0 a2L a2K a2Q (c7 1) (j9 (K0 a9x rfl (F7 rfl T.X4 (j9 (j7 t9 rfl T.Q8 o7 (j9 (c7 3))))) (fun _ _ _ _ _=>F3) (fun _ _ _ _ _=>J5 (y8 (c7 3) (c7 0))))))))) (b9 (o4 (c7 1))))
variable(a3k:C9 P w K mg base 1 c7h a5m (a1Y K c))
abbrev a1j:List Str:=[c6P,"step"]
theorem a6D:y7 [c6P,"step"] a1j (j4 a1i):=by walk_at "sc"
include T in
theorem a6S(F:Fun K "leads_to" "Plan.leads_to" a1i f fd):J1 P w K mg base CX0 1 f fd a1j (Z2 K c):=fk F a6D fun _ _ _ _ _ _ hr nd=>b6 (u5 (Y7 (b5D hr) (c7 1) (U7 T.a6s rfl) (a4d _)) (b9 (o4 b5)) o0) (b9 (o4 (t7 (t7 (a3M (c7 0)) (t7 (c7 1) b5)) (t7 (c7 1) b5))))
variable(a0h:a2k P w K mg base 1 "leads_to" c.F2 a1j (Z2 K c))
abbrev a4c:List Str:=[c6P,c7c,c7d]
theorem b0C:y7 [c6P,c7c,c7d,"step"] a4c (j4 a0o):=by walk_at "sc"
theorem a8Q:M9 [c6P,c7c,c7d,"step"] (j4 a0o) (scF [ (".0",.local),("row",.local),("is_row",.globalImplicit)]) "row" := by walk_at "c0"
theorem a8P:M9 [c6P,c7c,c7d,"step"] (j4 a0o) (scF [ (".0",.local),(c6Z,.local),("list",.globalImplicit)]) c6Z := by walk_at "c0"
theorem a8O:M9 [c6P,c7c,c7d,"step"] (j4 a0o) (scF [(".0",.local),("row",.local)]) "row" := by walk_at "c0"
include T a0G a6i V2 a1c a1s a3k a0h in
theorem b1c(F:Fun K c6J "Plan.__init__" a0o f fd):J1 P w K mg base CX0 6 f fd a4c (Q3 K c):=fk F b0C fun _ _ _ _ _ _ hr nd=>b6 (J9 (o8 a0G hr (a2B (c7 1) b5 b5))) (b6 (J9 (o8 V2 hr (j9 (K0 a8Q rfl (F0 (c7 1)) (fun _ _ _ _ _=>F3) (fun _ _ _ _ _=>o8 a6i hr (j9 (c7 0))))))) (b6 (J9 (o8 a1c hr (y8 (c7 1) (c7 2)))) (b6 (J9 (o8 a1s hr (j9 (c7 2)))) (b6 (a7R (c7 0) (a0m a1n rfl T.a2u C4 (j9 (c7 1)))) (b6 (a7R (c7 0) (K0 a8P rfl (F0 (c7 2)) (fun _ _ _ _ _=>F3) (fun _ _ _ _ _=>a0m a1n rfl T.a2u C4 (j9 (c7 0))))) (b6 (a7R (c7 0) (K0 a8O rfl (F0 (c7 1)) (fun _ _ _ _ _=>F3) (fun _ _ _ _ _=>v8 L9))) (b9 (G9 PassesOwn.never rfl (F0 (o8 a3k hr (j9 (a3M (c7 0))))) (L1 3 nd) (b9 (J9 (Y9 v0 E5 E4 Q1 (t7 (a3M (c7 0)) (b7p a0h hr (by decide) (c7 0) (j9 (c7 3)))) (j9 (c7 3)))))))))))))
variable(a3h:b3i P w K mg base 6 "Plan" c.F2 a4c (Q3 K c))
abbrev b4d:List Str:=[]
theorem c0e:y7 [c7i,c7j] b4d (j4 a6G):=by walk_at "sc"
theorem b6I:M9 [c7i,c7j] (j4 a6G) (scF [(".0",.local),(c7k,.local)]) c7k := by walk_at "c0"
theorem b6H:M9 [c7i,c7j] (j4 a6G) (scF [(".0",.local),(c7k,.local)]) c7k := by walk_at "c0"
theorem b6G:M9 [c7i,c7j] (j4 a6G) (scF [(".0",.local),(c7l,.local)]) c7l := by walk_at "c0"
include T Q5 Q4 a3h in
theorem c0Z(F:Fun K c7m c7m a6G f fd):J1 P w K mg base CX0 8 f fd b4d (a7F K c):=fk F c0e fun _ _ _ _ _ _ hr nd=>b6 (a5D (n:=0) nd rfl rfl b6I rfl (F7 rfl T.X4 (j9 b5)) (fun _ _ _ _ _=>F3) (fun _ _ _ _ _=>J5 (a2B o6 o6 (J5 (a2B o6 o6 (c7 0)))))) (b6 (t8 1 nd (b0n a3h hr (y8 (c7 0) (z9 F9 (K0 b6H rfl (F7 rfl T.X4 (j9 b5)) (fun _ _ _ _ _=>F3) (fun _ _ _ _ _=>v8 (j9 (z9 F9 (c7 0) b5)))) (v8 (j9 (v8 L9))))))) (b9 (o4 (P0 (Y8 (a4s hr) (a1v Q5 hr (by decide) (c7 1)) (K0 b6G rfl (F0 (c7 0)) (fun _ _ _ _ _=>F3) (fun _ _ _ _ _=>t7 (c7 0) b5)) (a4d _)) (T7 (Y8 (a4s hr) (a1v Q4 hr (by decide) (c7 1)) (v8 (y8 o6 o6)) (a4d _)))))))
variable(b1z:C9 P w K mg base 8 c7m b4d (a7F K c))
abbrev b8C:List Str:=[c6M,c6N]
theorem c2w:y7 [c6M,c6N,c7n,c7k,"_law_near","_law_some","_law_way"] b8C (j4 b7X):=by walk_at "sc"
include T A4 in
theorem c3P(F:Fun K c7o c7o b7X f fd):J1 P w K mg base CX0 2 f fd b8C (b0w K):=fk F c2w fun _ _ _ _ _ _ hr nd=>b6 (t8 2 nd (v8 L9)) (b6 (G9 PassesOwn.never rfl (F7 rfl T.X4 (j9 (c7 1))) (L1 3 nd) (b6 (t8 4 nd (j7 (b1S rfl) rfl T.c5Z PyProof.Rows.boot_min (y8 (z9 F9 (c7 3) b5) (z9 a2C (c7 1) b5)))) (b6 (t8 5 nd (v8 (y8 (c7 4) (o8 A4 hr (y8 (c7 0) (c7 1)))))) (b6 (t8 6 nd (o8 A4 hr (y8 (c7 0) b5))) (b6 (u5 (C1 a1E (c7 6) b5) (b9 (t8 5 nd (v8 (y8 (t7 (c7 5) b5) (c7 4))))) o0) (b6 (u5 (C1 (z5 hr) (c7 6) b5) (b9 (t8 5 nd (v8 (y8 (t7 (c7 5) b5) (o8 A4 hr (y8 (c7 0) (c7 1))))))) o0) (b6 (u5 (T0 (a0Y (T0 (a2y (C1 a2E (c7 6) b5) (a1u (C1 a1E (c7 6) b5)))) (Z9 (C1 (z5 hr) (c7 1) b5)))) (b9 (t8 5 nd (v8 (j9 (c7 4))))) o0) (b6 (u5 (T0 (a2y (C1 (z5 hr) (c7 6) b5) (a1u (C1 a2E (c7 1) b5)))) (b9 (t8 5 nd (v8 (j9 (t7 (c7 5) b5))))) o0) (b6 (u5 (T0 (a0Y (C1 (z5 hr) (c7 3) (z9 a2C (c7 1) b5)) (Z9 (T0 (a2y (C1 (z5 hr) (c7 6) b5) (a1u (C1 (z5 hr) (o8 A4 hr (y8 (c7 0) b5)) b5))))))) (b9 (t8 5 nd (v8 L9))) o0) (b9 (J9 (Y9 v0 E5 E4 Q1 (c7 2) (j9 (c7 5)))))))))))))) (b9 (o4 (c7 2))))
variable(b5n:C9 P w K mg base 2 c7o b8C (b0w K))
abbrev a8w:List Str:=[c7n]
theorem b5T:y7 [c7n,c7p,c7q,c7k,c7r,c7s,c7t] a8w (j4 a2G):=by walk_at "sc"
theorem b3b:M9 [c7n,c7p,c7q,c7k,c7r,c7s,c7t] (j4 a2G) (scF [ (".0",.local),(c7s,.local),(c7p,.free)]) c7s := by walk_at "c0"
theorem b3a:M9 [c7n,c7p,c7q,c7k,c7r,c7s,c7t] (j4 a2G) (scF [ (".0",.local),(c7k,.local),("len",.globalImplicit),(c7p,.free),(c7n,.free)]) c7k := by walk_at "c0"
theorem b2Z:M9 [c7n,c7p,c7q,c7k,c7r,c7s,c7t] (j4 a2G) (scF [ (".0",.local),(c7k,.local),(c7n,.free),(c7t,.free)]) c7k := by walk_at "c0"
theorem b2Y(env:Env):M9 [c7k,c7n,c7p,c7q,"._law_k",c7r,c7s,c7t] (a6u (scF [ (".0",.local),(c7k,.local),(c7n,.free),(c7t,.free)]) env) (scF [ (".0",.local),(c7s,.local),(c7t,.free)]) c7s := by walk_at "c1"
include T in
theorem b6k(F:Fun K c7u c7u a2G f fd):J1 P w K mg base CX0 1 f fd a8w (a4v K):=fk F b5T fun _ _ _ _ _ _ hr nd=>b6 (t8 1 nd a5b) (b6 (G9 PassesOwn.never rfl (F7 rfl T.X4 (j9 (j7 t9 rfl T.Q8 o7 (j9 (c7 0))))) (L1 2 nd) (b9 (G9 PassesOwn.never rfl (F7 rfl T.X4 (j9 (j7 t9 rfl T.Q8 o7 (j9 (c7 0))))) (L1 3 nd) (b9 (u5 (T0 (a0Y (C1 (z5 hr) (t7 (c7 0) (c7 3)) (v8 L9)) (Z9 (T6 (j7 (b1T rfl) rfl T.c6b PyProof.Rows.boot_any (j9 (K0 b3b rfl (F0 (t7 (c7 0) (c7 3))) (fun _ _ _ _ _=>F3) (fun _ _ _ _ _=>b7q hr (c7 0) (c7 2) rfl)))))))) (b9 (a2z hr (c7 1) (c7 3) X3)) o0))))) (b6 (t8 0 nd (K0 b3a rfl (F7 rfl T.X4 (j9 (j7 t9 rfl T.Q8 o7 (j9 (c7 0))))) (fun _ _ _ _ _=>F3) (fun _ _ _ _ _=>a2P (b1O hr (c7 0) (c7 2) rfl) (t7 (c7 1) (c7 0)) (z9 F9 (v8 (j9 (z9 a2C (j7 t9 rfl T.Q8 o7 (j9 (c7 1))) b5))) (a2O b3s (t7 (c7 1) (c7 0)) (a4p b5) a4q))))) (b6 (t8 4 nd (b5z (b3v b5 X3 b5x))) (b6 (G9 PassesOwn.never rfl (F7 rfl T.X4 (j9 (j7 t9 rfl T.Q8 o7 (j9 (c7 0))))) (L1 2 nd) (b9 (G9 PassesOwn.never rfl (F7 rfl T.X4 (j9 (j7 t9 rfl T.Q8 o7 (j9 (c7 0))))) (L1 3 nd) (b9 (u5 (b1O hr (c7 3) (c7 4) rfl) (b9 (G9 PassesOwn.never rfl (F0 (t7 (c7 0) (c7 3))) (L1 5 nd) (b9 (a2z hr (c7 4) (c7 5) X3)))) o0))))) (b6 (t8 6 nd (j7 a7V rfl T.a9c a1R (j9 (a0m (a9h rfl) rfl T.a2u C4 (j9 (c7 4)))))) (b9 (o4 (K0 b2Z rfl (F0 (c7 6)) (fun _ _ _ _ _=>F3) (fun _ _ _ _ _=>K0 (b2Y _) rfl (F0 (t7 (c7 1) (c7 0))) (fun _ _ _ _ _=>F3) (fun _ _ _ _ _=>Y9 v0 b1I PySem.F.type_list_index b1Q (c7 8) (j9 (c7 0))))))))))))
variable(a6h:C9 P w K mg base 1 c7u a8w (a4v K))
abbrev b4c:List Str:=[c6M]
theorem c0d:y7 [c6M,"_law_letters","_law_signs"] b4c (j4 b0F):=by walk_at "sc"
theorem b6F:M9 [c6M,"_law_letters","_law_signs"] (j4 b0F) (scF [ (".0",.local),(c7k,.local),(c6O,.globalImplicit),(c6M,.free),("_law_signs",.free)]) c7k := by walk_at "c0"
include T A4 in
theorem c0Y(F:Fun K c7v c7v b0F f fd):J1 P w K mg base CX0 2 f fd b4c (a7E K):=fk F c0d fun _ _ _ _ _ _ hr nd=>b6 (t8 1 nd o6) (b6 (t8 2 nd (z9 F9 (c7 1) o6)) (b9 (o4 (z9 F9 (t7 (c7 1) (o8 A4 hr (y8 (c7 0) b5))) (Y9 PySem.F.plainAttrs_str PySem.F.slot_str_join PySem.F.type_str_join b3y o6 (j9 (K0 b6F rfl (F7 rfl T.X4 (j9 (o8 A4 hr (y8 (c7 0) b5)))) (fun _ _ _ _ _=>F3) (fun _ _ _ _ _=>t7 (c7 3) (o8 A4 hr (y8 (c7 1) b5))))))))))
variable(b1y:C9 P w K mg base 2 c7v b4c (a7E K))
abbrev b0U:List Str:=[c6M]
theorem b7Q:y7 [c6M,"_law_menu","_law_first","_law_by",c7w,c7k,"_law_name_here"] b0U (j4 b0E):=by walk_at "sc"
include T A4 b1y in
theorem b8H(F:Fun K c7x c7x b0E f fd):J1 P w K mg base CX0 3 f fd b0U (a3P K):=fk F b7Q fun _ _ _ _ _ _ hr nd=>b6 (t8 1 nd (v8 (E2 o6 (E2 o6 (E2 o6 (b7s o6 o6 o6 o6 o6)))))) (b6 (t8 1 nd (z9 F9 (c7 1) (v8 (E2 o6 (E2 o6 (E2 o6 (b7s o6 o6 o6 o6 o6))))))) (b6 (t8 2 nd (o8 A4 hr (y8 (c7 0) b5))) (b6 (t8 3 nd (z9 F9 b5 (z9 a1w b5 (o8 A4 hr (y8 (c7 0) b5))))) (b6 (t8 4 nd (v8 L9)) (b6 (G9 PassesOwn.never rfl (F7 rfl T.X4 (j9 (z9 F9 b5 (o8 A4 hr (y8 (c7 0) b5))))) (L1 5 nd) (b6 (t8 6 nd (t7 (c7 1) (z9 W2 (z9 F9 (c7 2) (z9 a1w (c7 5) (c7 3))) b5))) (b6 (u5 (C1 (z5 hr) (o8 A4 hr (y8 (c7 0) b5)) b5) (b9 (t8 6 nd (o8 b1y hr (j9 (c7 0))))) o0) (b9 (u5 (Y7 a7j (c7 6) (c7 4) rfl) (b9 (J9 (Y9 v0 E5 E4 Q1 (c7 4) (j9 (c7 6))))) o0))))) (b9 (o4 (c7 4))))))))
variable(a3m:C9 P w K mg base 3 c7x b0U (a3P K))
abbrev b0T:List Str:=[c6M]
theorem b7P:y7 [c6M] b0T (j4 b0D):=by walk_at "sc"
include T A4 in
theorem b8G(F:Fun K c7y c7y b0D f fd):J1 P w K mg base CX0 2 f fd b0T (a5S K):=fk F b7P fun _ _ _ _ _ _ hr nd=>b9 (o4 (t7 (v8 (b4I b5 b5 (z9 a2C (z9 a2C (z9 b5A b5 b5) b5) (o8 A4 hr (y8 (c7 0) b5))) (o8 A4 hr (y8 (c7 0) b5)))) (o8 A4 hr (y8 (c7 0) b5))))
variable(a7M:C9 P w K mg base 2 c7y b0T (a5S K))
abbrev a6O:List Str:=[c6M,c7w]
theorem b3K:y7 [c6M,c7w] a6O (j4 a6F):=by walk_at "sc"
include T A4 a7M in
theorem b4h(F:Fun K c7z c7z a6F f fd):J1 P w K mg base CX0 3 f fd a6O (Y1 K):=fk F b3K fun _ _ _ _ _ _ hr nd=>b6 (u5 (C1 (z5 hr) (o8 A4 hr (y8 (c7 0) b5)) b5) (b9 (o4 (o8 a7M hr (j9 (c7 0))))) o0) (b9 (o4 (t7 (c7 1) (o8 A4 hr (y8 (c7 0) (j7 t9 rfl T.Q8 o7 (j9 (c7 1))))))))
variable(X0:C9 P w K mg base 3 c7z a6O (Y1 K))
abbrev b4e:List Str:=[c6M,c7w]
theorem c0f:y7 [c6M,c7w,"_law_kind",c7s,"_law_other"] b4e (j4 b3S):=by walk_at "sc"
include T A4 X0 in
theorem c1a(F:Fun K c7A c7A b3S f fd):J1 P w K mg base CX0 4 f fd b4e (a5U K):=fk F c0f fun _ _ _ _ _ _ hr nd=>b6 (t8 2 nd (t7 (v8 (b7s o6 o6 o6 o6 o6)) (o8 A4 hr (y8 (c7 0) b5)))) (b6 (t8 3 nd (o8 X0 hr (y8 (c7 0) (c7 1)))) (b6 (t8 4 nd (o8 X0 hr (y8 (c7 0) (c7 1)))) (b6 (u5 (C1 (z5 hr) (o8 A4 hr (y8 (c7 0) b5)) b5) (b9 (t8 4 nd (c7 3))) o0) (b9 (o4 (J5 (a2B (c7 2) (c7 3) (c7 4))))))))
variable(a5v:C9 P w K mg base 4 c7A b4e (a5U K))
abbrev b8B:List Str:=[c6M,c7w,c7B,c6N]
theorem c2v:y7 [c6M,c7w,c7B,c6N,"_law_way","_law_name_here"] b8B (j4 b7V):=by walk_at "sc"
include T A4 X0 in
theorem c3O(F:Fun K c7C c7C b7V f fd):J1 P w K mg base CX0 4 f fd b8B (a8g K):=fk F c2v fun _ _ _ _ _ _ hr nd=>b6 (u5 (C1 (z5 hr) (c7 3) b5) (b9 (o4 (J5 (y8 o6 (o8 X0 hr (y8 (c7 0) (c7 1))))))) o0) (b6 (t8 4 nd (o8 A4 hr (y8 (c7 0) b5))) (b6 (t8 5 nd (t7 (c7 1) (o8 A4 hr (y8 (c7 0) (j7 t9 rfl T.Q8 o7 (j9 (c7 1))))))) (b6 (u5 (C1 a1E (c7 4) b5) (b9 (o4 (J5 (a2B o6 (c7 5) (t7 (c7 2) (o8 A4 hr (y8 (c7 0) (j7 t9 rfl T.Q8 o7 (j9 (c7 2)))))))))) o0) (b6 (u5 (C1 (z5 hr) (c7 4) b5) (b9 (o4 (J5 (a2B o6 (c7 5) (o8 X0 hr (y8 (c7 0) (c7 1))))))) o0) (b6 (u5 (C1 (z5 hr) (c7 4) b5) (b9 (o4 (J5 (y8 o6 (c7 5))))) o0) (b9 (o4 (t7 (v8 (y8 (J5 (y8 o6 (o8 X0 hr (y8 (c7 0) (c7 1))))) (J5 (j9 o6)))) (o8 A4 hr (y8 (c7 0) b5))))))))))
variable(a8S:C9 P w K mg base 4 c7C b8B (a8g K))
abbrev b0V:List Str:=[c6M]
theorem b7S:y7 [c6M,c6N,c7n,c7w,c7B] b0V (j4 a5Y):=by walk_at "sc"
theorem b4C:M9 [c6M,c6N,c7n,c7w,c7B] (j4 a5Y) (scF [ (".0",.local),(c7k,.local),(c7A,.globalImplicit),(c6M,.free),(c7w,.free)]) c7k := by walk_at "c0"
theorem b4B:M9 [c6M,c6N,c7n,c7w,c7B] (j4 a5Y) (scF [ (".0",.local),("_law_some",.local),(c7C,.globalImplicit),("len",.globalImplicit),(c6M,.free),(c7w,.free),(c7B,.free)]) "_law_some" := by walk_at "c0"
include T A4 b5n a6h a3m a5v a8S in
theorem b8I(F:Fun K c7D c7D a5Y f fd):J1 P w K mg base CX0 5 f fd b0V (a3Q K):=fk F b7S fun _ _ _ _ _ _ hr nd=>b6 (t8 1 nd (z9 F9 b5 (o8 A4 hr (y8 (c7 0) b5)))) (b6 (u5 (C1 (z5 hr) (o8 A4 hr (y8 (c7 0) b5)) b5) (b9 (t8 1 nd (z9 F9 b5 (o8 A4 hr (y8 (c7 0) b5))))) o0) (b6 (t8 2 nd (o8 a6h hr (j9 (o8 b5n hr (y8 (c7 0) (c7 1)))))) (b6 (t8 3 nd (o8 a3m hr (j9 (c7 0)))) (b6 (t8 4 nd (K0 b4C rfl (F7 rfl T.X4 (j9 (z9 F9 b5 (o8 A4 hr (y8 (c7 0) b5))))) (fun _ _ _ _ _=>F3) (fun _ _ _ _ _=>o8 a5v hr (y8 (c7 1) (c7 4))))) (b9 (o4 (J5 (y8 (K0 b4B rfl (F0 (c7 2)) (fun _ _ _ _ _=>F3) (fun _ _ _ _ _=>o8 a8S hr (b4I (c7 1) (c7 4) (c7 5) (j7 t9 rfl T.Q8 o7 (j9 (c7 0)))))) (c7 2)))))))))
variable(a6j:C9 P w K mg base 5 c7D b0V (a3Q K))
abbrev b0W:List Str:=[c7i]
theorem b7T:y7 [c7i,"_law_found",c7l] b0W (j4 b0I):=by walk_at "sc"
include T in
theorem b8J(F:Fun K c7E c7E b0I f fd):J1 P w K mg base CX0 1 f fd b0W (a5T K):=fk F b7T fun _ _ _ _ _ _ hr nd=>b6 (t8 1 nd (v8 L9)) (b6 (G9 PassesOwn.never rfl (F0 (c7 0)) (L1 2 nd) (b9 (u5 (T0 (a2y (C1 (z5 hr) (t7 (c7 2) b5) o6) (a1u (Y7 (b3x hr) (t7 (c7 2) b5) (c7 1) rfl)))) (b9 (J9 (Y9 v0 E5 E4 Q1 (c7 1) (j9 (t7 (c7 2) b5))))) o0))) (b9 (o4 (c7 1))))
variable(a7N:C9 P w K mg base 1 c7E b0W (a5T K))
abbrev a4b:List Str:=[c7i]
theorem b0B:y7 [c7i,"_law_found",c7l,"_law_parts",c7s] a4b (j4 a3T):=by walk_at "sc"
include T in
theorem b1b(F:Fun K c7F c7F a3T f fd):J1 P w K mg base CX0 1 f fd a4b (a1q K):=fk F b0B fun _ _ _ _ _ _ hr nd=>b6 (t8 1 nd a5b) (b6 (G9 PassesOwn.never rfl (F0 (c7 0)) (L1 2 nd) (b6 (t8 3 nd (a0m a1n rfl T.a2u C4 (j9 (a2O b3s (c7 2) (a4p b5) a4q)))) (b6 (u5 (C1 (z5 hr) (t7 (c7 2) b5) o6) (b9 (t8 3 nd (v8 (a2B (t7 (c7 2) b5) (t7 (t7 (c7 2) b5) b5) (t7 (t7 (c7 2) b5) b5))))) o0) (b9 (G9 PassesOwn.never rfl (F0 (c7 3)) (L1 4 nd) (b9 (u5 (T6 (j7 M0 rfl T.J8 u4 (y8 (c7 4) (T8 rfl T.b9G a2N rfl)))) (b9 (a2z hr (c7 1) (c7 4) X3)) o0))))))) (b9 (o4 (j7 (a9f rfl) rfl T.a9c a1R (j9 (c7 1))))))
variable(a2j:C9 P w K mg base 1 c7F a4b (a1q K))
abbrev b0X:List Str:=[c7j,c7i,c7q]
theorem b7U:y7 [c7j,c7i,c7q,"_law_found","_law_due"] b0X (j4 b0J):=by walk_at "sc"
include T Q5 Q4 a7N a2j in
theorem b8K(F:Fun K c7G c7G b0J f fd):J1 P w K mg base CX0 4 f fd b0X (a3R K c):=fk F b7U fun _ _ _ _ _ _ hr nd=>b6 (u5 (C1 (z5 hr) (c7 2) b5) (b6 (t8 3 nd (a1v Q5 hr (by decide) (c7 0))) (b9 (t8 4 nd (o8 a7N hr (j9 (c7 1)))))) (b6 (t8 3 nd (a1v Q4 hr (by decide) (c7 0))) (b9 (t8 4 nd (o8 a2j hr (j9 (c7 1))))))) (b6 (u5 (T0 (a0Y (Y0 (T6 (j7 M0 rfl T.J8 u4 (y8 (c7 3) (T8 rfl T.a2u C4 rfl))))) (Z9 (Y7 (b5B hr) (c7 3) (c7 4) (a4d _))))) (b9 (o4 X3)) o0) (b6 (J9 (Y9 v0 E5 E4 Q1 (c7 3) (j9 o6))) (b6 (u5 (C1 (z5 hr) (c7 2) b5) (b9 (o4 (Y8 (a4s hr) (a1v Q5 hr (by decide) (c7 0)) (c7 4) (a4d _)))) o0) (b9 (o4 (Y8 (a4s hr) (a1v Q4 hr (by decide) (c7 0)) (c7 4) (a4d _)))))))
variable(a7O:C9 P w K mg base 4 c7G b0X (a3R K c))
abbrev c2e:List Str:=[c6K]
theorem b7R:y7 [c6K,c6M,c7i,c7n,"_law_more","_law_others",c7w,c7s,"_law_plans","_law_first",c7k,"_law_at"] c2e (j4 b4R):=by walk_at "sc"
include T b5o A4 a3h b1z a3m a5v a8S a6j a7O in
theorem c3Q(ck:a7e K c)(F:Fun K "law" "law" b4R f fd):J1 P w K mg base CX0 9 f fd c2e (a8h K):=by
 refine b1R F b7R (fun vs H Q E h=>h.1) (fun cdv A outer s H vs Q E hr h=>⟨b7G K c,?_,h.2 c ck⟩)
 have nd:=b7R.nd
 exact b6 (t8 1 nd (o8 b5o hr (j9 (c7 0)))) (b6 (u5 (T0 (a2y (C1 (z5 hr) (o8 A4 hr (y8 (c7 1) b5)) b5) (a1u (Y0 (T6 (b9M b1z hr)))))) (b9 (o4 X3)) o0) (b6 (a3K (o8 a6j hr (j9 (c7 1))) (a3L rfl (R5 (L1 2 nd) (R5 (L1 3 nd) a2A)))) (b6 (a3K (o8 a6j hr (j9 (c7 1))) (a3L rfl (R5 (L1 4 nd) (R5 (L1 5 nd) a2A)))) (b6 (t8 6 nd (o8 a3m hr (j9 (c7 1)))) (b6 (t8 7 nd (o8 a8S hr (b4I (c7 1) (c7 6) (v8 (j9 (o8 a5v hr (y8 (c7 1) (c7 6))))) b5))) (b6 (u5 (C1 (z5 hr) (o8 A4 hr (y8 (c7 1) b5)) b5) (b9 (t8 7 nd (t7 (v8 (a2B (J5 (j9 o6)) (J5 (y8 o6 b5)) (J5 (y8 o6 (t7 (c7 6) b5))))) (o8 A4 hr (y8 (c7 1) b5))))) o0) (b6 (t8 8 nd (v8 (a2B (b0n a3h hr (y8 (c7 2) (c7 3))) (b0n a3h hr (y8 (c7 4) (c7 5))) (b0n a3h hr (y8 (v8 (j9 (c7 7))) (v8 (j9 (v8 L9)))))))) (b6 (t8 9 nd (o8 A4 hr (y8 (c7 1) b5))) (b6 (G9 PassesOwn.never rfl (F7 rfl T.X4 (j9 b5)) (L1 10 nd) (b6 (t8 11 nd (z9 W2 (c7 10) b5)) (b9 (u5 (Y0 (T6 (o8 a7O hr (a2B (t7 (c7 8) (c7 11)) (t7 (v8 (a2B (c7 2) (c7 4) (v8 (j9 (c7 7))))) (c7 11)) (z9 W2 (z9 F9 (c7 9) (c7 10)) b5))))) (b9 (o4 X3)) o0)))) (b9 (o4 X3)))))))))))
end
end
structure ClF(K:Fg)(y:Str)(C:Addr):Prop where
 y:v6 K q9 y=some (some (.ref C))
 pg:a1g K C Str.empty=true
 hd:a2v K C=true
 po:a7g K C=true
 sa:A9 K (.ref C) "__setattr__" = some (some (.builtin "object.__setattr__"))
 mm:a3C K C=true
 kc:M5 K (.ref C)=true
abbrev pm0:Value:=(.str "law_oncedone_k23_deeds_and_names" 571)
abbrev pm1:Value:=(.str "oncedone.deeds" 403)
abbrev pm2:Value:=(.str "oncedone.plans" 436)
abbrev pm3:Value:=(.str "oncedone.checks" 373)
abbrev pm4:Value:=(.str "oncedone.words" 314)
theorem c4r{l:PySem.W.OpenLaw}{w:World}{K:Fg}{h:Heap}{mg:Str->Option Value}{fa:Addr}(X:K.In h)(G:h.Ns q9 mg)(hfa:mg "law" = some (.ref fa))
  (y_Plan:ClF K "Plan" 297)
  (a0j:A9 K (.ref 297) "entries" = some none)
  (a0e:A9 K (.ref 297) c7d = some none)
  (a0L:A9 K (.ref 297) c7c = some none)
  (y_DEED_KINDS:v6 K q9 "DEED_KINDS" = some (some (.ref 111))) (l_DEED_KINDS:K.lookup 111=some ⟨.type "tuple",none,.seq (([(.str "plus" 324),(.str "minus" 325),(.str "times" 326),(.str "less" 327),(.str "same" 328)]:List Value).toArray) 0,#[]⟩)
  (y_FIRST_STEP:v6 K q9 "FIRST_STEP" = some (some (.ref 201))) (l_FIRST_STEP:K.lookup 201=some ⟨.type "tuple",none,.seq (([(.int (-1) 439),(.int (0) 440)]:List Value).toArray) 0,#[]⟩)
  (x0:FnG K c6L b4T 306 pm0 (.ref 305))
  (x1:FnG K c6O b3P 313 pm0 (.ref 312))
  (x2:FnG K "deed_of" a6I 179 pm1 (.ref 178))
  (x3:FnM K 297 "deeds" "Plan.deeds" a3b 287 pm2 (.ref 286))
  (x4:FnG K c6Q a2q 193 pm1 (.ref 192))
  (x5:FnG K c6R a5f 200 pm1 (.ref 199))
  (x6:FnG K "set_by" a8n 186 pm1 (.ref 185))
  (x7:FnM K 297 "names" "Plan.names" a3a 294 pm2 (.ref 293))
  (x8:FnG K c6S a1K 165 pm3 (.ref 164))
  (x9:FnG K "is_name" a4y 130 pm4 (.ref 129))
  (x10:FnG K c6U a5h 118 pm4 (.ref 117))
  (x11:FnG K c6V a5i 125 pm4 (.ref 124))
  (x12:FnG K c6W a2X 137 pm4 (.ref 136))
  (x13:FnG K "is_deed" a6H 144 pm4 (.ref 143))
  (x14:FnG K "is_row" a8o 151 pm4 (.ref 150))
  (x15:FnG K c6X a2Z 172 pm3 (.ref 171))
  (x16:FnG K c6Y a5j 158 pm3 (.ref 157))
  (x17:FnG K c7b a2c 206 pm2 (.ref 205))
  (x18:FnG K c7e a1a 211 pm2 (.ref 210))
  (x19:FnG K "reached" a6E 228 pm2 (.ref 227))
  (x20:FnG K "turned" a5W 221 pm2 (.ref 220))
  (x21:FnG K c7f a2V 216 pm2 (.ref 215))
  (x22:FnG K c7g a2Y 235 pm2 (.ref 234))
  (x23:FnG K c7h a2W 240 pm2 (.ref 239))
  (x24:FnM K 297 "leads_to" "Plan.leads_to" a1i 266 pm2 (.ref 265))
  (x25:FnM K 297 c6J "Plan.__init__" a0o 252 pm2 (.ref 251))
  (x26:FnG K c7m a6G 396 pm0 (.ref 395))
  (x27:FnG K c7o b7X 360 pm0 (.ref 359))
  (x28:FnG K c7u a2G 365 pm0 (.ref 364))
  (x29:FnG K c7v b0F 318 pm0 (.ref 317))
  (x30:FnG K c7x b0E 325 pm0 (.ref 324))
  (x31:FnG K c7y b0D 332 pm0 (.ref 331))
  (x32:FnG K c7z a6F 339 pm0 (.ref 338))
  (x33:FnG K c7A b3S 346 pm0 (.ref 345))
  (x34:FnG K c7C b7V 353 pm0 (.ref 352))
  (x35:FnG K c7D a5Y 370 pm0 (.ref 369))
  (x36:FnG K c7E b0I 377 pm0 (.ref 376))
  (x37:FnG K c7F a3T 384 pm0 (.ref 383))
  (x38:FnG K c7G b0J 391 pm0 (.ref 390))
  (x39:FnG K "law" b4R 403 pm0 (.ref 402))
  (z_abs:v6 K q9 "abs" = some none)
  (z_all:v6 K q9 "all" = some none)
  (z_any:v6 K q9 "any" = some none)
  (z_bool:v6 K q9 "bool" = some none)
  (z_enumerate:v6 K q9 "enumerate" = some none)
  (z_int:v6 K q9 "int" = some none)
  (z_isinstance:v6 K q9 "isinstance" = some none)
  (z_len:v6 K q9 "len" = some none)
  (z_list:v6 K q9 "list" = some none)
  (z_min:v6 K q9 "min" = some none)
  (z_range:v6 K q9 "range" = some none)
  (z_set:v6 K q9 "set" = some none)
  (z_sorted:v6 K q9 "sorted" = some none)
  (z_str:v6 K q9 "str" = some none)
  (z_tuple:v6 K q9 "tuple" = some none)
  (z_zip:v6 K q9 "zip" = some none)
  (y_BOUND:v6 K q9 "BOUND" = some (some (.int (1000000000000) 316)))
  (y_FIGURES:v6 K q9 "FIGURES" = some (some (.str "0123456789" 320)))
  (y_LETTERS:v6 K q9 "LETTERS" = some (some (.str "abcdefghijklmnopqrstuvwxyz" 318)))
  (y_LONGEST_NAME:v6 K q9 "LONGEST_NAME" = some (some (.int (8) 322)))
  (y_MOST:v6 K q9 "MOST" = some (some (.int (400) 375)))
  : ∃fd:X6,(∀(s:d3) (v:Value),b7j s fd ⟨[v],[]⟩ [(c6K,v)])/\∀base:Heap,K.In base->base.Ns q9 mg->J1 l.prog w K mg base CX0 9 fa fd [c6K] (a8h K):=by
 have e:=hfa.symm.trans (O8 X G x39.a)
 cases e
 let c:Cn:=⟨297,111,201⟩
 have ck:a7e K c:=⟨⟨y_Plan.pg,y_Plan.hd,y_Plan.po,y_Plan.sa⟩,a0j,a0e,a0L,fun H=>.inr ⟨_,([(.str "plus" 324),(.str "minus" 325),(.str "times" 326),(.str "less" 327),(.str "same" 328)]:List Value).toArray,0,l_DEED_KINDS,rfl,rfl,by decide,.cons ⟨_,rfl⟩ ( .cons ⟨_,rfl⟩ ( .cons ⟨_,rfl⟩ ( .cons ⟨_,rfl⟩ ( .cons ⟨_,rfl⟩ ( .nil)))))⟩,fun H=>.inr ⟨_,([(.int (-1) 439),(.int (0) 440)]:List Value).toArray,0,l_FIRST_STEP,rfl,rfl,by decide,.cons ⟨_,rfl⟩ ( .cons ⟨_,rfl⟩ ( .nil))⟩⟩
 have T:Txt K mg c:=⟨v9 X G z_abs,v9 X G z_all,v9 X G z_any,v9 X G z_bool,v9 X G z_enumerate,v9 X G z_int,v9 X G z_isinstance,v9 X G z_len,v9 X G z_list,v9 X G z_min,v9 X G z_range,v9 X G z_set,v9 X G z_sorted,v9 X G z_str,v9 X G z_tuple,v9 X G z_zip,⟨_,O8 X G y_BOUND,⟨_,rfl⟩⟩,⟨_,O8 X G y_DEED_KINDS,rfl⟩,⟨_,O8 X G y_FIGURES,⟨_,rfl⟩⟩,⟨_,O8 X G y_FIRST_STEP,rfl⟩,⟨_,O8 X G y_LETTERS,⟨_,rfl⟩⟩,⟨_,O8 X G y_LONGEST_NAME,⟨_,rfl⟩⟩,⟨_,O8 X G y_MOST,⟨_,rfl⟩⟩⟩
 refine⟨fdM "law" "law" b4R pm0 (.ref 402),fun s v=>.of_eq rfl,fun base _ _=>?_⟩
 have b5o:=mkC X G x0 (c3R (P:=l.prog) (w:=w) (base:=base) T x0.i.F) fun _ _ _ _ _ _ _=>rfl
 have A4:=mkC X G x1 (c0X (P:=l.prog) (w:=w) (base:=base) T x1.i.F) fun _ _ _ _ _ _ _ _=>rfl
 have a4G:=mkC X G x2 (b4k (P:=l.prog) (w:=w) (base:=base) T x2.i.F) fun _ _ _ _ _ _ _=>rfl
 have Q5:=mkM x3 ck.Y6 (a9t T a4G x3.i.F) fun _ _ _ _ _ _ _=>rfl
 have a1b:=mkC X G x4 (a8y (P:=l.prog) (w:=w) (base:=base) T x4.i.F) fun _ _ _ _ _ _ _=>rfl
 have a3l:=mkC X G x5 (b2x T a1b x5.i.F) fun _ _ _ _ _ _ _=>rfl
 have a4j:=mkC X G x6 (b6j (P:=l.prog) (w:=w) (base:=base) T x6.i.F) fun _ _ _ _ _ _ _=>rfl
 have Q4:=mkM x7 ck.Y6 (a9s T a3l a4j x7.i.F) fun _ _ _ _ _ _ _=>rfl
 have a0G:=mkC X G x8 (a7y (P:=l.prog) (w:=w) (base:=base) T x8.i.F) fun _ _ _ _ _ _ _ _ _=>rfl
 have Z4:=mkC X G x9 (b4i (P:=l.prog) (w:=w) (base:=base) T x9.i.F) fun _ _ _ _ _ _ _=>rfl
 have a0l:=mkC X G x10 (b2y (P:=l.prog) (w:=w) (base:=base) T x10.i.F) fun _ _ _ _ _ _ _=>rfl
 have a3n:=mkC X G x11 (b2z T a0l x11.i.F) fun _ _ _ _ _ _ _=>rfl
 have O5:=mkC X G x12 (a9p T Z4 a3n x12.i.F) fun _ _ _ _ _ _ _=>rfl
 have a4F:=mkC X G x13 (b4j T O5 x13.i.F) fun _ _ _ _ _ _ _=>rfl
 have a6i:=mkC X G x14 (b6l T Z4 O5 a4F x14.i.F) fun _ _ _ _ _ _ _=>rfl
 have V2:=mkC X G x15 (a9r (P:=l.prog) (w:=w) (base:=base) T x15.i.F) fun _ _ _ _ _ _ _=>rfl
 have a3o:=mkC X G x16 (b2A T a0l x16.i.F) fun _ _ _ _ _ _ _ _=>rfl
 have a2i:=mkC X G x17 (b1a T a3o x17.i.F) fun _ _ _ _ _ _ _ _ _=>rfl
 have a1c:=mkC X G x18 (a8z T V2 a2i x18.i.F) fun _ _ _ _ _ _ _ _=>rfl
 have a2I:=mkC X G x19 (b4g (P:=l.prog) (w:=w) (base:=base) T x19.i.F) fun _ _ _ _ _ _ _ _=>rfl
 have a6g:=mkC X G x20 (b6i (P:=l.prog) (w:=w) (base:=base) T x20.i.F) fun _ _ _ _ _ _ _=>rfl
 have a3j:=mkC X G x21 (b2v (P:=l.prog) (w:=w) (base:=base) T x21.i.F) fun _ _ _ _ _ _ _=>rfl
 have a1s:=mkC X G x22 (a9q T a2I a6g a3j x22.i.F) fun _ _ _ _ _ _ _=>rfl
 have a3k:=mkC X G x23 (b2w (P:=l.prog) (w:=w) (base:=base) T x23.i.F) fun _ _ _ _ _ _ _=>rfl
 have a0h:=mkM x24 ck.Y6 (a6S (P:=l.prog) (w:=w) (base:=base) T x24.i.F) fun _ _ _ _ _ _ _ _=>rfl
 have a3h:=mkK X G x25 y_Plan.y y_Plan.mm y_Plan.kc (b1c T a0G a6i V2 a1c a1s a3k a0h x25.i.F) fun _ _ _ _ _ _ _ _ _=>rfl
 have b1z:=mkC X G x26 (c0Z T Q5 Q4 a3h x26.i.F) fun _ _ _ _ _ _=>rfl
 have b5n:=mkC X G x27 (c3P T A4 x27.i.F) fun _ _ _ _ _ _ _ _=>rfl
 have a6h:=mkC X G x28 (b6k (P:=l.prog) (w:=w) (base:=base) T x28.i.F) fun _ _ _ _ _ _ _=>rfl
 have b1y:=mkC X G x29 (c0Y T A4 x29.i.F) fun _ _ _ _ _ _ _=>rfl
 have a3m:=mkC X G x30 (b8H T A4 b1y x30.i.F) fun _ _ _ _ _ _ _=>rfl
 have a7M:=mkC X G x31 (b8G T A4 x31.i.F) fun _ _ _ _ _ _ _=>rfl
 have X0:=mkC X G x32 (b4h T A4 a7M x32.i.F) fun _ _ _ _ _ _ _ _=>rfl
 have a5v:=mkC X G x33 (c1a T A4 X0 x33.i.F) fun _ _ _ _ _ _ _ _=>rfl
 have a8S:=mkC X G x34 (c3O T A4 X0 x34.i.F) fun _ _ _ _ _ _ _ _ _ _=>rfl
 have a6j:=mkC X G x35 (b8I T A4 b5n a6h a3m a5v a8S x35.i.F) fun _ _ _ _ _ _ _=>rfl
 have a7N:=mkC X G x36 (b8J (P:=l.prog) (w:=w) (base:=base) T x36.i.F) fun _ _ _ _ _ _ _=>rfl
 have a2j:=mkC X G x37 (b1b (P:=l.prog) (w:=w) (base:=base) T x37.i.F) fun _ _ _ _ _ _ _=>rfl
 have a7O:=mkC X G x38 (b8K T Q5 Q4 a7N a2j x38.i.F) fun _ _ _ _ _ _ _ _ _=>rfl
 exact c3Q T b5o A4 a3h b1z a3m a5v a8S a6j a7O ck x39.i.F
theorem walk{l:PySem.W.OpenLaw}{q:u6}{loose:List Str}{XP:(Str->Option Value)->Heap->Prop}{YP:World->Heap->Prop}{d:DefRec}{K:Params->Fg}(hn:l.most=some 63)(hdf:d.params.defaults=[])
  (hY:∀(w:World) (h:Heap),YP w h->(K w.params).In h)
  (F:∀(w:World) (mg:Str->Option Value) (fa:Addr) (h:Heap),(K w.params).In h->h.Ns q9 mg->mg d.name=some (.ref fa) ->
   ∃fd:X6,(∀(s:d3) (u:Value),b7j s fd ⟨[u],[]⟩ [(c6K,u)])/\∀base:Heap,(K w.params).In base->base.Ns q9 mg->J1 l.prog w (K w.params) mg base CX0 9 fa fd [c6K] (a8h (K w.params))) :
  PySem.W.WalkO q loose XP YP l.row.toRowW d [] (fun f vs=>b1F f vs):=
 L2.b9U (n:=63) (k:=9) (x := c6K) (CX:=fun _=>CX0) (sp:=fun w=>a8h (K w.params)) hn (by decide) hdf ⟨rfl,by decide,by decide⟩ hY F (fun _ _ a ns hl hO hS=>RD.law_reading _ hl hO hS) fun _ _ _ _ _ z=>z
end PR
open PySem PySem.W PyProof.Rows
set_option maxRecDepth 100000 in
set_option maxHeartbeats 0 in
theorem PySem.Challenge.cw_oncedone_k23_deeds_and_names_holds : PySem.Challenge.rw_oncedone_k23_deeds_and_names.Holds := by
 refine HD.fin fun d hd hdf=>PR.walk (l:=HD.row) (K:=HD.K) rfl hdf (fun w h Y=>PySem.W.kIn_of Y) ?F
 intro w mg fa h KX G hmg
 rw[hd]at hmg
 apply PR.c4r KX G hmg <;> first | kernel_rfl | exact⟨⟨by kernel_rfl,by kernel_rfl,by kernel_rfl⟩,by kernel_rfl⟩ | exact⟨⟨by kernel_rfl,by kernel_rfl,by kernel_rfl⟩,by kernel_rfl,by kernel_rfl⟩ | exact⟨by kernel_rfl,by kernel_rfl,by kernel_rfl,by kernel_rfl,by kernel_rfl,by kernel_rfl,by kernel_rfl⟩
