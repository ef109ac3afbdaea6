import PyProof.Rows.All
import KE.KEqDict
import KE.KDictList
import KE.KIsAll
import KE.KDictOf
import KE.KItem
import PyProof.StrBlockI
import PyProof.StrOps2
import PyProof.StrLaws
import PyProof.StationsW
import PyProof.RulesTry
import PyProof.InstStoreFacts
import OpenK.KOwn
import PyProof.ExcClass3
import PyProof.ExcInit
import PyProof.ExcBaseAll.ValueError
import PyProof.RulesDel
import PyProof.RulesAs
import PyProof.ExcAttrAll.ValueError
import KE.KIntText
import PyProof.ReprReads
import PyProof.CallFns
import Lean
import PySem.Challenge.RW_oncedone_k92_texts_refused
open Array renaming length_toList->z9,toList_append->N4,getElem?_toList->O3,getElem?_eq_some_iff->a1b,size_append->c5R,toList_inj->c8r,toList->d2V
open Bool renaming and_eq_true->l9,false_ne_true->u5,or_eq_true->L4,true_and->Z9,not_eq_true'->a0V,eq_iff_iff->a2g,eq_false_iff->a2A,or_false->a5r,and_eq_false_iff->a6Z,false_or->b7p,or_true->c0G,and_eq_true_iff->c2J,false_and->d1A,and_false->d1B,and_true->d2U
open Int renaming toNat_natCast->E7,eq_ofNat_of_zero_le->L7,emod_lt_of_pos->X9,emod_nonneg->Z4,zero_add->a2K,toNat_of_nonneg->a9L,toNat->c0F
open List renaming length_map->a9,getElem?_eq_getElem->b9,mem_cons->c5,getElem?_map->c8,mem_cons_of_mem->c9,mem_singleton->g8,length_append->j4,size_toArray->j6,mem_append->j8,length_cons->j9,range->l6,getElem?_eq_some_iff->o7,not_mem_nil->p8,all_eq_true->p9,mem_append_right->t9,replicate->u6,mem_append_left->v9,take_of_length_le->w6,mem_map->y7,mem_cons_self->A6,length_pos_iff->A9,map_cons->C6,take_add_one->C7,append_assoc->C8,length_take->E1,mem_range->E5,map_append->E9,append_nil->F0,mem_iff_getElem?->F4,getElem?_append_left->F8,getElem_mem->G0,map_map->G6,length_replicate->J1,lookup_cons->J3,getElem?_replicate->J4,getElem?_set_self->K7,getElem?_set_ne->L8,getD->M5,length_range->O2,length_singleton->O6,any_cons->O7,length_eq_zero_iff->P0,length->P3,getElem?_append_right->Q5,length_filter_le->R8,length_set->V5,lookup->X0,length_drop->X3,nodup_cons->Z0,mem_filter->Z1,map_congr_left->a0j,cons_append->a0l,length_nil->a0B,all_cons->a0L,mem_of_getElem?->a1d,take_length->a1t,getElem?_range->a1H,nil_append->a2e,find?_cons->a2f,getElem?_drop->a2k,range_succ->a3H,all_nil->a3R,map_inj_right->a4h,filter_append->a4i,drop_zero->a4j,mem_or_eq_of_mem_set->a4B,any_eq_true->a5z,map_nil->a6C,all_map->a6D,replicate_succ'->a7J,filterMap_cons->a8J,dropWhile_cons->a8K,any_nil->b0A,of_mem_zip->b3y,dropLast_concat_getLast->b3z,sum_cons->b7l,length_erase_of_mem->b7m,idxOf_lt_length_iff->b7n,eq_of_mem_replicate->b7o,getElem?_cons_zero->b9l,length_pos_of_mem->c0C,drop_eq_nil_of_le->c0D,append_eq_nil_iff->c0E,getElem?_eq_none->c2A,map_id->c2I,mem_filterMap->c5P,contains_cons->c5Q,nodup_append->c8q,isEmpty_iff->c8Q,idxOf_cons->d1o,forIn_cons->d1p,take_left->d1w,tail_drop->d1x,drop_left->d1y,drop_drop->d1z,map_drop->d2T,map_set->d3b
open Nat renaming le_refl->d9,le_trans->t5,lt_of_lt_of_le->t8,ne_of_lt->z5,lt_irrefl->E8,zero_le->K6,le_succ->a1n,le_of_eq->a2J,ne_of_gt->a4f,le_add_right->a6h,lt_of_le_of_lt->b0e,le_of_lt->b2n,add_zero->b2o,lt_succ_self->b2L,toDigits->c2w,succ_mul->c2x,sub_zero->c2y,lt_trans->c2z,le_max_right->d1n,not_lt_zero->d1t,min_eq_left->d1u,le_max_left->d1v,mul_le_mul->d2S
open Option renaming map_eq_some_iff->z7,isSome_iff_exists->Z3,getD_some->a2N,map_some->a6g,isSome_map->a9Y,bind_some->b0z,getD_none->c5O
open PyProof.Rows renaming boot_isinstance->t6,boot_list->J2,callWith_type1->U2,boot_str->V8,boot_tuple->Y6,slot_tuple_getitem->a1M,boot_all->a4A,envOfC->b0B,AllBare->b0C,boot_int->b2K,IntsAre->c8W,subscriptTail_builtinR->d1r
open PySem renaming Shared->d4,wpAny_bind->d8,starEach->g6,boot_len->i8,sizeLine->j7,mainGlobals->u4,Program->v8,compareOp->z8,wpAny_pure->A0,mem_of_lookup->C9,Around->F3,wpAny_truthy_bool->O4,wpAny_mono->Q7,behindInMarks->R9,FuncData->U1,binaryOp->V6,wpAny_Call_Name_kw->X2,backTo->X5,foldedSetIterable->Y7,wpAny_newObj_type->a0C,bootBuiltins->a0W,wpAny_holding->a0Y,attributeBase->a0Z,wpAny_passesOwn->a1N,swapsWith->a1O,assignEach->a2l,lookup_relabel_local->a2o,sizeLine_eq->a2v,codeAny_mono->a2U,wpAny_standAt->a3k,wpAny_execs_nil->a3l,letOwnedTupleGo->a3m,importedModules->a3n,sysModules->a3S,strIterType->a3T,codeAny->a3U,call_meets->a3V,holding->a4C,sliceBounds->a5A,keywordEach->a5B,NameKind->a6J,wpAny_comprehension_free->a7L,wpAny_field->a8L,relabel->a8M,assign->b2M,Keyword->b3D,call->b4Z,tupleKind_room_in1->b5e,backToKw->b5f,wpAny_pyIter_list->b7q,wpAny_assign_Name->b7r,BindsTo->b7s,Result->b9n,toDigits_len_ge->c0B,intText_digits->c2v,compEnvC->c2E,Operator->c2F,tupleKind->c2K,standAt->c2L,getMethod->c2M,callerA->c2N,IsPart->c2O,sliceRange->c8n,PlainAttrs->c8u,valueAt->c8T,setItem->c8U,getItem->c8V,intText?->d1m,codeAny_compStart_list->d1s,wpAny_isTrue_Compare1->d1C,seqIndex_neg->d1D,lastMarks->d1E,PassesOwn->d1F,wpAny_newFunctionEnv->d2Z,seqIndex_of->d3c
open PySem.F renaming plainAttrs_list->A3,plainAttrs_str->L9,type_list_append->N9,slot_list_append->O0,slot_str_split->V7,slot_list_extend->Y9,type_str_join->a0z,slot_str_join->a0A,type_list_extend->a1B,slot_list_index->a1L,args_str_split_2->a4z,entry_str_split->a5g,type_str_split->a5x,excBase_ValueError->b2J,args_list_index_2->b3x,entry_list_index->b5a,type_list_index->b5c,attr_ValueError->b5d
open PySem.Heap renaming get?_push_of_some->d7,lt_size->h9,get?_push_size->C0,get?_update_other->Q6,get?_update_self->Y0,size_push->a7K,get?_update_ne->c5J,size_update->c8R
open PySem.Heap.Ns1 renaming of_empty->c2B
open PySem.NumText renaming digitsVal->a1c
open PySem.SeqAt renaming list_indexAt->b2m
open PySem.StrLaws renaming glued_eq_join->F7,found_one->G8,join_length_le->S8
open PySem.W renaming findIn->z6,nsIn->A5,mg_none_of->C5,mg_of->E3,emptyDict->M9,kia_one->O5,kitOne->P6,keepIn->T0,instObj->U7,callWith_K->a0p,fnOf->a1a,hasDictIn->a2m,plainGet->a2I,mroIn->a2M,specialIn->a4g,makesIn->a5y,lookIn->a6H,codeIn->a6I,plainGet_of->a7I,plainOver->a9I,methodObj->a9J,isFn->a9K,takesIn->b2k,takerIn->b2l,cellsFrom_some->b7j,kitx_list->c2G,kitx_dict->c2H,handedIn->c5I,typeIn->c8o,kitAny->c8p
open PySem.W.KIN renaming signs_num->a2j,val_back->a5w
set_option Elab.async false
set_option linter.all false
set_option maxRecDepth 100000
set_option maxHeartbeats 0
abbrev Fg:=PySem.W.Frag
abbrev Nt:=List (List Nat)
theorem gI{α:Type}{l:List α}{i:Nat}{a:α}(h:l[i]?=some a):i<l.length:=(o7.mp h).1
theorem mI{α:Type}{l:List α}{i:Nat}{a:α}(h:l[i]?=some a):a∈l:=a1d h
theorem d4L{p:Prop}[Decidable p](h:¬p):decide p=false:=decide_eq_false h
theorem d4M{p:Prop}[Decidable p](h:p):decide p=true:=decide_eq_true h
namespace L2
open PySem
def X8(s:Stmt)(j:Nat):Stmt:=match s with
 | .ClassDef _ _ _ body _ _ _ _ _ _ _=>body.getD j (.Pass ⟨0,0,0,0⟩)
 | _=>.Pass ⟨0,0,0,0⟩
def a5a(s:Stmt):Arguments:=match s with
 | .FunctionDef _ a _ _ _ _ _ _ _ _=>a
 | _=>{ posonlyargs:=[],args:=[],vararg:=none,kwonlyargs:=[],kw_defaults:=[],kwarg:=none,defaults:=[] }
def a1r(s:Stmt):List Stmt:=match s with
 | .FunctionDef _ _ b _ _ _ _ _ _ _=>b
 | _=>[]
def i9(s:Stmt):Scope:=match s with
 | .FunctionDef _ _ _ _ _ _ sc _ _ _=>sc
 | _=>{ kind:=.function,names:=[],isGenerator:=false,isCoroutine:=false }
end L2
namespace HD
open PySem PySem.W L2
abbrev P:v8:=PySem.Challenge.pw_oncedone_k92_texts_refused
def top(i:Nat):Stmt:=P.main.body.getD i (.Pass ⟨0,0,0,0⟩)
def kE(Q:Params)(n:Str)(t:Nat)(v:Value):DictEntry:=⟨PyData.keyHash Q n,.str n t,v⟩
def kD(es:List DictEntry)(n:Nat):Obj:=⟨.type "dict",none,.dict es.toArray n,#[]⟩
def kF(x qual:Str)(st:Stmt)(pm cd:Value):Obj:=⟨.type "function",none,.func (fnOf x qual (a5a st) (a1r st) (i9 st) .none .none .none pm none cd .none),#[]⟩
def kC(n q:Str)(a b c:Nat)(i3 i4 i5 i6 i7:Int)(r8:Nat)(i10:Int)(r11 r13 r14 r15:Nat)(i16 i17:Int)(d:Nat):Obj:=⟨.type "code",none,.fields ([.str n a,.str q b,.str "/claim/cut.py" c,.int i3 0,.int i4 0,.int i5 0,.int i6 0,.int i7 0,.ref r8,.bool true,.int i10 0,.ref r11,.none,.ref r13,.ref r14,.ref r15,.int i16 0,.int i17 0,.str "/claim/cut.py" d]:List Value).toArray,([]:List (Option Value)).toArray⟩
def kN(n q:Str)(a b c:Nat)(i3 i4 i5 i6 i7:Int)(r8:Nat)(i10:Int)(r11 r15:Nat)(i16 i17:Int)(d:Nat):Obj:=⟨.type "code",none,.fields ([.str n a,.str q b,.str "/claim/cut.py" c,.int i3 0,.int i4 0,.int i5 0,.int i6 0,.int i7 0,.ref r8,.bool true,.int i10 0,.ref r11,.none,.none,.none,.ref r15,.int i16 0,.int i17 0,.str "/claim/cut.py" d]:List Value).toArray,([]:List (Option Value)).toArray⟩
abbrev m0:Value:=(.str "__main__" 164)
abbrev m1:Value:=(.str "oncedone.errors" 194)
abbrev m2:Value:=(.str "oncedone.words" 330)
abbrev m3:Value:=(.str "oncedone.checks" 389)
abbrev m4:Value:=(.str "oncedone.plans" 419)
abbrev m5:Value:=(.str "oncedone.texts" 549)
abbrev m6:Value:=(.str "law_oncedone_k92_texts_refused" 599)
def K1(Q:Params):Frag:=[
 (3,kD [kE Q "__name__" 165 (.str "law_oncedone_k92_texts_refused" 599),kE Q "__doc__" 166 .none,kE Q "__package__" 167 .none,kE Q "__loader__" 168 (.builtin "__main__.__loader__#opaque"),kE Q "__spec__" 169 .none,kE Q "__annotations__" 170 (.ref 6),kE Q "__builtins__" 171 (.ref 4),kE Q "__file__" 173 (.str "/claim/cut.py" 172),kE Q "__cached__" 174 .none,kE Q "_wall" 193 (.ref 21),kE Q "OnceError" 213 (.ref 31),kE Q "Wrong" 238 (.ref 51),kE Q "NoThing" 263 (.ref 70),kE Q "TooMany" 288 (.ref 89),kE Q "NoWay" 313 (.ref 108),kE Q "NoText" 329 (.ref 120),kE Q "BOUND" 333 (.int (1000000000000) 332),kE Q "LETTERS" 335 (.str "abcdefghijklmnopqrstuvwxyz" 334),kE Q "FIGURES" 337 (.str "0123456789" 336),kE Q "LONGEST_NAME" 339 (.int (8) 338),kE Q "DEED_KINDS" 345 (.ref 123),kE Q "is_whole" 352 (.ref 130),kE Q "is_value" 359 (.ref 137),kE Q "is_name" 365 (.ref 142),kE Q "is_operand" 372 (.ref 149),kE Q "is_deed" 379 (.ref 156),kE Q "is_row" 388 (.ref 163),kE Q "MOST" 392 (.int (400) 391),kE Q "is_below" 400 (.ref 170),kE Q "check_length" 409 (.ref 177),kE Q "check_each" 418 (.ref 184),kE Q "FIRST_STEP" 424 (.ref 185),kE Q "are_nexts" 430 (.ref 190),kE Q "check_nexts" 436 (.ref 195),kE Q "stops_of" 442 (.ref 200),kE Q "turned" 448 (.ref 205),kE Q "reached" 459 (.ref 212),kE Q "check_ways" 469 (.ref 219),kE Q "steps_of" 475 (.ref 224),kE Q "Plan" 548 (.ref 281),kE Q "words_of" 559 (.ref 292),kE Q "shown_place" 565 (.ref 297),kE Q "shown" 571 (.ref 302),kE Q "thing_of" 577 (.ref 307),kE Q "row_of" 584 (.ref 314),kE Q "plan_of" 590 (.ref 319),kE Q "read" 598 (.ref 326),kE Q "_law_bag" 606 (.ref 331),kE Q "_law_take" 619 (.ref 338),kE Q "_law_name" 625 (.ref 343),kE Q "_law_names" 638 (.ref 350),kE Q "_law_value" 645 (.ref 357),kE Q "_law_operand" 653 (.ref 364),kE Q "_law_deed" 664 (.ref 371),kE Q "_law_row" 676 (.ref 378),kE Q "_law_net" 689 (.ref 385),kE Q "_law_mended" 695 (.ref 390),kE Q "_law_drawn" 701 (.ref 395),kE Q "_law_refused" 710 (.ref 402),kE Q "_law_some" 716 (.ref 407),kE Q "_law_bad_line" 724 (.ref 414),kE Q "_law_spoilt" 730 (.ref 419),kE Q "_law_no_plan" 736 (.ref 424),kE Q "law" 749 (.ref 431)] 64),
 (20,kC "_wall" "_wall" 187 188 189 1 1 0 0 3 15 181 16 17 18 19 191 1 192),
 (21,kF "_wall" "_wall" (top 0) m0 (.ref 20)),
 (30,kD [kE Q "__module__" 203 (.str "oncedone.errors" 194),kE Q "__firstlineno__" 207 (.int (5) 206),kE Q "__static_attributes__" 208 (.ref 29),kE Q "__weakref__" 210 (.ref 32),kE Q "__doc__" 211 .none] 3),
 (31,⟨(.type "type"),none,.cls { name := "OnceError",bases:=[(.type "ValueError")],mro:=[(.ref 31),(.type "ValueError"),(.type "Exception"),(.type "BaseException"),(.type "object")],ns:=30,qualname := "OnceError",hasDict:=true,subclasses:=[(.ref 51),(.ref 70),(.ref 89),(.ref 108),(.ref 120)] },([some (.ref 22),none,some (.str "OnceError" 196),some (.str "OnceError" 204),some (.builtin "ValueError.__new__"),some (.bool true)]:List (Option Value)).toArray⟩),
 (47,kC "__init__" "Wrong.__init__" 226 227 228 9 2 0 0 3 42 181 43 44 45 46 231 9 232),
 (48,kF "__init__" "Wrong.__init__" (X8 (top 3) 0) m1 (.ref 47)),
 (50,kD [kE Q "__module__" 221 (.str "oncedone.errors" 194),kE Q "__firstlineno__" 225 (.int (7) 224),kE Q "__init__" 233 (.ref 48),kE Q "__static_attributes__" 235 (.ref 49),kE Q "__doc__" 236 .none] 2),
 (51,⟨(.type "type"),none,.cls { name := "Wrong",bases:=[(.ref 31)],mro:=[(.ref 51),(.ref 31),(.type "ValueError"),(.type "Exception"),(.type "BaseException"),(.type "object")],ns:=50,qualname := "Wrong",hasDict:=true,subclasses:=[] },([some (.ref 35),none,some (.str "Wrong" 214),some (.str "Wrong" 222),some (.builtin "ValueError.__new__"),some (.bool true)]:List (Option Value)).toArray⟩),
 (66,kC "__init__" "NoThing.__init__" 251 252 253 13 2 0 0 3 61 181 62 63 64 65 256 13 257),
 (67,kF "__init__" "NoThing.__init__" (X8 (top 4) 0) m1 (.ref 66)),
 (69,kD [kE Q "__module__" 246 (.str "oncedone.errors" 194),kE Q "__firstlineno__" 250 (.int (11) 249),kE Q "__init__" 258 (.ref 67),kE Q "__static_attributes__" 260 (.ref 68),kE Q "__doc__" 261 .none] 2),
 (70,⟨(.type "type"),none,.cls { name := "NoThing",bases:=[(.ref 31)],mro:=[(.ref 70),(.ref 31),(.type "ValueError"),(.type "Exception"),(.type "BaseException"),(.type "object")],ns:=69,qualname := "NoThing",hasDict:=true,subclasses:=[] },([some (.ref 54),none,some (.str "NoThing" 239),some (.str "NoThing" 247),some (.builtin "ValueError.__new__"),some (.bool true)]:List (Option Value)).toArray⟩),
 (85,kC "__init__" "TooMany.__init__" 276 277 278 17 2 0 0 3 80 181 81 82 83 84 281 17 282),
 (86,kF "__init__" "TooMany.__init__" (X8 (top 5) 0) m1 (.ref 85)),
 (88,kD [kE Q "__module__" 271 (.str "oncedone.errors" 194),kE Q "__firstlineno__" 275 (.int (15) 274),kE Q "__init__" 283 (.ref 86),kE Q "__static_attributes__" 285 (.ref 87),kE Q "__doc__" 286 .none] 2),
 (89,⟨(.type "type"),none,.cls { name := "TooMany",bases:=[(.ref 31)],mro:=[(.ref 89),(.ref 31),(.type "ValueError"),(.type "Exception"),(.type "BaseException"),(.type "object")],ns:=88,qualname := "TooMany",hasDict:=true,subclasses:=[] },([some (.ref 73),none,some (.str "TooMany" 264),some (.str "TooMany" 272),some (.builtin "ValueError.__new__"),some (.bool true)]:List (Option Value)).toArray⟩),
 (104,kC "__init__" "NoWay.__init__" 301 302 303 21 2 0 0 3 99 181 100 101 102 103 306 21 307),
 (105,kF "__init__" "NoWay.__init__" (X8 (top 6) 0) m1 (.ref 104)),
 (107,kD [kE Q "__module__" 296 (.str "oncedone.errors" 194),kE Q "__firstlineno__" 300 (.int (19) 299),kE Q "__init__" 308 (.ref 105),kE Q "__static_attributes__" 310 (.ref 106),kE Q "__doc__" 311 .none] 2),
 (108,⟨(.type "type"),none,.cls { name := "NoWay",bases:=[(.ref 31)],mro:=[(.ref 108),(.ref 31),(.type "ValueError"),(.type "Exception"),(.type "BaseException"),(.type "object")],ns:=107,qualname := "NoWay",hasDict:=true,subclasses:=[] },([some (.ref 92),none,some (.str "NoWay" 289),some (.str "NoWay" 297),some (.builtin "ValueError.__new__"),some (.bool true)]:List (Option Value)).toArray⟩),
 (119,kD [kE Q "__module__" 321 (.str "oncedone.errors" 194),kE Q "__firstlineno__" 325 (.int (23) 324),kE Q "__static_attributes__" 326 (.ref 118),kE Q "__doc__" 327 .none] 2),
 (120,⟨(.type "type"),none,.cls { name := "NoText",bases:=[(.ref 31)],mro:=[(.ref 120),(.ref 31),(.type "ValueError"),(.type "Exception"),(.type "BaseException"),(.type "object")],ns:=119,qualname := "NoText",hasDict:=true,subclasses:=[] },([some (.ref 111),none,some (.str "NoText" 314),some (.str "NoText" 322),some (.builtin "ValueError.__new__"),some (.bool true)]:List (Option Value)).toArray⟩),
 (123,⟨(.type "tuple"),none,.seq ([(.str "plus" 340),(.str "minus" 341),(.str "times" 342),(.str "less" 343),(.str "same" 344)]:List Value).toArray 0,([]:List (Option Value)).toArray⟩),
 (129,kC "is_whole" "is_whole" 346 347 348 31 1 0 0 3 124 181 125 126 127 128 350 31 351),
 (130,kF "is_whole" "is_whole" (top 14) m2 (.ref 129)),
 (136,kC "is_value" "is_value" 353 354 355 33 1 0 0 3 131 181 132 133 134 135 357 33 358),
 (137,kF "is_value" "is_value" (top 15) m2 (.ref 136)),
 (141,kN "is_name" "is_name" 360 361 362 35 1 0 0 3 138 181 139 140 363 35 364),
 (142,kF "is_name" "is_name" (top 16) m2 (.ref 141)),
 (148,kC "is_operand" "is_operand" 366 367 368 39 1 0 0 3 143 181 144 145 146 147 370 39 371)]
def d1f:List Addr:=[3,20,21,30,31,47,48,50,51,66,67,69,70,85,86,88,89,104,105,107,108,119,120,123,129,130,136,137,141,142,148]
def K2(Q:Params):Frag:=[
 (149,kF "is_operand" "is_operand" (top 17) m2 (.ref 148)),
 (155,kC "is_deed" "is_deed" 373 374 375 41 1 0 0 3 150 181 151 152 153 154 377 41 378),
 (156,kF "is_deed" "is_deed" (top 18) m2 (.ref 155)),
 (162,kC "is_row" "is_row" 380 381 382 45 1 0 0 3 157 181 158 159 160 161 386 45 387),
 (163,kF "is_row" "is_row" (top 19) m2 (.ref 162)),
 (169,kC "is_below" "is_below" 393 394 395 61 2 0 0 3 164 181 165 166 167 168 398 61 399),
 (170,kF "is_below" "is_below" (top 22) m3 (.ref 169)),
 (176,kC "check_length" "check_length" 401 402 403 63 3 0 0 3 171 181 172 173 174 175 407 63 408),
 (177,kF "check_length" "check_length" (top 23) m3 (.ref 176)),
 (183,kC "check_each" "check_each" 410 411 412 68 1 0 0 3 178 181 179 180 181 182 416 68 417),
 (184,kF "check_each" "check_each" (top 24) m3 (.ref 183)),
 (185,⟨(.type "tuple"),none,.seq ([(.int (-1) 422),(.int (0) 423)]:List Value).toArray 0,([]:List (Option Value)).toArray⟩),
 (189,kN "are_nexts" "are_nexts" 425 426 427 74 3 0 0 3 186 181 187 188 428 74 429),
 (190,kF "are_nexts" "are_nexts" (top 27) m4 (.ref 189)),
 (194,kN "check_nexts" "check_nexts" 431 432 433 79 2 0 0 3 191 181 192 193 434 79 435),
 (195,kF "check_nexts" "check_nexts" (top 28) m4 (.ref 194)),
 (199,kN "stops_of" "stops_of" 437 438 439 83 1 0 0 3 196 181 197 198 440 83 441),
 (200,kF "stops_of" "stops_of" (top 29) m4 (.ref 199)),
 (204,kN "turned" "turned" 443 444 445 85 1 0 0 3 201 181 202 203 446 85 447),
 (205,kF "turned" "turned" (top 30) m4 (.ref 204)),
 (211,kC "reached" "reached" 449 450 451 91 2 0 0 3 206 181 207 208 209 210 457 91 458),
 (212,kF "reached" "reached" (top 31) m4 (.ref 211)),
 (218,kC "check_ways" "check_ways" 460 461 462 100 1 0 0 3 213 181 214 215 216 217 467 100 468),
 (219,kF "check_ways" "check_ways" (top 32) m4 (.ref 218)),
 (223,kN "steps_of" "steps_of" 470 471 472 106 1 0 0 3 220 181 221 222 473 106 474),
 (224,kF "steps_of" "steps_of" (top 33) m4 (.ref 223)),
 (235,kN "__init__" "Plan.__init__" 488 489 490 113 3 0 0 3 232 181 233 234 491 113 492),
 (236,kF "__init__" "Plan.__init__" (X8 (top 34) 0) m4 (.ref 235)),
 (242,kC "steps" "Plan.steps" 494 495 496 124 1 0 0 3 237 181 238 239 240 241 498 124 499),
 (243,kF "steps" "Plan.steps" (X8 (top 34) 1) m4 (.ref 242)),
 (249,kC "leads_to" "Plan.leads_to" 501 502 503 127 2 0 0 3 244 181 245 246 247 248 506 127 507)]
def c8g:List Addr:=[149,155,156,162,163,169,170,176,177,183,184,185,189,190,194,195,199,200,204,205,211,212,218,219,223,224,235,236,242,243,249]
def K3(Q:Params):Frag:=[
 (250,kF "leads_to" "Plan.leads_to" (X8 (top 34) 2) m4 (.ref 249)),
 (256,kC "steps_into" "Plan.steps_into" 509 510 511 132 2 0 0 3 251 181 252 253 254 255 514 132 515),
 (257,kF "steps_into" "Plan.steps_into" (X8 (top 34) 3) m4 (.ref 256)),
 (263,kC "stops" "Plan.stops" 517 518 519 135 1 0 0 3 258 181 259 260 261 262 521 135 522),
 (264,kF "stops" "Plan.stops" (X8 (top 34) 4) m4 (.ref 263)),
 (270,kC "deeds" "Plan.deeds" 524 525 526 138 1 0 0 3 265 181 266 267 268 269 528 138 529),
 (271,kF "deeds" "Plan.deeds" (X8 (top 34) 5) m4 (.ref 270)),
 (277,kC "names" "Plan.names" 531 532 533 141 1 0 0 3 272 181 273 274 275 276 535 141 536),
 (278,kF "names" "Plan.names" (X8 (top 34) 6) m4 (.ref 277)),
 (280,kD [kE Q "__module__" 483 (.str "oncedone.plans" 419),kE Q "__firstlineno__" 487 (.int (111) 486),kE Q "__init__" 493 (.ref 236),kE Q "steps" 500 (.ref 243),kE Q "leads_to" 508 (.ref 250),kE Q "steps_into" 516 (.ref 257),kE Q "stops" 523 (.ref 264),kE Q "deeds" 530 (.ref 271),kE Q "names" 537 (.ref 278),kE Q "__static_attributes__" 541 (.ref 279),kE Q "__dict__" 543 (.ref 282),kE Q "__weakref__" 545 (.ref 283),kE Q "__doc__" 546 .none] 4),
 (281,⟨(.type "type"),none,.cls { name := "Plan",bases:=[(.type "object")],mro:=[(.ref 281),(.type "object")],ns:=280,qualname := "Plan",hasDict:=true,subclasses:=[] },([none,none,some (.str "Plan" 476),some (.str "Plan" 484),some (.builtin "object.__new__"),some (.bool true)]:List (Option Value)).toArray⟩),
 (291,kC "words_of" "words_of" 551 552 553 144 1 0 0 3 286 181 287 288 289 290 557 144 558),
 (292,kF "words_of" "words_of" (top 36) m5 (.ref 291)),
 (296,kN "shown_place" "shown_place" 560 561 562 149 2 0 0 3 293 181 294 295 563 149 564),
 (297,kF "shown_place" "shown_place" (top 37) m5 (.ref 296)),
 (301,kN "shown" "shown" 566 567 568 155 1 0 0 3 298 181 299 300 569 155 570),
 (302,kF "shown" "shown" (top 38) m5 (.ref 301)),
 (306,kN "thing_of" "thing_of" 572 573 574 157 1 0 0 3 303 181 304 305 575 157 576),
 (307,kF "thing_of" "thing_of" (top 39) m5 (.ref 306)),
 (313,kC "row_of" "row_of" 578 579 580 161 1 0 0 3 308 181 309 310 311 312 582 161 583),
 (314,kF "row_of" "row_of" (top 40) m5 (.ref 313)),
 (318,kN "plan_of" "plan_of" 585 586 587 165 1 0 0 3 315 181 316 317 588 165 589),
 (319,kF "plan_of" "plan_of" (top 41) m5 (.ref 318)),
 (325,kC "read" "read" 591 592 593 177 1 0 0 3 320 181 321 322 323 324 596 177 597),
 (326,kF "read" "read" (top 42) m5 (.ref 325)),
 (330,kN "_law_bag" "_law_bag" 601 602 603 185 1 0 0 3 327 181 328 329 604 185 605),
 (331,kF "_law_bag" "_law_bag" (top 44) m6 (.ref 330)),
 (337,kC "_law_take" "_law_take" 607 608 609 187 2 0 0 3 332 181 333 334 335 336 617 187 618),
 (338,kF "_law_take" "_law_take" (top 45) m6 (.ref 337)),
 (342,kN "_law_name" "_law_name" 620 621 622 206 1 0 0 3 339 181 340 341 623 206 624),
 (343,kF "_law_name" "_law_name" (top 46) m6 (.ref 342))]
def c8f:List Addr:=[250,256,257,263,264,270,271,277,278,280,281,291,292,296,297,301,302,306,307,313,314,318,319,325,326,330,331,337,338,342,343]
def K4(Q:Params):Frag:=[
 (349,kC "_law_names" "_law_names" 626 627 628 210 1 0 0 3 344 181 345 346 347 348 636 210 637),
 (350,kF "_law_names" "_law_names" (top 47) m6 (.ref 349)),
 (356,kC "_law_value" "_law_value" 639 640 641 223 1 0 0 3 351 181 352 353 354 355 643 223 644),
 (357,kF "_law_value" "_law_value" (top 48) m6 (.ref 356)),
 (363,kC "_law_operand" "_law_operand" 646 647 648 225 2 0 0 3 358 181 359 360 361 362 651 225 652),
 (364,kF "_law_operand" "_law_operand" (top 49) m6 (.ref 363)),
 (370,kC "_law_deed" "_law_deed" 654 655 656 229 2 0 0 3 365 181 366 367 368 369 662 229 663),
 (371,kF "_law_deed" "_law_deed" (top 50) m6 (.ref 370)),
 (377,kC "_law_row" "_law_row" 665 666 667 236 4 0 0 3 372 181 373 374 375 376 674 236 675),
 (378,kF "_law_row" "_law_row" (top 51) m6 (.ref 377)),
 (384,kC "_law_net" "_law_net" 677 678 679 248 2 0 0 3 379 181 380 381 382 383 687 248 688),
 (385,kF "_law_net" "_law_net" (top 52) m6 (.ref 384)),
 (389,kN "_law_mended" "_law_mended" 690 691 692 266 1 0 0 3 386 181 387 388 693 266 694),
 (390,kF "_law_mended" "_law_mended" (top 53) m6 (.ref 389)),
 (394,kN "_law_drawn" "_law_drawn" 696 697 698 281 1 0 0 3 391 181 392 393 699 281 700),
 (395,kF "_law_drawn" "_law_drawn" (top 54) m6 (.ref 394)),
 (401,kC "_law_refused" "_law_refused" 702 703 704 289 1 0 0 3 396 181 397 398 399 400 708 289 709),
 (402,kF "_law_refused" "_law_refused" (top 55) m6 (.ref 401)),
 (406,kN "_law_some" "_law_some" 711 712 713 298 3 0 0 3 403 181 404 405 714 298 715),
 (407,kF "_law_some" "_law_some" (top 56) m6 (.ref 406)),
 (413,kC "_law_bad_line" "_law_bad_line" 717 718 719 301 1 0 0 3 408 181 409 410 411 412 722 301 723),
 (414,kF "_law_bad_line" "_law_bad_line" (top 57) m6 (.ref 413)),
 (418,kN "_law_spoilt" "_law_spoilt" 725 726 727 306 2 0 0 3 415 181 416 417 728 306 729),
 (419,kF "_law_spoilt" "_law_spoilt" (top 58) m6 (.ref 418)),
 (423,kN "_law_no_plan" "_law_no_plan" 731 732 733 333 1 0 0 3 420 181 421 422 734 333 735),
 (424,kF "_law_no_plan" "_law_no_plan" (top 59) m6 (.ref 423)),
 (430,kC "law" "law" 737 738 739 340 1 0 0 3 425 181 426 427 428 429 747 340 748),
 (431,kF "law" "law" (top 60) m6 (.ref 430))]
def c8e:List Addr:=[349,350,356,357,363,364,370,371,377,378,384,385,389,390,394,395,401,402,406,407,413,414,418,419,423,424,430,431]
def K(Q:Params):Frag:=K1 Q++(K2 Q++(K3 Q++K4 Q))
def adr:List Addr:=d1f++(c8g++(c8f++c8e))
def q:v8:=view P [60]
def loose:List Str:=(["_wall","OnceError","Wrong","NoThing","TooMany","NoWay","NoText","BOUND","LETTERS","FIGURES","LONGEST_NAME","DEED_KINDS","is_whole","is_value","is_name","is_operand","is_deed","is_row","MOST","is_below","check_length","check_each","FIRST_STEP","are_nexts","check_nexts","stops_of","turned","reached","check_ways","steps_of","Plan","words_of","shown_place","shown","thing_of","row_of","plan_of","read","_law_bag","_law_take","_law_name","_law_names","_law_value","_law_operand","_law_deed","_law_row","_law_net","_law_mended","_law_drawn","_law_refused","_law_some","_law_bad_line","_law_spoilt","_law_no_plan"]:List String).map Str.ofString
theorem c4O{p q:v8}{loose:List Str}{Xt:d4->Bool}{α:Type}{Yf:d4->α}{Ya:World->α}{N m₀:Nat}{ann:Option Value}(e:opening p=plainProg p.main.scope.names)(hN:Nat.ble 600 N=true)(f:∀s,fenceModules? p s=some s)
  (size:∀w:World,((boot_heap w.params).isNs u4,(boot_heap w.params).objs.size,(boot_heap w.params).nsMap u4 "__annotations__")=(true,m₀,ann))
  {r:World->OsState->Option d4} (hr:∀w os,topRun treeTable p w m₀ ann N ⟨boot_heap w.params,Array.mk [],boot_drawn,boot_toks,os⟩ (topStub p)=r w os)
  (ra:∀w os,(r w os).map (fun s₁=>staticsOk (a3n p.main.body) (boot_heap w.params) s₁.heap&&namesBound p s₁.heap&&gensDone s₁&&laidKept (boot_heap w.params) s₁.heap)=some true)
  (rb:∀w os,(r w os).map (openSeen q loose (a3n p.main.body) Xt true)=some (openGood q loose))
  (rc:∀w os,(r w os).map Yf=some (Ya w)) :
  LeftO p q loose Xt Yf Ya N:=fun w=>by
 obtain⟨⟨h,gs,d,k,os⟩,e1,e2⟩:=z7.mp (boot_open e hN f w)
 obtain⟨rfl,rfl,rfl,rfl⟩:h=boot_heap w.params/\gs=Array.mk []/\d=boot_drawn/\k=boot_toks:=by simpa using e2
 obtain⟨z1,z2,z3⟩:_/\_/\_:=by simpa only[Prod.mk.injEq]using size w
 obtain⟨s₁,r1,r3⟩:=z7.mp (ra w os)
 have rb:=rb w os
 have rc:=rc w os
 rw[r1]at rb rc
 have r4:(openSeen q loose (a3n p.main.body) Xt true s₁,Yf s₁)=(openGood q loose,Ya w):=Prod.ext (Option.some.inj rb) (Option.some.inj rc)
 have t:topFrom treeTable p w N ⟨boot_heap w.params,Array.mk [],boot_drawn,boot_toks,os⟩=some s₁:=by
  unfold topFrom
  dsimp only
  rw[z1,z2,z3,hr,r1]
  show(match staticsOk (a3n p.main.body) (boot_heap w.params) s₁.heap&&namesBound p s₁.heap&&gensDone s₁&&laidKept (boot_heap w.params) s₁.heap with | true=>some s₁ | false=>none)=_
  rw[r3]
 unfold openEnds
 rw[e1]
 show(topFrom treeTable p w N _).map _=_
 rw[t]
 exact congrArg some r4
abbrev b2z:Hook:=kHook K adr (fun _=>by kernel_rfl)
abbrev row:OpenLaw:=PySem.Challenge.rw_oncedone_k92_texts_refused
noncomputable section
abbrev rn(w:World)(os:OsState):Option d4:=PySem.W.Fast.tw14082659384304107361 PySem.W.Fast.tw14364793385576792824 P w 11 (some (.ref 6)) 6946 ⟨boot_heap w.params,Array.mk [],boot_drawn,boot_toks,os⟩ (topStub P)
end
theorem d0H(w:World)(os:OsState):(rn w os).map (fun s₁=>staticsOk (a3n P.main.body) (boot_heap w.params) s₁.heap&&namesBound P s₁.heap&&gensDone s₁&&laidKept (boot_heap w.params) s₁.heap)=some true:=by kernel_rfl
theorem d0G(w:World)(os:OsState):(rn w os).map (PySem.W.Fast.tw4187177175401517315 q loose (a3n P.main.body) (fun s=>xlAt q [] s&&recOk (RowW.records row.row.toRowW) s) true)=some (openGood q loose):=by kernel_rfl
theorem c7F(w:World)(os:OsState):(rn w os).map (fun s=>d1f.map s.heap.get?)=some ((K1 w.params).map fun p=>some p.2):=by kernel_rfl
theorem c7E(w:World)(os:OsState):(rn w os).map (fun s=>c8g.map s.heap.get?)=some ((K2 w.params).map fun p=>some p.2):=by kernel_rfl
theorem c7D(w:World)(os:OsState):(rn w os).map (fun s=>c8f.map s.heap.get?)=some ((K3 w.params).map fun p=>some p.2):=by kernel_rfl
theorem c7C(w:World)(os:OsState):(rn w os).map (fun s=>c8e.map s.heap.get?)=some ((K4 w.params).map fun p=>some p.2):=by kernel_rfl
theorem d0F(w:World)(os:OsState):(rn w os).map (Hook.obs b2z)=some (Hook.val b2z w):=by
 obtain⟨s,h1,h2⟩:=z7.mp (c7F w os)
 have h3:=c7E w os
 have h4:=c7D w os
 have h5:=c7C w os
 rw[h1]at h3 h4 h5 ⊢
 have h3:c8g.map s.heap.get? = _:=Option.some.inj h3
 have h4:c8f.map s.heap.get? = _:=Option.some.inj h4
 have h5:c8e.map s.heap.get? = _:=Option.some.inj h5
 show some ((d1f++(c8g++(c8f++c8e))).map s.heap.get?)=some ((K1 w.params++(K2 w.params++(K3 w.params++K4 w.params))).map fun p=>some p.2)
 rw[E9,E9,E9,E9,E9,E9,h2,h3,h4,h5]
theorem left:LeftO P q loose (fun s=>xlAt q [] s&&recOk (RowW.records row.row.toRowW) s) (Hook.obs b2z) (Hook.val b2z) 6946:=
 c4O (m₀:=11) (ann:=(some (.ref 6))) (r:=rn) (by kernel_rfl) (by kernel_rfl) (fun s=>by kernel_rfl) (fun w=>by kernel_rfl) (by rw[PySem.W.Fast.te14082659384304107361,PySem.W.Fast.te14364793385576792824];exact fun _ _=>rfl) d0H (by rw[PySem.W.Fast.te4187177175401517315];exact d0G) d0F
theorem d1L:row.wellSaid=true:=by
 rw[PySem.W.Fast.te9446332074065402090]
 kernel_rfl
theorem fin(hc:∀d:DefRec,d.name = "law" -> d.params.defaults=[]->WalkO q loose (XL q []) (Hook.says b2z) row.row.toRowW d [] (fun f vs=>b4Z f vs)):row.Holds:=by
 refine holds_law (l:=row) d1L fun said=>?_
 refine holds_open (q:=q) (loose:=loose) (Xt:=fun s=>xlAt q [] s&&recOk (RowW.records row.row.toRowW) s) (XP:=XL q []) (Yf:=Hook.obs b2z) (Ya:=Hook.val b2z) (YP:=Hook.says b2z) (N:=6946) left (Hook.of b2z) (Hook.keeps b2z) (fun s e=>xl_of s (c2J.mp e).1) XL.keeps (by rfl) (by rfl) (by rfl) (fun s e=>recFacts_of (c2J.mp e).2) (by rfl) said (by decide +kernel) ⟨rfl,rfl,rfl,rfl,rfl,by decide +kernel⟩ ?hw (hc _ rfl rfl)
 case hw=>w_witness2
end HD
set_option Elab.async false
set_option linter.all false
set_option maxRecDepth 100000
namespace L2
open PySem PySem.Spec PyProof.Rows
variable{us:List Value}{i t':Nat}{u:Value}{C a b dx f:Addr}{w:World}{h h':Heap}{pins:List (Addr×Obj)}{s:d4}{c e tg:Expr}{p pos:Pos}{Q:Value->d4->Prop}{es:List Expr}{kw:List (Str×Value)}{ps:List Str}{m:Str->Option Value}
abbrev Key:=Sum Int Str
def b1N:Key->Value->Bool
 | .inl k,v=>Value.isInt k v
 | .inr x,v=>Value.isStrOf x v
def d3s(w:World):Key->Int
 | .inl k=>hashInt k
 | .inr x=>hashStr w x
theorem V4:∀ {k:Key} {v:Value},b1N k v=true->(∃i t,k=Sum.inl i/\v=Value.int i t)\/(∃x t,k=Sum.inr x/\v=Value.str x t)
 | .inl i,v,h=>by
  obtain⟨t,e⟩:=Value.isInt_shape (k:=i) (v:=v) h
  exact .inl ⟨i,t,rfl,e⟩
 | .inr x,v,h=>by
  obtain⟨t,e⟩:=Value.isStrOf_shape (x:=x) (v:=v) h
  exact .inr ⟨x,t,rfl,e⟩
theorem c1R(i:Int)(t:Tok):b1N (.inl i) (.int i t)=true:=by simp[b1N,Value.isInt]
theorem c1Q(x:Str)(t:Tok):b1N (.inr x) (.str x t)=true:=by simp[b1N,Value.isStrOf]
theorem d0N(a b:Int):decide ((Sum.inl a:Key)=Sum.inl b)=(a == b):=by
 by_cases e:a=b
 ·subst e;simp
 ·have h:¬(Sum.inl a:Key)=Sum.inl b:=fun q=>e (Sum.inl.inj q)
  rw[d4L h]
  exact(beq_eq_false_iff_ne.mpr e).symm
theorem d0K(a b:Str):decide ((Sum.inr a:Key)=Sum.inr b)=decide (a=b):=by
 by_cases e:a=b
 ·subst e;simp
 ·have h:¬(Sum.inr a:Key)=Sum.inr b:=fun q=>e (Sum.inr.inj q)
  rw[d4L h,d4L e]
theorem d0M(a:Int)(b:Str):decide ((Sum.inl a:Key)=Sum.inr b)=false:=d4L (fun q=>nomatch q)
theorem d0L(a:Str)(b:Int):decide ((Sum.inr a:Key)=Sum.inl b)=false:=d4L (fun q=>nomatch q)
def X7(prog:v8)(w:World):PySem.KeyKind prog w Key where
 is:=b1N
 hash:=d3s w
 inj:=fun v a b ha hb=>by
  rcases V4 ha with ⟨i,t,rfl,rfl⟩ | ⟨x,t,rfl,rfl⟩
  ·rcases V4 hb with ⟨j,u,rfl,e⟩ | ⟨y,u,rfl,e⟩
   ·injection e with e1 _;rw[e1]
   ·exact nomatch e
  ·rcases V4 hb with ⟨j,u,rfl,e⟩ | ⟨y,u,rfl,e⟩
   ·exact nomatch e
   ·injection e with e1 _;rw[e1]
 byValue:=fun k v h=>by
  rcases V4 h with ⟨i,t,rfl,rfl⟩ | ⟨x,t,rfl,rfl⟩ <;> rfl
 pyHash:=fun hv h=>by
  rcases V4 hv with ⟨i,t,rfl,rfl⟩ | ⟨x,t,rfl,rfl⟩
  ·exact wpAny_pyHash_int h
  ·exact wpAny_pyHash_str h
 eqBool:=fun hu hv h=>by
  rcases V4 hu with ⟨i,t,rfl,rfl⟩ | ⟨x,t,rfl,rfl⟩
  ·rcases V4 hv with ⟨j,u,rfl,rfl⟩ | ⟨y,u,rfl,rfl⟩
   ·rw[d0N]at h;exact wpAny_eqBool_int h
   ·rw[d0M]at h;exact SeqAt.EqAt.int_str i t y u _ _ _ _ h
  ·rcases V4 hv with ⟨j,u,rfl,rfl⟩ | ⟨y,u,rfl,rfl⟩
   ·rw[d0L]at h;exact SeqAt.EqAt.str_int x t j u _ _ _ _ h
   ·rw[d0K]at h;exact wpAny_eqBool_str h
 «strs» := fun k x t v h=>by
  rcases V4 h with ⟨i,u,rfl,e⟩ | ⟨y,u,rfl,e⟩
  ·exact nomatch e
  ·injection e with e1 _
   subst e1
   cases v <;> rfl
theorem b6v(prog:v8)(w:World)(i:Int)(t:Tok):(X7 prog w).is (.inl i) (.int i t)=true:=c1R i t
theorem b6u(prog:v8)(w:World)(x:Str)(t:Tok):(X7 prog w).is (.inr x) (.str x t)=true:=c1Q x t
inductive V where
 | non | bl (b:Bool) | int (i:Int) | str (x:Str) | byt (b:Array UInt8) | flt (b:UInt64) | ref (a:Addr) | ty (n:String)
 deriving DecidableEq
variable{v y:V}{xs:List V}{kvs:List (Key×V)}
def F1:V->Value->Prop
 | .non,u=>u=Value.none
 | .bl b,u=>u=Value.bool b
 | .int i,u=>∃t,u=Value.int i t
 | .str x,u=>∃t,u=Value.str x t
 | .byt b,u=>∃t,u=Value.bytes b t
 | .flt b,u=>∃t,u=Value.float b t
 | .ref a,u=>u=Value.ref a
 | .ty n,u=>u=Value.type n
abbrev J0:List V->List Value->Prop:=Paired F1
theorem J0.length(r:J0 xs us):xs.length=us.length:=Paired.length r
theorem J0.get:∀ {xs:List V} {us:List Value} {i:Nat} {x:V},J0 xs us->xs[i]? = some x->∃u,us[i]? = some u/\F1 x u
 | _,_,_,_,.nil,e=>by simp at e
 | _,_,0,_,.cons r _,e=>by simp at e;subst e;exact⟨_,rfl,r⟩
 | _,_,i+1,x,.cons _ t,e=>by
  obtain⟨u,h1,h2⟩:=J0.get (i:=i) (x:=x) t (by simpa using e)
  exact⟨u,by simpa using h1,h2⟩
theorem J0.set{x:V}(r:F1 x u):∀ {xs:List V} {us:List Value} (i:Nat),J0 xs us->J0 (xs.set i x) (us.set i u)
 | _,_,_,.nil=>.nil
 | _,_,0,.cons _ t=>.cons r t
 | _,_,i+1,.cons q t=>.cons q (J0.set r i t)
theorem J0.append:∀ {xs ys:List V} {us ws:List Value},J0 xs us->J0 ys ws->J0 (xs++ys) (us++ws)
 | _,_,_,_,.nil,s=>s
 | _,_,_,_,.cons r t,s=>.cons r (J0.append t s)
theorem J0.take:∀ {xs:List V} {us:List Value} (n:Nat),J0 xs us->J0 (xs.take n) (us.take n)
 | _,_,0,_=>.nil
 | _,_,_+1,.nil=>.nil
 | _,_,n+1,.cons r t=>.cons r (J0.take n t)
theorem J0.drop:∀ {xs:List V} {us:List Value} (n:Nat),J0 xs us->J0 (xs.drop n) (us.drop n)
 | _,_,0,r=>r
 | _,_,_+1,.nil=>.nil
 | _,_,n+1,.cons _ t=>J0.drop n t
def a5v:Option V->Option Value->Prop
 | some v,some u=>F1 v u
 | none,none=>True
 | _,_=>False
def KV{κ:Type}:List (κ×V)->List (κ×Value)->Prop:=Paired fun(p:κ×V) (q:κ×Value)=>p.1=q.1/\F1 p.2 q.2
def kV:Key->V
 | .inl i=>.int i
 | .inr x=>.str x
inductive HO where
 /-- a list -/
 | lst (xs:List V)
 /-- a tuple (never changes) -/
 | tup (xs:List V)
 /-- a dict whose keys are ints and texts;one whose keys are tuples of ints and texts (the empty one is both) -/
 | dK (kvs:List (Key×V)) | dT (kvs:List (List Key×V))
 /-- a set of ints: its members,its size -/
 | set (S:Int->Bool) (n:Nat)
 /-- an instance of the class at C,its dict at dx,its attributes -/
 | ins (C dx:Addr) (fs:List (Str×V))
 /-- the dict of the instance at x -/
 | own (x:Addr)
 /-- the dict of an exception -/
 | xd (fs:List (Str×V))
 /-- a bound method,f of x -/
 | met (f x:Addr)
 /-- a range object lo,lo+1,.. below hi -/
 | rng (lo hi:Int)
 /-- a thing that is known to the object (the script;a dict while a loop walks it): read,never written while it is so -/
 | frz (o:Obj) (u:HO)
 /-- a code object's table -/
 | tbl (ps:Array Value)
 /-- any other thing,by what is true of its one object (a def of one's own: SetO a S n:=HO.ext fun h=>..) -/
 | ext (φ:Heap->Prop)
variable{o:HO}
abbrev Hp:=Addr->Option HO
variable{H H':Hp}
def upd(H:Hp)(a:Addr)(o:HO):Hp:=fun b=>if b=a then some o else H b
theorem c7:upd H a o a=some o:=by unfold upd;rw[if_pos rfl]
theorem g7(h:b≠a):upd H a o b=H b:=by unfold upd;rw[if_neg h]
theorem a6k{u:HO}:upd (upd H a o) a u=upd H a u:=by
 funext b;unfold upd;split <;> rfl
theorem R1{u:HO}(h:H a=some o)(h':H b=some u)(d:o≠u):a≠b:=by
 intro e;subst e;rw[h]at h';exact d (Option.some.inj h')
theorem c6(h:H a=some o)(h':H b=none):a≠b:=by
 intro e;subst e;rw[h]at h';cases h'
section
variable (P:v8)(w:World)
def U6(H:Hp)(h:Heap)(a:Addr):HO->Prop
 | .lst xs=>xs.length<=j7/\∃(its:List Value) (n:Nat),J0 xs its/\h.get? a=some { cls:=.type "list",data:=.seq its.toArray n }
 | .tup xs=>xs.length<=j7/\∃its:List Value,J0 xs its/\IsTup h a its.toArray
 | .dK kvs=>kvs.length<=j7/\(a == a3S)=false/\∃vs,KV kvs vs/\h.DictOf (X7 P w) a vs
 | .dT kvs=>kvs.length<=j7/\(a == a3S)=false/\∃xs:List (List Key×Addr×Value),
   Paired (fun(p:List Key×V) (q:List Key×Addr×Value)=>p.1=q.1/\H q.2.1=some (.tup (p.1.map kV))/\F1 p.2 q.2.2) kvs xs /\
   ∃o es ep,h.get? a=some o/\o.ExactDict/\o.data=.dict es ep/\es.toList=xs.map (entryOfKey (c2K (X7 P w)))/\(xs.map (·.1)).Nodup
 | .set S n=>h.SetOf (intKind P w) a S n
 | .ins C dx fs=>H dx=some (.own a)/\fs.length<=1000/\dx≠a/\h.get? a=some (U7 C dx) /\
   ∃mA,h.Ns1 dx mA/\(∀f,a5v (fs.lookup f) (mA f))/\PySem.Within mA (fs.map (·.1))
 | .own _=>∃o,h.get? a=some o
 | .xd fs=>∃mA,h.Ns1 a mA/\∀f,a5v (fs.lookup f) (mA f)
 | .rng lo hi=>∃t u v,h.get? a=some { cls:=.type "range",data:=.fields #[.int lo t,.int hi u,.int 1 v] }
 | .frz o u=>h.get? a=some o/\U6 H h a u
 | .tbl ps=>h.get? a=some { cls:=.none,data:=.fields ps }
 | .met f x=>h.get? a=some (a9J (.ref f) (.ref x))
 | .ext φ=>φ h/\(∃o,h.get? a=some o)/\∀h1 h2:Heap,φ h1->(∀o,h1.get? a=some o->h2.get? a=some o)->φ h2
def HOk(H:Hp)(h:Heap):Prop:=∀a o,H a=some o->U6 P w H h a o
end
section
variable {P:v8}
theorem U6.lt(x:U6 P w H h a o):a<h.objs.size:=by
 cases o with
 | lst xs=>obtain⟨_,_,_,_,e⟩:=x;exact h9 e
 | tup xs=>obtain⟨_,_,_,p⟩:=x;exact p.lt
 | dK kvs=>obtain⟨_,_,_,_,o,_,_,e,_⟩:=x;exact h9 e
 | dT kvs=>obtain⟨_,_,_,_,o,_,_,e,_⟩:=x;exact h9 e
 | set S n=>obtain⟨o,_,_,_,e,_⟩:=x;exact h9 e
 | ins C dx fs=>obtain⟨_,_,_,e,_⟩:=x;exact h9 e
 | own y=>obtain⟨_,e⟩:=x;exact h9 e
 | xd fs=>obtain⟨_,⟨_,_,_,e,_⟩,_⟩:=x;exact h9 e
 | rng lo hi=>obtain⟨_,_,_,e⟩:=x;exact h9 e
 | frz ob u=>obtain⟨e,_⟩:=x;exact h9 e
 | tbl ps=>exact h9 (show h.get? a=some _ from x)
 | met f y=>exact h9 (show h.get? a=some _ from x)
 | ext φ=>obtain⟨_,⟨_,e⟩,_⟩:=x;exact h9 e
theorem Paired.mapP{α β:Type}{F G:α->β->Prop}:∀ {l₁:List α} {l₂:List β},Paired F l₁ l₂->(∀a b,F a b->G a b)->Paired G l₁ l₂
 | _,_,.nil,_=>.nil
 | _,_,.cons r t,f=>.cons (f _ _ r) (Paired.mapP t f)
theorem U6.stay(x:U6 P w H h a o)(k:∀b u,(b=a\/H b=some (.own a))->h.get? b=some u->h'.get? b=some u)
  (ho:∀b,H b=some (.own a)->H' b=some (.own a)) (ht:∀b xs,H b=some (.tup xs)->H' b=some (.tup xs)):U6 P w H' h' a o:=by
 induction o with
 | lst xs=>obtain⟨z,its,n,r,e⟩:=x;exact⟨z,its,n,r,k _ _ (.inl rfl) e⟩
 | tup xs=>obtain⟨z,its,r,ob,e,c⟩:=x;exact⟨z,its,r,ob,k _ _ (.inl rfl) e,c⟩
 | dK kvs=>obtain⟨z,y,vs,r,ob,es,ep,e,c⟩:=x;exact⟨z,y,vs,r,ob,es,ep,k _ _ (.inl rfl) e,c⟩
 | dT kvs=>
  obtain⟨z,y,xs,r,ob,es,ep,e,c⟩:=x
  exact⟨z,y,xs,Paired.mapP r fun p q z=>⟨z.1,ht _ _ z.2.1,z.2.2⟩,ob,es,ep,k _ _ (.inl rfl) e,c⟩
 | set S n=>obtain⟨ob,es,ep,t,e,c⟩:=x;exact⟨ob,es,ep,t,k _ _ (.inl rfl) e,c⟩
 | ins C dx fs=>
  obtain⟨d,z,ne,e,mA,⟨od,es,ep,e2,c⟩,r⟩:=x
  exact⟨ho _ d,z,ne,k _ _ (.inl rfl) e,mA,⟨od,es,ep,k _ _ (.inr d) e2,c⟩,r⟩
 | own y=>obtain⟨ob,e⟩:=x;exact⟨ob,k _ _ (.inl rfl) e⟩
 | xd fs=>obtain⟨mA,⟨od,es,ep,e,c⟩,r⟩:=x;exact⟨mA,⟨od,es,ep,k _ _ (.inl rfl) e,c⟩,r⟩
 | rng lo hi=>obtain⟨t,u,v,e⟩:=x;exact⟨t,u,v,k _ _ (.inl rfl) e⟩
 | frz ob u ih=>obtain⟨e,q⟩:=x;exact⟨k _ _ (.inl rfl) e,ih q⟩
 | tbl ps=>
  have e:h.get? a=some { cls:=.none,data:=.fields ps }:=x
  show h'.get? a=some { cls:=.none,data:=.fields ps }
  exact k a _ (.inl rfl) e
 | met f y=>
  have e:h.get? a=some (a9J (.ref f) (.ref y)):=x
  show h'.get? a=some (a9J (.ref f) (.ref y))
  exact k a _ (.inl rfl) e
 | ext φ=>obtain⟨p,⟨o,e⟩,st⟩:=x;exact⟨st _ _ p fun o q=>k _ _ (.inl rfl) q,⟨o,k _ _ (.inl rfl) e⟩,st⟩
theorem HOk.lt(x:HOk P w H h)(e:H a=some o):a<h.objs.size:=(x a o e).lt
theorem HOk.fresh(x:HOk P w H h)(e:h.objs.size<=a):H a=none:=by
 cases q:H a with
 | none=>rfl
 | some u=>exact absurd (t8 (x.lt q) e) (E8 _)
theorem HOk.kept(x:HOk P w H h)(k:∀b u,h.get? b=some u->h'.get? b=some u):HOk P w H h':=fun a o e=>
 (x a o e).stay (fun b u _ q=>k b u q) (fun _ q=>q) fun _ _ q=>q
theorem HOk.laid(x:HOk P w H h)(k:∀b u,h.get? b=some u->h'.get? b=some u)(hp:h.objs.size<=a)(new:U6 P w (upd H a o) h' a o):HOk P w (upd H a o) h':=fun b u e=>by
 have hn:=x.fresh hp
 by_cases hb:b=a
 ·subst hb;rw[c7]at e;cases e;exact new
 ·rw[g7 hb]at e
  exact(x b u e).stay (fun c v _ q=>k c v q) (fun c q=>by rw[g7 (c6 q hn)];exact q) fun c xs q=>by rw[g7 (c6 q hn)];exact q
end
def Rd(H:Hp)(a:Addr)(u:HO):Prop:=H a=some u\/∃o,H a=some (.frz o u)
theorem Rd.ok{P:v8}{u:HO}(r:Rd H a u)(x:HOk P w H h):U6 P w H h a u:=by
 rcases r with r | ⟨o,r⟩
 ·exact x a u r
 ·obtain⟨_,q⟩:=x a _ r
  exact q
def Mut:Option HO->Prop
 | some (.lst _)=>True
 | some (.dK _)=>True
 | some (.dT _)=>True
 | some (.set _ _)=>True
 | some (.ins _ _ _)=>True
 | some (.ext _)=>True
 | _=>False
section
variable {P:v8}{x e:Addr}{o':HO}
theorem HOk.write(ok:HOk P w H h)(mu:Mut (H x))(he:e=x\/H e=some (.own x))(k:∀b u,b≠e->h.get? b=some u->h'.get? b=some u)(heo:∃u,h'.get? e=some u)
  (new:U6 P w (upd H x o') h' x o'):HOk P w (upd H x o') h':=fun b u q=>by
 have nown:∀c y,H c=some (.own y)->c≠x:=fun c y r z=>by subst z;rw[r]at mu;exact mu
 have ntup:∀c xs,H c=some (.tup xs)->c≠x:=fun c xs r z=>by subst z;rw[r]at mu;exact mu
 by_cases hb:b=x
 ·subst hb;rw[c7]at q;cases q;exact new
 ·rw[g7 hb]at q
  by_cases hbe:b=e
  ·have q':H b=some (.own x):=by
    rcases he with z | z
    ·exact absurd (hbe.trans z) hb
    ·rw[hbe];exact z
   rw[q]at q';cases q'
   obtain⟨v,hv⟩:=heo
   exact⟨v,by rw[hbe];exact hv⟩
  ·refine(ok b u q).stay (fun c v hc r=>k c v ?_ r) (fun c r=>by rw[g7 (nown c b r)];exact r) fun c xs r=>by rw[g7 (ntup c xs r)];exact r
   rcases hc with rfl | hc
   ·exact hbe
   ·rintro rfl
    rcases he with z | z
    ·exact nown c b hc z
    ·rw[hc]at z;cases z;exact hb rfl
end
structure Un(fs ex:List Addr)(H H':Hp)(h h':Heap):Prop where
 keep:∀b o,h.get? b=some o->H b=none->b∉fs->b∉ex->h'.get? b=some o
 slot:∀b o,h.get? b=some o->H b=none->b∈fs->b∉ex->∃sl,h'.get? b=some { o with slots:=sl }
 free:∀b o,h.get? b=some o->H b=none->b∉ex->H' b=none
 there:∀b o,h.get? b=some o->b∉ex->∃o',h'.get? b=some o'
 tups:∀b xs,H b=some (.tup xs)->H' b=some (.tup xs)
 frzs:∀b o u,H b=some (.frz o u)->H' b=some (.frz o u)
 tbls:∀b ps,H b=some (.tbl ps)->∃more,H' b=some (.tbl (ps++more))
section
variable {fs fs' ex ex':List Addr}{H1 H2:Hp}{h1 h2:Heap}{x e:Addr}
theorem Un.any(u:Un fs ex H H1 h h1){ob:Obj}(q:h.get? b=some ob)(n:H b=none)(hx:b∉ex):∃sl,h1.get? b=some { ob with slots:=sl }:=by
 by_cases hb:b∈fs
 ·exact u.slot b ob q n hb hx
 ·exact⟨ob.slots,u.keep b ob q n hb hx⟩
theorem Un.kept(k:∀b u,h.get? b=some u->h'.get? b=some u):Un fs ex H H h h':=
 ⟨fun b ob q _ _ _=>k b ob q,fun b ob q _ _ _=>⟨ob.slots,k b ob q⟩,fun _ _ _ n _=>n,fun b ob q _=>⟨ob,k b ob q⟩,fun _ _ q=>q,fun _ _ _ q=>q,fun _ ps q=>⟨#[],by rw[q];simp⟩⟩
theorem Un.refl:Un fs ex H H h h:=Un.kept fun _ _ q=>q
theorem Un.laid(k:∀b u,h.get? b=some u->h'.get? b=some u)(hp:h.objs.size<=a)(hn:H a=none):Un fs ex H (upd H a o) h h' where
 keep:=fun b u q _ _ _=>k b u q
 slot:=fun b u q _ _ _=>⟨u.slots,k b u q⟩
 free:=fun b u q n _=>by rw[g7 (z5 (t8 (h9 q) hp))];exact n
 there:=fun b u q _=>⟨u,k b u q⟩
 tups:=fun b xs q=>by rw[g7 (c6 q hn)];exact q
 frzs:=fun b u xs q=>by rw[g7 (c6 q hn)];exact q
 tbls:=fun b ps q=>⟨#[],by rw[g7 (c6 q hn),q];simp⟩
theorem Un.write(mu:Mut (H x))(he:e=x\/H e=some (.own x))(k:∀b u,b≠e->h.get? b=some u->h'.get? b=some u)(heo:∃u,h'.get? e=some u):Un fs ex H (upd H x o) h h':=by
 have hx:∀b,H b=none->b≠x:=fun b n z=>by subst z;rw[n]at mu;exact mu
 have hb:∀b,H b=none->b≠e:=fun b n z=>by
  subst z
  rcases he with r | r
  ·exact hx b n r
  ·rw[n]at r;cases r
 have hm:∀b u,H b=some u->¬Mut (some u)->b≠x:=fun b u q nm z=>by subst z;rw[q]at mu;exact nm mu
 refine⟨fun b u q n _ _=>k b u (hb b n) q,fun b u q n _ _=>⟨u.slots,k b u (hb b n) q⟩,fun b u q n _=>by rw[g7 (hx b n)];exact n,fun b u q _=>?_,
  fun b xs q=>by rw[g7 (hm b _ q fun z=>z)];exact q,fun b u xs q=>by rw[g7 (hm b _ q fun z=>z)];exact q,fun b ps q=>⟨#[],by rw[g7 (hm b _ q fun z=>z),q];simp⟩⟩
 by_cases hbe:b=e
 ·subst hbe;exact heo
 ·exact⟨u,k b u hbe q⟩
end
def trk(h:Heap)(H:Hp):List Addr:=(l6 h.objs.size).filter fun a=>(H a).isSome
def b4x(h:Heap)(H:Hp):Heap:=PySem.W.hideAll h (trk h H)
theorem c1Y(h:Heap)(H:Hp):(b4x h H).objs.size=h.objs.size:=PySem.W.hideAll_size _ _
theorem c4Y{o:Obj}(e:h.get? b=some o)(n:H b=none):(b4x h H).get? b=some o:=
 PySem.W.hideAll_get _ e fun hm=>by
  have q:(H b).isSome=true:=(Z1.mp hm).2
  rw[n]at q;simp at q
theorem c7r{o:Obj}(e:(b4x h H).get? b=some o):h.get? b=some o/\H b=none:=by
 have e':h.get? b=some o:=PySem.W.of_hideAll (trk h H) e
 refine⟨e',?_⟩
 cases q:H b with
 | none=>rfl
 | some x=>
  have hm:b∈trk h H:=Z1.mpr ⟨E5.mpr (h9 e'),by simp[q]⟩
  have z:(b4x h H).get? b=none:=PySem.W.hideAll_none (trk h H) hm
  rw[z]at e;cases e
def c8d(g h:Heap)(L:Addr):List (Addr×Obj):=(l6 h.objs.size).filterMap fun a=>if a=L\/(g.get? a).isSome=true then none else (h.get? a).map fun o=>(a,o)
def rest(g h:Heap)(L d:Addr):List (Addr×Obj):=(c8d g h L).filter fun p=>decide (p.1≠d)
structure Mod(K:Fg)(mg:Str->Option Value)(base:Heap):Prop where
 kin:K.In base
 glob:base.Ns u4 mg
 blt:∃mb,base.Ns builtinsNs mb/\∀x:Str,x ≠ "__name__" -> mb x=a0W x
 nolimit:base.NoLimit
structure Cx where
 prog:v8
 w:World
 K:Fg
 mg:Str->Option Value
 base:Heap
 A:F3
 N:List Str
 s₀:d4
 H₀:Hp
 env:Env
 outer:List Env
 stack:List Env
 ex:List Addr
 fn:Str->Bool
 calm:Bool
 pn:List (Addr×Obj)
 xe:Value->d4->Prop
variable{X:Cx}
def frs(l:List Env):List Addr:=l.filterMap (·.frame)
abbrev Cx.fs(X:Cx):List Addr:=frs X.outer
def Vis(sc:Scope)(x:Str):Prop:=sc.names.lookup x=some .local\/sc.names.lookup x=some .cell\/sc.names.lookup x=some .free
def Loc(sc:Scope)(x:Str):Prop:=sc.names.lookup x=some .local\/sc.names.lookup x=some .cell
def d3A(env:Env)(h:Heap)(m:Str->Option Value)(x:Str)(u:Value):Prop:=
 (env.kindOf x=some .local/\m x=some u)\/((env.kindOf x=some .cell\/env.kindOf x=some .free)/\∃c,env.cells.lookup x=some c/\h.IsCell c (some u))
structure Cx.Ok(X:Cx):Prop where
 mod:Mod X.K X.mg X.base
 kind:X.env.scope.kind=.function
 glob:X.env.globals=u4
 blt:X.env.builtins=builtinsNs
 above:X.s₀.heap.objs.size<=X.env.locals
 inj:∀x y c,X.env.cells.lookup x=some c->X.env.cells.lookup y=some c->x=y
 has:∀x,(X.env.kindOf x=some .cell\/X.env.kindOf x=some .free)->∃c,X.env.cells.lookup x=some c
 cab:∀x c,X.fn x=true->X.env.cells.lookup x=some c->X.s₀.heap.objs.size<=c
 hd:X.calm=true->X.A.handled=none
 frames:X.A.frames=some X.stack
 stk:X.stack=X.outer\/(X.stack=X.env::X.outer/\X.env.frame=some X.env.locals)
 exf:∀b∈X.ex,b≠X.env.locals/\∀x c,X.env.cells.lookup x=some c->c≠b
 bs:∀b o,X.base.get? b=some o->X.s₀.heap.get? b=some o/\X.H₀ b=none
 bsz:X.base.objs.size<=X.s₀.heap.objs.size
 noex:∀b o,X.base.get? b=some o->b∉X.ex
 exfs:∀b∈X.ex,b∉X.fs
 funs:X.s₀.heap.FunFrames X.base X.outer
 frf:∀b∈X.fs,X.H₀ b=none
structure Inv(X:Cx)(pins:List (Addr×Obj))(σ:List (Option V))(H:Hp)(s:d4):Prop where
 ok:X.Ok
 os:s.os=X.s₀.os
 bare:b0C s.gens
 base:Un X.fs X.ex X.H₀ H X.s₀.heap s.heap
 loc:∃m,s.heap.Ns X.env.locals m/\∀(i:Nat) (x:Str) (v:V),X.N[i]? = some x->σ[i]? = some (some v)->Vis X.env.scope x->∃u,F1 v u/\d3A X.env s.heap m x u
 cell:∀x c,X.env.cells.lookup x=some c->∃v,s.heap.IsCell c v
 free:H X.env.locals=none
 freeC:∀x c,X.env.cells.lookup x=some c->H c=none
 pin:∀p∈X.pn++pins,s.heap.get? p.1=some p.2/\H p.1=none/\p.1≠X.env.locals/\p.1∉X.fs/\∀v,p.2.data≠.cell v
 hok:HOk X.prog X.w H s.heap
 len:σ.length=X.N.length
section
variable {σ:List (Option V)}
theorem Cx.Ok.nofr(ok:X.Ok){o:Obj}(e:X.base.get? b=some o):b∉X.fs:=fun hb=>by
 have:=(ok.funs.mem hb).1
 rw[e]at this;cases this
theorem Inv.bs(I:Inv X pins σ H s):∀b o,X.base.get? b=some o->s.heap.get? b=some o/\H b=none:=fun b o e=>
 ⟨I.base.keep b o (I.ok.bs b o e).1 (I.ok.bs b o e).2 (I.ok.nofr e) (I.ok.noex b o e),I.base.free b o (I.ok.bs b o e).1 (I.ok.bs b o e).2 (I.ok.noex b o e)⟩
theorem Inv.bk(I:Inv X pins σ H s):∀b o,X.base.get? b=some o->s.heap.get? b=some o:=fun b o e=>(I.bs b o e).1
theorem Inv.mod(I:Inv X pins σ H s):Mod X.K X.mg X.base:=I.ok.mod
theorem Inv.kIn(I:Inv X pins σ H s):X.K.In s.heap:=I.ok.mod.kin.keeps I.bk
theorem Inv.lt(I:Inv X pins σ H s):X.env.locals<s.heap.objs.size:=let⟨_,hn,_⟩:=I.loc;hn.lt
theorem Inv.sz(I:Inv X pins σ H s):X.s₀.heap.objs.size<=s.heap.objs.size:=t5 I.ok.above (b2n I.lt)
theorem Inv.nofs(I:Inv X pins σ H s)(h:s.heap.objs.size<=a):a∉X.fs:=fun hb=>by
 obtain⟨_,o,ho,_⟩:=I.ok.funs.mem hb
 exact absurd (t8 (h9 ho) (t5 I.sz h)) (E8 _)
theorem Inv.cne(I:Inv X pins σ H s):∀x c,X.env.cells.lookup x=some c->c≠X.env.locals:=fun x c e z=>by
 obtain⟨v,o,ho,hd⟩:=I.cell x c e
 obtain⟨m,⟨o',es,ep,ho',hd',_⟩,_⟩:=I.loc
 rw[z,ho']at ho;cases ho;rw[hd']at hd;cases hd
theorem Inv.funs(I:Inv X pins σ H s):s.heap.FunFrames X.base X.outer:=by
 have all:∀(l:List Env),(∀b∈frs l,b∈X.fs)->X.s₀.heap.FunFrames X.base l->s.heap.FunFrames X.base l:=by
  intro l
  induction l with
  | nil=>intro _ _;trivial
  | cons env r ih=>
   intro hs hl
   obtain⟨hk,⟨L,o,hf,hn,ho,hd⟩,hr⟩:=hl
   have hL:L∈X.fs:=hs L (by unfold frs;rw[a8J,hf];exact A6)
   obtain⟨sl,e⟩:=I.base.slot L o ho (I.ok.frf L hL) hL fun z=>I.ok.exfs L z hL
   exact⟨hk,⟨L,_,hf,hn,e,hd⟩,ih (fun b hb=>hs b (by unfold frs;rw[a8J,hf];exact c9 _ hb)) hr⟩
 exact all X.outer (fun _ hb=>hb) I.ok.funs
theorem Inv.stack(I:Inv X pins σ H s):s.heap.FunFrames X.base X.stack:=by
 rcases I.ok.stk with e | ⟨e,hf⟩
 ·rw[e];exact I.funs
 ·rw[e]
  obtain⟨m,hn,_⟩:=I.loc
  refine .cons (by rw[I.ok.kind];decide) hf hn ?_ I.funs
  exact Heap.get?_none_of_le (t5 I.ok.bsz I.ok.above)
theorem Inv.stkSub(I:Inv X pins σ H s):∀b∈frs X.stack,b∈X.env.locals::X.fs:=fun b hb=>by
 rcases I.ok.stk with e | ⟨e,hf⟩
 ·rw[e]at hb;exact c9 _ hb
 ·rw[e]at hb
  unfold frs at hb
  rw[a8J,hf]at hb
  exact hb
theorem Inv.stkFree(I:Inv X pins σ H s):∀b∈frs X.stack,H b=none:=fun b hb=>by
 rcases c5.mp (I.stkSub b hb)with e | hb
 ·rw[e];exact I.free
 ·obtain⟨_,o,ho,_⟩:=I.ok.funs.mem hb
  exact I.base.free b o ho (I.ok.frf b hb) fun z=>I.ok.exfs b z hb
theorem Inv.step{g':Array GenState}{t':Nat}{d':Drawn}{ch:List Addr}(I:Inv X pins σ H s)
  (hch:∀b∈ch,(b∈X.ex\/X.s₀.heap.objs.size<=b)/\b≠X.env.locals/\(∀x c,X.env.cells.lookup x=some c->c≠b)/\∀p∈X.pn++pins,p.1≠b)
  (keep:∀b o,b≠X.env.locals->b∉X.fs->b∉ch->s.heap.get? b=some o->H b=none->h'.get? b=some o)
  (slot:∀b o,b≠X.env.locals->b∈X.fs->b∉ch->s.heap.get? b=some o->H b=none->∃sl,h'.get? b=some { o with slots:=sl }) (free:∀b o,b∉ch->s.heap.get? b=some o->H b=none->H' b=none)
  (there:∀b o,b∉ch->s.heap.get? b=some o->∃o',h'.get? b=some o')
  (tups:∀b xs,H b=some (.tup xs)->H' b=some (.tup xs)) (frzs:∀b o u,H b=some (.frz o u)->H' b=some (.frz o u)) (tbls:∀b ps,H b=some (.tbl ps)->∃more,H' b=some (.tbl (ps++more)))
  (ns:∀m,s.heap.Ns X.env.locals m->h'.Ns X.env.locals m) (hok:HOk X.prog X.w H' h') (hg:b0C g') :
  Inv X pins σ H' { s with heap:=h',gens:=g',drawn:=d',toks:=t' }:=by
 have neL:∀b o,X.s₀.heap.get? b=some o->b≠X.env.locals:=fun b o e=>z5 (t8 (h9 e) I.ok.above)
 have neC:∀b o,X.s₀.heap.get? b=some o->b∉X.ex->b∉ch:=fun b o e hx hb=>by
  rcases(hch b hb).1 with z | z
  ·exact hx z
  ·exact absurd (t8 (h9 e) z) (E8 _)
 have cellK:∀x c,X.env.cells.lookup x=some c->∀v,s.heap.IsCell c v->h'.IsCell c v:=fun x c e v ⟨o,ho,hd⟩=>by
  have nch:c∉ch:=fun z=>(hch c z).2.2.1 x c e rfl
  by_cases hc:c∈X.fs
  ·obtain⟨sl,q⟩:=slot c o (I.cne x c e) hc nch ho (I.freeC x c e)
   exact⟨_,q,hd⟩
  ·exact⟨o,keep c o (I.cne x c e) hc nch ho (I.freeC x c e),hd⟩
 refine⟨I.ok,I.os,hg,⟨fun b o e n hb hx=>?_,fun b o e n hb hx=>?_,fun b o e n hx=>?_,fun b o e hx=>?_,fun b xs e=>tups b xs (I.base.tups b xs e),fun b o xs e=>frzs b o xs (I.base.frzs b o xs e),fun b ps e=>?_⟩,?_,fun x c e=>?_,?_,fun x c e=>?_,fun p hp=>?_,hok,I.len⟩
 ·exact keep b o (neL b o e) hb (neC b o e hx) (I.base.keep b o e n hb hx) (I.base.free b o e n hx)
 ·obtain⟨sl,e1⟩:=I.base.slot b o e n hb hx
  obtain⟨sl',e2⟩:=slot b _ (neL b o e) hb (neC b o e hx) e1 (I.base.free b o e n hx)
  exact⟨sl',e2⟩
 ·obtain⟨o',e1⟩:=I.base.there b o e hx
  exact free b o' (neC b o e hx) e1 (I.base.free b o e n hx)
 ·obtain⟨o',e1⟩:=I.base.there b o e hx
  exact there b o' (neC b o e hx) e1
 ·obtain⟨m1,e1⟩:=I.base.tbls b ps e
  obtain⟨m2,e2⟩:=tbls b _ e1
  exact⟨m1++m2,by rw[e2,Array.append_assoc]⟩
 ·obtain⟨m,hn,hl⟩:=I.loc
  refine⟨m,ns m hn,fun i x v e1 e2 e3=>?_⟩
  obtain⟨u,r,l⟩:=hl i x v e1 e2 e3
  refine⟨u,r,?_⟩
  rcases l with l | ⟨k,c,e,z⟩
  ·exact .inl l
  ·exact .inr ⟨k,c,e,cellK x c e _ z⟩
 ·obtain⟨v,z⟩:=I.cell x c e
  exact⟨v,cellK x c e v z⟩
 ·obtain⟨m,⟨o,_,_,ho,_⟩,_⟩:=I.loc
  exact free _ o (fun z=>(hch _ z).2.1 rfl) ho I.free
 ·obtain⟨v,o,ho,hd⟩:=I.cell x c e
  exact free c o (fun z=>(hch c z).2.2.1 x c e rfl) ho (I.freeC x c e)
 ·obtain⟨e,n,ne,nf,d⟩:=I.pin p hp
  have nch:p.1∉ch:=fun z=>(hch p.1 z).2.2.2 p hp rfl
  exact⟨keep p.1 p.2 ne nf nch e n,free p.1 p.2 nch e n,ne,nf,d⟩
theorem Inv.un(I:Inv X pins σ H s)(u:Un X.fs [] H H' s.heap h')(hok:HOk X.prog X.w H' h'):Inv X pins σ H' { s with heap:=h',toks:=t' }:=by
 obtain⟨m,⟨o,es,ep,ho,r⟩,_⟩:=id I.loc
 obtain⟨sl,hL⟩:=u.any ho I.free (by simp)
 exact I.step (g':=s.gens) (d':=s.drawn) (ch:=[]) (fun _ z=>nomatch z) (fun b o _ hb _ e n=>u.keep b o e n hb (by simp)) (fun b o _ hb _ e n=>u.slot b o e n hb (by simp)) (fun b o _ e n=>u.free b o e n (by simp)) (fun b o _ e=>u.there b o e (by simp)) u.tups u.frzs u.tbls (fun m' hm=>by
  obtain⟨o',es',ep',ho',r'⟩:=hm
  rw[ho]at ho';cases ho'
  exact⟨_,es',ep',hL,r'⟩) hok I.bare
theorem Inv.call{g':Array GenState}{d':Drawn}{ch:List Addr}(I:Inv X pins σ H s)(u:Un (frs X.stack) ch H H' s.heap h')(hok:HOk X.prog X.w H' h')(hg:b0C g')
  (hch:∀b∈ch,(b∈X.ex\/X.s₀.heap.objs.size<=b)/\b≠X.env.locals/\(∀x c,X.env.cells.lookup x=some c->c≠b)/\∀p∈X.pn++pins,p.1≠b) :
  Inv X pins σ H' { s with heap:=h',gens:=g',drawn:=d',toks:=t' }:=by
 obtain⟨m,⟨o,es,ep,ho,r⟩,_⟩:=id I.loc
 obtain⟨sl,hL⟩:=u.any ho I.free fun z=>(hch _ z).2.1 rfl
 exact I.step (ch:=ch) hch (fun b o hL hb hc e n=>u.keep b o e n (fun z=>(c5.mp (I.stkSub b z)).elim hL hb) hc) (fun b o _ _ hc e n=>u.any e n hc) (fun b o hc e n=>u.free b o e n hc) (fun b o hc e=>u.there b o e hc) u.tups u.frzs u.tbls (fun m' hm=>by
  obtain⟨o',es',ep',ho',r'⟩:=hm
  rw[ho]at ho';cases ho'
  exact⟨_,es',ep',hL,r'⟩) hok hg
theorem Inv.turned{it:Addr}(I:Inv X pins σ H s)(k:∀b o,b≠it->s.heap.get? b=some o->h'.get? b=some o)(hn:H it=none)(hL:it≠X.env.locals)
  (h1:it∈X.ex\/X.s₀.heap.objs.size<=it) (h2:∀x c,X.env.cells.lookup x=some c->c≠it) (h3:∀p∈X.pn++pins,p.1≠it):Inv X pins σ H { s with heap:=h',toks:=t' }:=by
 have nit:∀b u,H b=some u->b≠it:=fun b u e z=>by rw[z,hn]at e;cases e
 refine I.step (g':=s.gens) (d':=s.drawn) (ch:=[it]) (fun b hb=>?_) (fun b o _ _ hc e _=>k b o (fun z=>hc (by simp[z])) e) (fun b o _ _ hc e _=>⟨o.slots,k b o (fun z=>hc (by simp[z])) e⟩) (fun _ _ _ _ n=>n)
  (fun b o hc e=>⟨o,k b o (fun z=>hc (by simp[z])) e⟩) (fun _ _ e=>e) (fun _ _ _ e=>e) (fun b ps e=>⟨#[],by rw[e];simp⟩) (fun m hm=>?_) (fun b u e=>?_) I.bare
 ·have e:b=it:=by simpa using hb
  subst e
  exact⟨h1,hL,h2,h3⟩
 ·obtain⟨o,es,ep,ho,r⟩:=hm
  exact⟨o,es,ep,k _ o (Ne.symm hL) ho,r⟩
 ·refine(I.hok b u e).stay (fun c v hc q=>k c v ?_ q) (fun _ q=>q) fun _ _ q=>q
  rcases hc with z | z
  ·rw[z];exact nit b u e
  ·exact nit c _ z
theorem Inv.tok(I:Inv X pins σ H s)(t:Nat):Inv X pins σ H { s with toks:=t }:=I.un (h':=s.heap) (t':=t) Un.refl I.hok
theorem Inv.kept(I:Inv X pins σ H s)(k:∀b u,s.heap.get? b=some u->h'.get? b=some u):Inv X pins σ H { s with heap:=h',toks:=t' }:=I.un (Un.kept k) (I.hok.kept k)
theorem Inv.laid(I:Inv X pins σ H s)(k:∀b u,s.heap.get? b=some u->h'.get? b=some u)(hp:s.heap.objs.size<=a)(new:U6 X.prog X.w (upd H a o) h' a o) :
  Inv X pins σ (upd H a o) { s with heap:=h',toks:=t' }:=I.un (Un.laid k hp (I.hok.fresh hp)) (I.hok.laid k hp new)
theorem Inv.write{x e:Addr}(I:Inv X pins σ H s)(mu:Mut (H x))(he:e=x\/H e=some (.own x))(k:∀b u,b≠e->s.heap.get? b=some u->h'.get? b=some u)(heo:∃u,h'.get? e=some u)
  (new:U6 X.prog X.w (upd H x o) h' x o):Inv X pins σ (upd H x o) { s with heap:=h',toks:=t' }:=I.un (Un.write mu he k heo) (I.hok.write mu he k heo new)
theorem Inv.weak{σ':List (Option V)}(I:Inv X pins σ H s)(hl:σ'.length=σ.length)(w:∀(i:Nat) v,σ'[i]? = some (some v)->σ[i]? = some (some v)):Inv X pins σ' H s:=
 ⟨I.ok,I.os,I.bare,I.base,let⟨m,hn,hl'⟩:=I.loc; ⟨m,hn,fun i x v e1 e2 e3=>hl' i x v e1 (w i v e2) e3⟩,I.cell,I.free,I.freeC,I.pin,I.hok,hl.trans I.len⟩
theorem Inv.pins_of{pins':List (Addr×Obj)}(I:Inv X pins σ H s)(h:∀p∈pins',s.heap.get? p.1=some p.2/\H p.1=none/\p.1≠X.env.locals/\p.1∉X.fs/\∀v,p.2.data≠.cell v):Inv X pins' σ H s:=
 ⟨I.ok,I.os,I.bare,I.base,I.loc,I.cell,I.free,I.freeC,fun p hp=>(j8.mp hp).elim (fun z=>I.pin p (v9 _ z)) (h p),I.hok,I.len⟩
theorem b1H{N:List Str}(hN:N.Nodup){j:Nat}{x:Str}(a:N[i]? = some x)(b:N[j]? = some x):i=j:=by
 obtain⟨h1,e1⟩:=o7.mp a
 obtain⟨h2,e2⟩:=o7.mp b
 exact(List.getElem_inj hN).mp (e1.trans e2.symm)
theorem b2Z{M:Model}{A:F3}{E:Value->d4->Prop}{x:Str}{Q:Unit->d4->Prop}(I:Inv X pins σ H s)(hN:X.N.Nodup)(hi:X.N[i]? = some x)(hx:Loc X.env.scope x)(r:F1 v u)
  (h:∀s',Inv X pins (σ.set i (some v)) H s'->(∃a,Heap.SameBut a s.heap s'.heap/\(a=X.env.locals\/X.env.cells.lookup x=some a))->Q () s') (hf:X.fn x=true\/X.env.scope.names.lookup x=some .local:=by first | exact .inl rfl | exact .inr rfl | assumption):wpAny M A (storeName X.env x u) Q E s:=by
 obtain⟨m,hn,hl⟩:=id I.loc
 have hcls:(X.env.scope.kind == .class||(X.env.scope.kind == .module&&X.env.locals != X.env.globals))=false:=by rw[I.ok.kind];rfl
 have hiσ:i<σ.length:=by rw[I.len];exact(o7.mp hi).1
 have cne:=I.cne
 have tracked:∀ {a:Addr} {h':Heap},(∃o,s.heap.get? a=some o/\H a=none)->Heap.SameBut a s.heap h'->HOk X.prog X.w H h':=fun {a h'} ha hs b ob e=>by
  obtain⟨_,_,hfree⟩:=ha
  refine(I.hok b ob e).stay (fun c w' hc q=>(hs.2 c ?_).trans q) (fun _ q=>q) fun _ _ q=>q
  rintro rfl
  rcases hc with rfl | hc
  ·rw[hfree]at e;cases e
  ·rw[hfree]at hc;cases hc
 rcases hx with hk | hk
 ·refine wpAny_storeName_local hk hn (fun h' hn' hs=>?_) hcls
  obtain⟨oL,_,_,hoL,_⟩:=id hn
  refine h _ ⟨I.ok,I.os,I.bare,⟨fun b o e n hb hx=>?_,fun b o e n hb hx=>?_,I.base.free,fun b o e hx=>?_,I.base.tups,I.base.frzs,I.base.tbls⟩,⟨_,hn',fun j y v' e1 e2 e3=>?_⟩,fun y c e=>?_,I.free,I.freeC,fun p hp=>?_,tracked ⟨oL,hoL,I.free⟩ hs,by simpa using I.len⟩ ⟨_,hs,.inl rfl⟩
  ·exact(hs.2 b (z5 (t8 (h9 e) I.ok.above))).trans (I.base.keep b o e n hb hx)
  ·obtain⟨sl,e1⟩:=I.base.slot b o e n hb hx
   exact⟨sl,(hs.2 b (z5 (t8 (h9 e) I.ok.above))).trans e1⟩
  ·obtain⟨o',e1⟩:=I.base.there b o e hx
   exact⟨o',(hs.2 b (z5 (t8 (h9 e) I.ok.above))).trans e1⟩
  ·by_cases hj:j=i
   ·subst hj
    rw[hi]at e1;cases e1
    rw[K7 hiσ]at e2
    cases e2
    exact⟨u,r,.inl ⟨hk,by simp⟩⟩
   ·rw[L8 (Ne.symm hj)]at e2
    obtain⟨u',r',q⟩:=hl j y v' e1 e2 e3
    refine⟨u',r',?_⟩
    rcases q with ⟨k,e⟩ | ⟨k,c,e,z⟩
    ·refine .inl ⟨k,?_⟩
     have:y≠x:=fun e=>hj (b1H hN e1 (e ▸ hi))
     simp[this,e]
    ·exact .inr ⟨k,c,e,z.sameBut hs (cne y c e)⟩
  ·obtain⟨w',z⟩:=I.cell y c e
   exact⟨w',z.sameBut hs (cne y c e)⟩
  ·obtain⟨e,n,ne,nf,d⟩:=I.pin p hp
   exact⟨(hs.2 p.1 ne).trans e,n,ne,nf,d⟩
 ·have hfn:X.fn x=true:=by
   rcases hf with z | z
   ·exact z
   ·rw[z]at hk;cases hk
  obtain⟨c,hc⟩:=I.ok.has x (.inl hk)
  obtain⟨w',z⟩:=I.cell x c hc
  refine wpAny_storeName_cell I.ok.kind hk hc z (fun h' hc' hs=>?_)
  obtain⟨oc,hoc,hocd⟩:=id z
  refine h { s with heap:=h' } ⟨I.ok,I.os,I.bare,⟨fun b o e n hb hx=>?_,fun b o e n hb hx=>?_,I.base.free,fun b o e hx=>?_,I.base.tups,I.base.frzs,I.base.tbls⟩,⟨m,hn.sameBut hs (Ne.symm (cne x c hc)),fun j y v' e1 e2 e3=>?_⟩,fun y c' e=>?_,I.free,I.freeC,fun p hp=>?_,tracked ⟨oc,hoc,I.freeC x c hc⟩ hs,by simpa using I.len⟩ ⟨c,hs,.inr hc⟩
  ·exact(hs.2 b (z5 (t8 (h9 e) (I.ok.cab x c hfn hc)))).trans (I.base.keep b o e n hb hx)
  ·obtain⟨sl,e1⟩:=I.base.slot b o e n hb hx
   exact⟨sl,(hs.2 b (z5 (t8 (h9 e) (I.ok.cab x c hfn hc)))).trans e1⟩
  ·obtain⟨o',e1⟩:=I.base.there b o e hx
   exact⟨o',(hs.2 b (z5 (t8 (h9 e) (I.ok.cab x c hfn hc)))).trans e1⟩
  ·by_cases hj:j=i
   ·subst hj
    rw[hi]at e1;cases e1
    rw[K7 hiσ]at e2
    cases e2
    exact⟨u,r,.inr ⟨.inl hk,c,hc,hc'⟩⟩
   ·rw[L8 (Ne.symm hj)]at e2
    obtain⟨u',r',q⟩:=hl j y v' e1 e2 e3
    refine⟨u',r',?_⟩
    rcases q with q | ⟨k,c',e,z'⟩
    ·exact .inl q
    ·refine .inr ⟨k,c',e,z'.sameBut hs ?_⟩
     rintro rfl
     exact hj (b1H hN e1 (I.ok.inj _ _ _ e hc ▸ hi))
  ·by_cases hcc:c'=c
   ·subst hcc;exact⟨_,hc'⟩
   ·obtain⟨w2,z2⟩:=I.cell y c' e
    exact⟨w2,z2.sameBut hs hcc⟩
  ·obtain⟨e,n,ne,nf,d⟩:=I.pin p hp
   refine⟨(hs.2 p.1 ?_).trans e,n,ne,nf,d⟩
   intro q
   rw[q,hoc]at e
   have q':oc=p.2:=Option.some.inj e
   exact d w' (by rw[<-q'];exact hocd)
theorem a5N{M:Model}{A:F3}{E:Value->d4->Prop}{x:Str}{Q:Unit->d4->Prop}(I:Inv X pins σ H s)(hN:X.N.Nodup)(hi:X.N[i]? = some x)(hx:Loc X.env.scope x)(r:F1 v u)
  (h:∀s',Inv X pins (σ.set i (some v)) H s'->Q () s') (hf:X.fn x=true\/X.env.scope.names.lookup x=some .local:=by first | exact .inl rfl | exact .inr rfl | assumption):wpAny M A (storeName X.env x u) Q E s:=
 b2Z I hN hi hx r (fun s' I' _=>h s' I') hf
theorem Inv.call'{s':d4}{ch:List Addr}(I:Inv X pins σ H s)(ho:s'.os=s.os)(u:Un (frs X.stack) ch H H' s.heap s'.heap)(hok:HOk X.prog X.w H' s'.heap)(hg:b0C s'.gens)
  (hch:∀b∈ch,(b∈X.ex\/X.s₀.heap.objs.size<=b)/\b≠X.env.locals/\(∀x c,X.env.cells.lookup x=some c->c≠b)/\∀p∈X.pn++pins,p.1≠b):Inv X pins σ H' s':=by
 obtain⟨h',g',d',t',o'⟩:=s'
 have e:o'=s.os:=ho
 subst e
 exact I.call (g':=g') (t':=t') (d':=d') u hok hg hch
end
abbrev XK:=Value->Option Addr->Hp->Prop
abbrev St:=List (Option V)
variable{σ:St}
abbrev VK:=V->Hp->Prop
abbrev TE:=St->Hp->VK->Prop
variable{t ta te:TE}
abbrev TT:=St->Hp->(Bool->Hp->Prop)->Prop
abbrev TA:=St->Hp->(List V->Hp->Prop)->Prop
structure b0d where
 nx:St->Hp->Prop
 rt:VK
 bk:St->Hp->Prop:=fun _ _=>False
 ct:St->Hp->Prop:=fun _ _=>False
variable{D:b0d}
abbrev TS:=b0d->St->Hp->Prop
variable{tb:TS}
def EP(X:Cx)(pins:List (Addr×Obj))(σ:St)(Q:VK)(u:Value)(s':d4):Prop:=∃v H',Inv X pins σ H' s'/\F1 v u/\Q v H'
def TP(X:Cx)(pins:List (Addr×Obj))(σ:St)(Q:Bool->Hp->Prop)(b:Bool)(s':d4):Prop:=∃H',Inv X pins σ H' s'/\Q b H'
def AP(X:Cx)(pins:List (Addr×Obj))(σ:St)(Q:List V->Hp->Prop)(us:List Value)(s':d4):Prop:=∃vs H',Inv X pins σ H' s'/\J0 vs us/\Q vs H'
def SP(X:Cx)(pins:List (Addr×Obj))(D:b0d)(f:Flow)(s':d4):Prop:=
 match f with
 | .next=>∃σ' H',Inv X pins σ' H' s'/\D.nx σ' H'
 | .brk=>∃σ' H',Inv X pins σ' H' s'/\D.bk σ' H'
 | .cont=>∃σ' H',Inv X pins σ' H' s'/\D.ct σ' H'
 | .ret u=>∃v σ' H',Inv X pins σ' H' s'/\F1 v u/\D.rt v H'
def PE(X:Cx)(e:Expr)(t:TE):Prop:=
 ∀(pins:List (Addr×Obj)) (s:d4) (σ:St) (H:Hp) (Q:VK),Inv X pins σ H s->t σ H Q->wpAny (model X.prog X.w) X.A (eval e X.env) (EP X pins σ Q) X.xe s
def PT(X:Cx)(e:Expr)(t:TT):Prop:=
 ∀(pins:List (Addr×Obj)) (s:d4) (σ:St) (H:Hp) (Q:Bool->Hp->Prop),Inv X pins σ H s->t σ H Q->wpAny (model X.prog X.w) X.A (isTrue e X.env (eval e X.env)) (TP X pins σ Q) X.xe s
def PW(X:Cx)(e:Expr)(t:TT):Prop:=
 ∀(whole:Sem Value) (pins:List (Addr×Obj)) (s:d4) (σ:St) (H:Hp) (Q:Bool->Hp->Prop),Inv X pins σ H s->t σ H Q->wpAny (model X.prog X.w) X.A (isTrue e X.env whole) (TP X pins σ Q) X.xe s
theorem PW.pt{t:TT}(h:PW X e t):PT X e t:=h _
def PA(X:Cx)(es:List Expr)(t:TA):Prop:=
 ∀(pos:Pos) (pins:List (Addr×Obj)) (s:d4) (σ:St) (H:Hp) (Q:List V->Hp->Prop),Inv X pins σ H s->t σ H Q->wpAny (model X.prog X.w) X.A (spliced (X5 pos (g6 es X.env))) (AP X pins σ Q) X.xe s
def PS(X:Cx)(st:Stmt)(t:TS):Prop:=
 ∀(pins:List (Addr×Obj)) (s:d4) (σ:St) (H:Hp) (D:b0d),Inv X pins σ H s->t D σ H->wpAny (model X.prog X.w) X.A (exec st X.env) (SP X pins D) X.xe s
def PSs(X:Cx)(st:List Stmt)(t:TS):Prop:=
 ∀(pins:List (Addr×Obj)) (s:d4) (σ:St) (H:Hp) (D:b0d),Inv X pins σ H s->t D σ H->wpAny (model X.prog X.w) X.A (execs st X.env) (SP X pins D) X.xe s
theorem thn{α:Type}{t:Sem α}{Q Q':α->d4->Prop}{M:Model}{A:F3}{E:Value->d4->Prop}(h:wpAny M A t Q E s)(hQ:∀a s,Q a s->Q' a s):wpAny M A t Q' E s:=Q7 h hQ fun _ _ x=>x
section
def b5(i:Nat):TE:=fun σ H Q=>∃v,σ[i]? = some (some v)/\Q v H
def tC(v:V):TE:=fun _ H Q=>Q v H
theorem c9P{x:Str}(hN:X.N[i]? = some x)(hv:Vis X.env.scope x)(hd:(x == ("__debug__" : Str))=false:=by decide)(hcd:(x == ("__classdict__" : Str))=false:=by decide):PE X (.Name x pos) (b5 i):=by
 intro pins s σ H Q I h
 obtain⟨v,e,h⟩:=h
 obtain⟨m,hn,hl⟩:=I.loc
 obtain⟨u,r,l⟩:=hl i x v hN e hv
 have fin:EP X pins σ Q u s:=⟨v,H,I,r,h⟩
 rcases l with ⟨hk,hm⟩ | ⟨hk,c,hc,hcell⟩
 ·exact wpAny_Name (wpAny_loadName_local I.ok.kind hk hn hm fin) hd
 ·rcases hk with hk | hk
  ·exact wpAny_Name (wpAny_loadName_cell I.ok.kind hk hc hcell fin) hd
  ·exact wpAny_Name (wpAny_loadName_free I.ok.kind hk hc hcell fin hcd) hd
theorem c9Y{i j pos}:PE X (.Constant (.int i) j pos) (tC (.int i)):=fun _ _ _ H _ I h=>wpAny_Constant_int ⟨.int i,H,I.tok _,⟨_,rfl⟩,h⟩
theorem d2n{b j pos}:PE X (.Constant (.bool b) j pos) (tC (.bl b)):=fun _ _ _ H _ I h=>Constant_bool ⟨.bl b,H,I,rfl,h⟩
theorem c9V{j pos}:PE X (.Constant .none j pos) (tC .non):=fun _ _ _ H _ I h=>Constant_none ⟨.non,H,I,rfl,h⟩
theorem c9R{x j pos}:PE X (.Constant (.str x) j pos) (tC (.str x)):=fun _ _ _ H _ I h=>Calls.Constant_str ⟨.str x,H,I.tok _,⟨_,rfl⟩,h⟩
def Gl(X:Cx)(x:Str):Prop:=X.env.kindOf x=some .globalImplicit
theorem a3d{E:Value->d4->Prop}{x:Str}(I:Inv X pins σ H s)(hg:Gl X x)(hm:X.mg x=some u)(h:Q u s)
  (hd:(x == ("__debug__" : Str))=false:=by decide):wpAny (model X.prog X.w) X.A (eval (.Name x pos) X.env) Q E s:=
 Calls.Name_function_global I.ok.kind hg (Calls.loadGlobal_global (by rw[I.ok.glob];exact I.mod.glob.keeps I.bk) hm h) hd
theorem a7D{E:Value->d4->Prop}{x:Str}(I:Inv X pins σ H s)(hg:Gl X x)(hm:X.mg x=none)(hv:a0W x=some u)(h:Q u s)
  (hn:x ≠ "__name__" := by decide) (hd:(x == ("__debug__" : Str))=false:=by decide):wpAny (model X.prog X.w) X.A (eval (.Name x pos) X.env) Q E s:=by
 obtain⟨mb,h1,h2⟩:=I.mod.blt
 exact Calls.Name_function_global I.ok.kind hg (Calls.loadGlobal_builtin (by rw[I.ok.glob];exact I.mod.glob.keeps I.bk) hm (by rw[I.ok.blt];exact h1.keeps I.bk) ((h2 x hn).trans hv) h) hd
theorem c6U{x:Str}(hg:Gl X x)(hm:X.mg x=some u)(r:F1 v u)(hd:(x == ("__debug__" : Str))=false:=by decide):PE X (.Name x pos) (tC v):=
 fun _ _ _ H _ I h=>a3d I hg hm ⟨v,H,I,r,h⟩ hd
theorem c6Z{x:Str}(hg:Gl X x)(hm:X.mg x=none)(hv:a0W x=some u)(r:F1 v u)(hn:x ≠ "__name__" := by decide)(hd:(x == ("__debug__" : Str))=false:=by decide):PE X (.Name x pos) (tC v):=
 fun _ _ _ H _ I h=>a7D I hg hm hv ⟨v,H,I,r,h⟩ hn hd
variable {a b:Expr}{tb:TE}
def PC(X:Cx)(op:CmpOp)(a b:Expr)(t:TE):Prop:=
 ∀(pins:List (Addr×Obj)) (s:d4) (σ:St) (H:Hp) (Q:VK),Inv X pins σ H s->t σ H Q ->
  wpAny (model X.prog X.w) X.A (eval a X.env) (fun v s₁=>wpAny (model X.prog X.w) X.A (eval b X.env) (fun u s₂=>wpAny (model X.prog X.w) X.A (z8 op v u) (EP X pins σ Q) X.xe s₂) X.xe s₁) X.xe s
def tB(t:TE):TT:=fun σ H Q=>t σ H fun x H1=>∃c,x=.bl c/\Q c H1
theorem d0a{op:CmpOp}(h:PC X op a b t)(h1:R9 op b=false:=by first | exact nobehind _ (by decide) (by decide) | rfl):PE X (.Compare a [op] [b] pos) t:=fun pins s σ H Q I hw=>wpAny_Compare1 (h pins s σ H Q I hw) h1
theorem c4a{op:CmpOp}(h:PC X op a b t)(h1:R9 op b=false:=by first | exact nobehind _ (by decide) (by decide) | rfl):PT X (.Compare a [op] [b] pos) (tB t):=by
 intro pins s σ H Q I hw
 refine d1C (thn (h pins s σ H _ I hw) fun v s1 h1=>thn h1 fun u s2 h2=>thn h2 fun c s3 ⟨x,H1,I1,r1,q1⟩=>?_) h1
 obtain⟨d,rfl,q⟩:=q1
 cases r1
 exact O4 ⟨H1,I1,q⟩
theorem c9E(h:PE X e t)(he:∀whole,isTrue e X.env whole=(do let v <-whole;c2L e.pos;a4C [v] (truthy v)):=by intro _;rfl):PT X e (tB t):=by
 intro pins s σ H Q I hw
 refine isTrue_plain (thn (h pins s σ H _ I hw) fun v s1 ⟨x,H1,I1,r1,q1⟩=>?_) (he _)
 obtain⟨d,rfl,q⟩:=q1
 cases r1
 exact O4 ⟨H1,I1,q⟩
variable {tA tB':TT}{rest:List Expr}
def b2t(t u:TT):TT:=fun σ H Q=>t σ H fun c H1=>if c=true then u σ H1 Q else Q false H1
def tOr(t u:TT):TT:=fun σ H Q=>t σ H fun c H1=>if c=true then Q true H1 else u σ H1 Q
def a5t(t:TT):TT:=fun σ H Q=>t σ H fun c H1=>Q (!c) H1
theorem c6B(ha:PT X a tA):PW X (.BoolOp .And [a] pos) tA:=by
 intro wh pins s σ H Q I h
 refine isTrue_and (thn (ha pins s σ H Q I h) fun c s1 e=>?_)
 cases c with
 | true=>exact isTrue_and_nil e
 | false=>exact e
theorem c9C(ha:PT X a tA):PW X (.BoolOp .Or [a] pos) tA:=by
 intro wh pins s σ H Q I h
 refine isTrue_or (thn (ha pins s σ H Q I h) fun c s1 e=>?_)
 cases c with
 | false=>exact isTrue_or_nil e
 | true=>exact e
theorem c9D(ha:PT X a tA)(hb:PW X (.BoolOp .And (b::rest) pos) tB'):PW X (.BoolOp .And (a::b::rest) pos) (b2t tA tB'):=by
 intro wh pins s σ H Q I h
 refine isTrue_and (thn (ha pins s σ H _ I h) fun c s1 ⟨H1,I1,q1⟩=>?_)
 cases c with
 | true=>exact hb wh pins s1 σ H1 Q I1 q1
 | false=>exact⟨H1,I1,q1⟩
theorem d2f(ha:PT X a tA)(hb:PW X (.BoolOp .Or (b::rest) pos) tB'):PW X (.BoolOp .Or (a::b::rest) pos) (tOr tA tB'):=by
 intro wh pins s σ H Q I h
 refine isTrue_or (thn (ha pins s σ H _ I h) fun c s1 ⟨H1,I1,q1⟩=>?_)
 cases c with
 | true=>exact⟨H1,I1,q1⟩
 | false=>exact hb wh pins s1 σ H1 Q I1 q1
theorem c9F(ha:PT X a tA):PT X (.UnaryOp .Not a pos) (a5t tA):=by
 intro pins s σ H Q I h
 exact isTrue_not (ha pins s σ H (fun c H1=>Q (!c) H1) I h)
def a1g(ta tb:TE):TE:=fun σ H Q=>ta σ H fun x H1=>∃c,x=.bl c/\if c=true then tb σ H1 Q else Q (.bl false) H1
def c6c(ta tb:TE):TE:=fun σ H Q=>ta σ H fun x H1=>∃c,x=.bl c/\if c=true then Q (.bl true) H1 else tb σ H1 Q
def b5B(ta:TE):TE:=fun σ H Q=>ta σ H fun x H1=>∃c,x=.bl c/\Q (.bl (!c)) H1
theorem c9T{op}(h:PE X a t):PE X (.BoolOp op [a] pos) t:=fun pins s σ H Q I hw=>BoolOp_one (h pins s σ H Q I hw)
theorem d0c(ha:PE X a ta)(hb:PE X (.BoolOp .And (b::rest) pos) tb):PE X (.BoolOp .And (a::b::rest) pos) (a1g ta tb):=by
 intro pins s σ H Q I h
 refine BoolOp_and (thn (ha pins s σ H _ I h) fun v s1 ⟨x,H1,I1,r1,q1⟩=>?_)
 obtain⟨c,rfl,q1⟩:=q1
 cases r1
 refine O4 ?_
 cases c with
 | true=>exact hb pins s1 σ H1 Q I1 q1
 | false=>exact⟨.bl false,H1,I1,rfl,q1⟩
theorem d2i(ha:PE X a ta)(hb:PE X (.BoolOp .Or (b::rest) pos) tb):PE X (.BoolOp .Or (a::b::rest) pos) (c6c ta tb):=by
 intro pins s σ H Q I h
 refine BoolOp_or (thn (ha pins s σ H _ I h) fun v s1 ⟨x,H1,I1,r1,q1⟩=>?_)
 obtain⟨c,rfl,q1⟩:=q1
 cases r1
 refine O4 ?_
 cases c with
 | false=>exact hb pins s1 σ H1 Q I1 q1
 | true=>exact⟨.bl true,H1,I1,rfl,q1⟩
theorem c9U(ha:PE X a ta):PE X (.UnaryOp .Not a pos) (b5B ta):=by
 intro pins s σ H Q I h
 refine UnaryOp_ (thn (ha pins s σ H _ I h) fun v s1 ⟨x,H1,I1,r1,q1⟩=>?_)
 obtain⟨c,rfl,q1⟩:=q1
 cases r1
 exact not_of (O4 ⟨.bl (!c),H1,I1,rfl,q1⟩)
def tIf(t:TT)(ta tb:TE):TE:=fun σ H Q=>t σ H fun c H1=>if c=true then ta σ H1 Q else tb σ H1 Q
theorem c4l(hc:PT X c tA)(ha:PE X a ta)(hb:PE X b tb):PE X (.IfExp c a b pos) (tIf tA ta tb):=by
 intro pins s σ H Q I h
 refine wpAny_IfExp (thn (hc pins s σ H _ I h) fun d s1 ⟨H1,I1,q1⟩=>?_)
 cases d with
 | true=>exact ha pins s1 σ H1 Q I1 q1
 | false=>exact hb pins s1 σ H1 Q I1 q1
end
def SqL(K:Fg)(H:Hp)(a:Addr)(xs:List V):Prop:=
 Rd H a (.lst xs) \/
  ∃(o:Obj) (its:Array Value) (n:Nat),K.lookup a=some o/\o.cls=.type "list" /\ o.dict=none/\o.data=.seq its n/\its.size<=j7/\J0 xs its.toList
def SqT(K:Fg)(H:Hp)(a:Addr)(xs:List V):Prop:=
 Rd H a (.tup xs) \/
  ∃(o:Obj) (its:Array Value) (n:Nat),K.lookup a=some o/\o.cls=.type "tuple" /\ o.data=.seq its n/\its.size<=j7/\J0 xs its.toList
def d3x:Value->Option V
 | .none=>some .non
 | .bool b=>some (.bl b)
 | .int i _=>some (.int i)
 | .str x _=>some (.str x)
 | .bytes b _=>some (.byt b)
 | .float b _=>some (.flt b)
 | .ref a=>some (.ref a)
 | .type n=>some (.ty n)
 | _=>none
theorem F1.abs{x:V}(r:F1 x u):d3x u=some x:=by
 cases x with
 | non=>cases r;rfl
 | bl _=>cases r;rfl
 | int _=>obtain⟨t,rfl⟩:=r;rfl
 | str _=>obtain⟨t,rfl⟩:=r;rfl
 | byt _=>obtain⟨t,rfl⟩:=r;rfl
 | flt _=>obtain⟨t,rfl⟩:=r;rfl
 | ref _=>cases r;rfl
 | ty _=>cases r;rfl
theorem F1.inj{x:V}(r:F1 x u)(q:F1 y u):x=y:=Option.some.inj (r.abs.symm.trans q.abs)
theorem J0.inj:∀ {xs ys:List V} {us:List Value},J0 xs us->J0 ys us->xs=ys
 | _,_,_,.nil,.nil=>rfl
 | _,_,_,.cons r t,.cons r' t'=>by rw[r.inj r',J0.inj t t']
section
variable {ys:List V}
theorem SqL.of{K:Fg}(h:H a=some (.lst xs)):SqL K H a xs:=.inl (.inl h)
theorem SqT.of{K:Fg}(h:H a=some (.tup xs)):SqT K H a xs:=.inl (.inl h)
theorem Inv.list(I:Inv X pins σ H s)(h:SqL X.K H a xs):∃its:List Value,J0 xs its/\PlainL s.heap a its.toArray/\xs.length<=j7:=by
 rcases h with h | ⟨o,its,n,hk,hc,hd,hs,hz,r⟩
 ·obtain⟨z,its,n,r,e⟩:=h.ok I.hok
  exact⟨its,r,⟨_,n,e,rfl,rfl,rfl⟩,z⟩
 ·refine⟨its.toList,r,⟨o,n,I.kIn a o hk,hc,hd,by simpa using hs⟩,?_⟩
  have e:=r.length
  simp only[z9]at e
  omega
theorem Inv.tuple(I:Inv X pins σ H s)(h:SqT X.K H a xs):∃its:List Value,J0 xs its/\IsTup s.heap a its.toArray/\xs.length<=j7:=by
 rcases h with h | ⟨o,its,n,hk,hc,hs,hz,r⟩
 ·obtain⟨z,its,r,p⟩:=h.ok I.hok
  exact⟨its,r,p,z⟩
 ·refine⟨its.toList,r,⟨o,I.kIn a o hk,hc,n,by simpa using hs⟩,?_⟩
  have e:=r.length
  simp only[z9]at e
  omega
theorem Inv.list_inj(I:Inv X pins σ H s)(h:SqL X.K H a xs)(h':SqL X.K H a ys):xs=ys:=by
 obtain⟨its,r,⟨o,n,e,_,_,d⟩,_⟩:=I.list h
 obtain⟨its',r',⟨o',n',e',_,_,d'⟩,_⟩:=I.list h'
 rw[e]at e';cases e'
 rw[d]at d'
 injection d' with d1 _
 have:its=its':=by simpa using congrArg d2V d1
 subst this
 exact r.inj r'
theorem Inv.tuple_inj(I:Inv X pins σ H s)(h:SqT X.K H a xs)(h':SqT X.K H a ys):xs=ys:=by
 obtain⟨its,r,⟨o,e,_,n,d⟩,_⟩:=I.tuple h
 obtain⟨its',r',⟨o',e',_,n',d'⟩,_⟩:=I.tuple h'
 rw[e]at e';cases e'
 rw[d]at d'
 injection d' with d1 _
 have:its=its':=by simpa using congrArg d2V d1
 subst this
 exact r.inj r'
end
abbrev Cx.wish(X:Cx)(E:Value->d4->Prop):Cx:={ X with xe:=E }
abbrev Cx.nox(X:Cx):Cx:=X.wish fun _ _=>False
theorem Cx.Ok.wish(ok:X.Ok)(E:Value->d4->Prop):(X.wish E).Ok:=
 ⟨ok.mod,ok.kind,ok.glob,ok.blt,ok.above,ok.inj,ok.has,ok.cab,ok.hd,ok.frames,ok.stk,ok.exf,ok.bs,ok.bsz,ok.noex,ok.exfs,ok.funs,ok.frf⟩
theorem Cx.Ok.unwish{E:Value->d4->Prop}(ok:(X.wish E).Ok):X.Ok:=
 ⟨ok.mod,ok.kind,ok.glob,ok.blt,ok.above,ok.inj,ok.has,ok.cab,ok.hd,ok.frames,ok.stk,ok.exf,ok.bs,ok.bsz,ok.noex,ok.exfs,ok.funs,ok.frf⟩
section
variable {E:Value->d4->Prop}
theorem Inv.wish(I:Inv X pins σ H s)(E:Value->d4->Prop):Inv (X.wish E) pins σ H s:=⟨I.ok.wish E,I.os,I.bare,I.base,I.loc,I.cell,I.free,I.freeC,I.pin,I.hok,I.len⟩
theorem Inv.unwish(I:Inv (X.wish E) pins σ H s):Inv X pins σ H s:=⟨I.ok.unwish,I.os,I.bare,I.base,I.loc,I.cell,I.free,I.freeC,I.pin,I.hok,I.len⟩
theorem SP.unwish{f:Flow}{s':d4}(h:SP (X.wish E) pins D f s'):SP X pins D f s':=by
 cases f with
 | next=>obtain⟨σ',H',I,q⟩:=h;exact⟨σ',H',I.unwish,q⟩
 | brk=>obtain⟨σ',H',I,q⟩:=h;exact⟨σ',H',I.unwish,q⟩
 | cont=>obtain⟨σ',H',I,q⟩:=h;exact⟨σ',H',I.unwish,q⟩
 | ret u=>obtain⟨v,σ',H',I,r,q⟩:=h;exact⟨v,σ',H',I.unwish,r,q⟩
theorem PSs.nox{st:List Stmt}{t:TS}(h:PSs X.nox st t):PSs X st t:=fun pins s σ H D I hw=>
 Q7 (h pins s σ H D (I.wish _) hw) (fun _ _ q=>q.unwish) fun _ _ z=>False.elim z
end
section
variable {st:Stmt}{rest:List Stmt}{t u:TS}
def E6:TS:=fun D σ H=>D.nx σ H
def z4(t u:TS):TS:=fun D σ H=>t { D with nx:=u D } σ H
theorem c6G:PSs X [] E6:=fun _ _ σ H _ I h=>a3l ⟨σ,H,I,h⟩
theorem c4c(h1:PS X st t)(h2:PSs X rest u):PSs X (st::rest) (z4 t u):=by
 intro pins s σ H D I h
 refine wpAny_execs_cons (thn (h1 pins s σ H { D with nx:=u D } I h) fun f s1 q=>?_)
 cases f with
 | next=>
  obtain⟨σ',H',I',q⟩:=q
  exact h2 pins s1 σ' H' D I' q
 | ret v=>exact q
 | brk=>exact q
 | cont=>exact q
theorem c6F(h1:PS X st t):PSs X [st] t:=by
 intro pins s σ H D I h
 refine wpAny_execs_cons (thn (h1 pins s σ H D I h) fun f s1 q=>?_)
 cases f with
 | next=>exact a3l q
 | ret v=>exact q
 | brk=>exact q
 | cont=>exact q
theorem Inv.quiet(I:Inv X pins σ H s):interactive X.env=false:=by simp[interactive,I.ok.kind]
def a0a(te:TE):TS:=fun D σ H=>te σ H fun _ H1=>D.nx σ H1
theorem c6K(he:PE X e te)(hs:a1O e none pos.line X.env=pure false:=by rfl):PS X (.Expr e pos) (a0a te):=by
 intro pins s σ H D I h
 exact wpAny_Expr_any (thn (he pins s σ H _ I h) fun v s1 ⟨x,H1,I1,r1,q1⟩=>⟨σ,H1,I1,q1⟩) I.quiet hs
def L5(te:TE):TS:=fun D σ H=>te σ H D.rt
theorem c9H(he:PE X e te):PS X (.Return (some e) pos) (L5 te):=by
 intro pins s σ H D I h
 exact wpAny_Return_some (thn (he pins s σ H _ I h) fun v s1 ⟨x,H1,I1,r1,q1⟩=>⟨x,σ,H1,I1,r1,q1⟩)
def M0(c:TT)(t u:TS):TS:=fun D σ H=>c σ H fun b H1=>if b=true then t D σ H1 else u D σ H1
theorem d2g{a b:List Stmt}{tc:TT}(hc:PT X c tc)(ha:PSs X a t)(hb:PSs X b u):PS X (.If c a b pos) (M0 tc t u):=by
 intro pins s σ H D I h
 refine wpAny_If (thn (hc pins s σ H _ I h) fun d s1 ⟨H1,I1,q1⟩=>?_)
 cases d with
 | true=>exact ha pins s1 σ H1 D I1 q1
 | false=>exact hb pins s1 σ H1 D I1 q1
def b7D:TS:=fun _ _ _=>False
theorem c1t{sts:List Stmt}:PSs X sts b7D:=fun _ _ _ _ _ _ h=>h.elim
end
abbrev TG:=V->St->Hp->(St->Hp->Prop)->Prop
variable{g:TG}
abbrev TGs:=List V->St->Hp->(St->Hp->Prop)->Prop
def PG(X:Cx)(target:Expr)(t:TG):Prop:=
 ∀(pins:List (Addr×Obj)) (s:d4) (σ:St) (H:Hp) (v:V) (u:Value) (Q:St->Hp->Prop),Inv X pins σ H s->F1 v u->t v σ H Q ->
  wpAny (model X.prog X.w) X.A (b2M target X.env u) (fun _ s'=>∃σ' H',Inv X pins σ' H' s'/\Q σ' H') X.xe s
def PGs(X:Cx)(ts:List Expr)(t:TGs):Prop:=
 ∀(pins:List (Addr×Obj)) (s:d4) (σ:St) (H:Hp) (vs:List V) (us:List Value) (Q:St->Hp->Prop),Inv X pins σ H s->J0 vs us->t vs σ H Q ->
  wpAny (model X.prog X.w) X.A (assignInOrder ((a2l ts X.env).map (·.2)) us) (fun _ s'=>∃σ' H',Inv X pins σ' H' s'/\Q σ' H') X.xe s
abbrev b2G:=V->V->V->Hp->(Hp->Prop)->Prop
def c5B(X:Cx)(t:b2G):Prop:=
 ∀(pins:List (Addr×Obj)) (s:d4) (σ:St) (H:Hp) (o i v:V) (ov iv u:Value) (Q:Hp->Prop),Inv X pins σ H s->F1 o ov->F1 i iv->F1 v u->t o i v H Q ->
  wpAny (model X.prog X.w) X.A (c8U ov iv u) (fun _ s'=>∃H',Inv X pins σ H' s'/\Q H') X.xe s
abbrev TIp:=V->V->Hp->VK->Prop
def PIp(X:Cx)(op:c2F)(t:TIp):Prop:=
 ∀(pins:List (Addr×Obj)) (s:d4) (σ:St) (H:Hp) (x y:V) (v u:Value) (Q:VK),Inv X pins σ H s->F1 x v->F1 y u->t x y H Q ->
  wpAny (model X.prog X.w) X.A (inplaceOp op v u) (EP X pins σ Q) X.xe s
section
def v0(i:Nat):TG:=fun v σ H Q=>Q (σ.set i (some v)) H
theorem b4h{x:Str}(hN:X.N.Nodup)(hi:X.N[i]? = some x)(hx:Loc X.env.scope x)(hf:X.fn x=true\/X.env.scope.names.lookup x=some .local:=by first | exact .inl rfl | exact .inr rfl | assumption):PG X (.Name x pos) (v0 i):=by
 intro pins s σ H v u Q I r h
 exact b7r (a5N I hN hi hx r (fun s' I'=>⟨_,H,I',h⟩) hf)
def b4B:TGs:=fun vs σ H Q=>vs=[]/\Q σ H
def a2V(t:TG)(u:TGs):TGs:=fun vs σ H Q=>∃v r,vs=v::r/\t v σ H fun σ' H'=>u r σ' H' Q
theorem b9S:PGs X [] b4B:=by
 intro pins s σ H vs us Q I r h
 obtain⟨e,h⟩:=h
 subst e
 cases r
 exact assignInOrder_nil ⟨σ,H,I,h⟩
theorem b1u{t:TG}{u:TGs}(h1:PG X e t)(h2:PGs X es u)
  (hs:(a2l (e::es) X.env).map (·.2)=b2M e X.env::(a2l es X.env).map (·.2):=by rfl):PGs X (e::es) (a2V t u):=by
 intro pins s σ H vs us Q I r h
 obtain⟨v,vr,e1,h⟩:=h
 subst e1
 cases r with
 | cons r rr=>
  rw[hs]
  refine assignInOrder_cons (thn (h1 pins s σ H _ _ _ I r h) fun _ s1 ⟨σ1,H1,I1,q1⟩=>?_)
  exact h2 pins s1 σ1 H1 _ _ Q I1 rr q1
def b4A(K:Fg)(n:Nat)(t:TGs):TG:=fun v σ H Q=>∃a xs,v=.ref a/\SqT K H a xs/\xs.length=n/\t xs σ H Q
theorem c4i{k:Nat}{t:TGs}{n:Nat}(hc:X.calm=true)(h:PGs X es t)
  (hn:(a2l es X.env).length=n:=by rfl) (hst:(a2l es X.env).findIdx? (·.1)=none:=by rfl):PG X (.Tuple es k pos) (b4A X.K n t):=by
 intro pins s σ H v u Q I r hw
 obtain⟨a,xs,e1,hq,hl,hw⟩:=hw
 subst e1
 cases r
 obtain⟨its,rv,ht,hz⟩:=I.tuple hq
 refine assign_Tuple_tuple (I.ok.hd hc) ht (by simp[hn,<-hl,rv.length]) hst fun h' hx=>?_
 have I1:Inv X pins σ H { s with heap:=h' }:=I.kept (t':=s.toks) fun b o e=>hx b o (z5 (h9 e)) e
 exact h pins _ σ H xs _ Q I1 (by simpa using rv) hw
def c2a(to ti:TE)(t:b2G):TG:=fun v σ H Q=>to σ H fun o H1=>ti σ H1 fun i H2=>t o i v H2 fun H3=>Q σ H3
theorem c9O{o i:Expr}{to ti:TE}{t:b2G}(ho:PE X o to)(hi:PE X i ti)(hs:c5B X t)
  (ha:∀v,b2M (.Subscript o i pos) X.env v=(do
   let ov <-a4C [v] (eval o X.env)
   let iv <-a4C [v,ov] (eval i X.env)
   c2L pos
   a4C [v,ov,iv] (c8U ov iv v)
   release [v,ov,iv] []):=by intro _;rfl):PG X (.Subscript o i pos) (c2a to ti t):=by
 intro pins s σ H v u Q I r h
 rw[ha]
 refine d8 (a0Y (thn (ho pins s σ H _ I h) fun ov s1 ⟨x,H1,I1,r1,q1⟩=>?_))
 refine d8 (a0Y (thn (hi pins s1 σ H1 _ I1 q1) fun iv s2 ⟨y,H2,I2,r2,q2⟩=>?_))
 refine d8 (a3k (d8 (a0Y (thn (hs pins s2 σ H2 x y v ov iv u _ I2 r1 r2 r q2) fun _ s3 ⟨H3,I3,q3⟩=>?_))))
 exact wpAny_release ⟨σ,H3,I3,q3⟩
def G5(te:TE)(g:TG):TS:=fun D σ H=>te σ H fun x H1=>g x σ H1 D.nx
theorem c9K(he:PE X e te)(hg:PG X tg g)(hs:swapsWithSole [tg] e pos.line X.env=pure false:=by rfl)(hw:swappedStores [tg] e X.env=pure none:=by rfl)
  (h1:(a2l [tg] X.env).map (·.2)=[b2M tg X.env]:=by rfl):PS X (.Assign [tg] e pos) (G5 te g):=by
 intro pins s σ H D I h
 refine wpAny_Assign_stores (thn (he pins s σ H _ I h) fun v s1 ⟨x,H1,I1,r1,q1⟩=>?_) hs hw
 rw[h1]
 exact thn (hg pins s1 σ H1 x v _ I1 r1 q1) fun _ s2 q=>q
theorem c9G{x:Str}{pos':Pos}(hN:X.N.Nodup)(hi:X.N[i]? = some x)(hx:Loc X.env.scope x)(he:PE X e te)(hs:a1O e (some (.Name x pos')) pos.line X.env=pure false:=by rfl)(hf:X.fn x=true\/X.env.scope.names.lookup x=some .local:=by first | exact .inl rfl | exact .inr rfl | assumption) :
  PS X (.Assign [.Name x pos'] e pos) (G5 te (v0 i)):=by
 intro pins s σ H D I h
 refine wpAny_Assign_Name (thn (he pins s σ H _ I h) fun v s1 ⟨y,H1,I1,r1,q1⟩=>?_) hs
 exact a5N I1 hN hi hx r1 (fun s2 I2=>⟨_,H1,I2,q1⟩) hf
def b9y(to ti te:TE)(tget:V->V->Hp->VK->Prop)(tip:TIp)(tset:b2G):TS:=fun D σ H=>to σ H fun o H1=>ti σ H1 fun i H2=>tget o i H2 fun x H3=>te σ H3 fun y H4=>tip x y H4 fun z H5=>tset o i z H5 fun H6=>D.nx σ H6
def d1g(X:Cx)(t:V->V->Hp->VK->Prop):Prop:=
 ∀(pins:List (Addr×Obj)) (s:d4) (σ:St) (H:Hp) (o i:V) (ov iv:Value) (Q:VK),Inv X pins σ H s->F1 o ov->F1 i iv->t o i H Q ->
  wpAny (model X.prog X.w) X.A (c8V ov iv) (EP X pins σ Q) X.xe s
theorem c6M{o i:Expr}{to ti:TE}{tget:V->V->Hp->VK->Prop}{tip:TIp}{tset:b2G}{op:c2F}{tpos:Pos}(ho:PE X o to)(hi:PE X i ti)(hg:d1g X tget)(he:PE X e te)(hp:PIp X op tip)(hs:c5B X tset)
  (ha:∀ov iv new,augStore i ov iv new=(do a4C [new,ov,iv] (c8U ov iv new);release [new,ov,iv] [];pure .next):=by intros;rfl):PS X (.AugAssign (.Subscript o i tpos) op e pos) (b9y to ti te tget tip tset):=by
 intro pins s σ H D I h
 refine wpAny_AugAssign_SubscriptAny (thn (ho pins s σ H _ I h) fun ov s1 ⟨x1,H1,I1,r1,q1⟩=>?_) ha
 refine thn (hi pins s1 σ H1 _ I1 q1) fun iv s2 ⟨x2,H2,I2,r2,q2⟩=>?_
 refine thn (hg pins s2 σ H2 x1 x2 ov iv _ I2 r1 r2 q2) fun old s3 ⟨x3,H3,I3,r3,q3⟩=>?_
 refine thn (he pins s3 σ H3 _ I3 q3) fun v s4 ⟨x4,H4,I4,r4,q4⟩=>?_
 refine thn (hp pins s4 σ H4 x3 x4 old v _ I4 r3 r4 q4) fun new s5 ⟨x5,H5,I5,r5,q5⟩=>?_
 exact thn (hs pins s5 σ H5 x1 x2 x5 ov iv new _ I5 r1 r2 r5 q5) fun _ s6 ⟨H6,I6,q6⟩=>⟨σ,H6,I6,q6⟩
def ipI(f:Int->Int->Int):TIp:=fun x y H Q=>∃i j,x=.int i/\y=.int j/\Q (.int (f i j)) H
theorem d0T:PIp X .Add (ipI fun i j=>i+j):=by
 intro pins s σ H x y v u Q I r1 r2 h
 obtain⟨i,j,e1,e2,q⟩:=h
 subst e1;subst e2
 obtain⟨t,rfl⟩:=r1
 obtain⟨t',rfl⟩:=r2
 exact iadd_int ⟨.int _,H,I.tok _,⟨_,rfl⟩,q⟩
end
section
def b3H(c:TT)(tb:TS):TS:=fun D σ H=>∃W:Nat->St->Hp->Prop,(∃m,W m σ H)/\∀m σ H,W m σ H ->
 c σ H fun b H1=>if b=true then ∃N:St->Hp->Prop,(∀σ' H',N σ' H'->∃m',m'<m/\W m' σ' H')/\tb { D with nx:=N,ct:=N,bk:=D.nx } σ H1 else D.nx σ H1
theorem c4d{body:List Stmt}{tc:TT}(hp:d1F (model X.prog X.w) X.A X.env X.xe)(hc:PT X c tc)(hb:PSs X body tb):PS X (.While c body [] pos) (b3H tc tb):=by
 intro pins s σ H D I h
 obtain⟨W,⟨m0,w0⟩,turn⟩:=h
 refine wpAny_While (codeAny_whileLoop (fun n s'=>∃σ' H',Inv X pins σ' H' s'/\W n σ' H') ?_ m0 ⟨σ,H,I,w0⟩)
 rintro n s1 ⟨σ1,H1,I1,w1⟩
 refine a1N hp (thn (hc pins s1 σ1 H1 _ I1 (turn n σ1 H1 w1)) fun b s2 ⟨H2,I2,q2⟩=>?_)
 cases b with
 | true=>
  obtain⟨N,hN,q2⟩:=q2
  rw[if_pos rfl]
  refine a1N hp (thn (hb pins s2 σ1 H2 _ I2 q2) fun f s3 q3=>?_)
  cases f with
  | next=>
   obtain⟨σ3,H3,I3,n3⟩:=q3
   obtain⟨m',hm,w3⟩:=hN σ3 H3 n3
   exact⟨m',hm,σ3,H3,I3,w3⟩
  | cont=>
   obtain⟨σ3,H3,I3,n3⟩:=q3
   obtain⟨m',hm,w3⟩:=hN σ3 H3 n3
   exact⟨m',hm,σ3,H3,I3,w3⟩
  | brk=>exact q3
  | ret v=>exact q3
 | false=>
  rw[if_neg u5]
  exact a3l ⟨σ1,H2,I2,q2⟩
end
structure It where
 go:Nat->Hp->Prop
 yld:Nat->Hp->V->Hp->Prop
 stop:Nat->Hp->Prop
def a1K(X:Cx)(pins:List (Addr×Obj))(H:Hp)(b:Addr):Prop:=
 H b=none/\b≠X.env.locals/\b∉X.fs/\(b∈X.ex\/X.s₀.heap.objs.size<=b)/\(∀x c,X.env.cells.lookup x=some c->c≠b)/\∀p∈X.pn++pins,p.1≠b
theorem Inv.fpOk(I:Inv X pins σ H s)(hb:s.heap.objs.size<=b)(hn:H' b=none):a1K X pins H' b:=by
 refine⟨hn,a4f (t8 I.lt hb),I.nofs hb,.inr (t5 I.sz hb),fun x c e z=>?_,fun p hp z=>?_⟩
 ·obtain⟨v,q⟩:=I.cell x c e
  exact absurd (t8 q.lt (by rw[z];exact hb)) (E8 _)
 ·exact absurd (t8 (h9 (I.pin p hp).1) (by rw[z];exact hb)) (E8 _)
structure b4W(P:v8)(w:World)(K:Fg)(tg:Expr)(J:It)(fp:List Addr)(it:Addr)(tn:Nat->Heap->Prop):Prop where
 mem:it∈fp
 obj:∀i h,tn i h->∀b∈fp,∃o,h.get? b=some o/\∀v,o.data≠.cell v
 keep:∀i h h',tn i h->(∀b∈fp,∀o,h.get? b=some o->h'.get? b=some o)->tn i h'
 item:∀(X:Cx),X.prog=P->X.w=w->X.K=K->X.calm=true->∀(i:Nat) (pins:List (Addr×Obj)) (s:d4) (σ:St) (H:Hp) (E:Value->d4->Prop),Inv X pins σ H s->(∀b∈fp,a1K X pins H b)->tn i s.heap->J.go i H ->
  wpAny (model P w) X.A (pyNext (.ref it)) (fun r s1=>∃u,r=some u /\
   wpAny (model P w) X.A (a3m tg (.ref it) u) (fun _ s2=>∃x H',Inv X pins σ H' s2/\F1 x u/\J.yld i H x H'/\tn (i+1) s2.heap/\∀b∈fp,H' b=none) E s1) E s
 done:∀(X:Cx),X.prog=P->X.w=w->X.K=K->X.calm=true->∀(i:Nat) (pins:List (Addr×Obj)) (s:d4) (σ:St) (H:Hp) (E:Value->d4->Prop),Inv X pins σ H s->(∀b∈fp,a1K X pins H b)->tn i s.heap->J.stop i H ->
  wpAny (model P w) X.A (pyNext (.ref it)) (fun r s1=>r=none/\Inv X pins σ H s1) E s
 self:∀(A:F3) (i:Nat) (s:d4) (Q:Value->d4->Prop) (E:Value->d4->Prop),tn i s.heap->Q (.ref it) s->wpAny (model P w) A (pyIter (.ref it)) Q E s
abbrev TI:=St->Hp->(It->Hp->Prop)->Prop
def PIE(X:Cx)(pins:List (Addr×Obj))(σ:St)(tg:Expr)(R:It->Hp->Prop)(itv:Value)(s2:d4):Prop:=
 ∃(it:Addr) (fp:List Addr) (tn:Nat->Heap->Prop) (J:It) (H':Hp),itv=.ref it/\Inv X pins σ H' s2/\b4W X.prog X.w X.K tg J fp it tn/\tn 0 s2.heap/\(∀b∈fp,a1K X pins H' b)/\R J H'
def PI(X:Cx)(tg iter:Expr)(wi:TI):Prop:=
 ∀(pins:List (Addr×Obj)) (s:d4) (σ:St) (H:Hp) (R:It->Hp->Prop),Inv X pins σ H s->wi σ H R ->
  wpAny (model X.prog X.w) X.A (eval iter X.env) (fun v s1=>wpAny (model X.prog X.w) X.A (pyIter v) (PIE X pins σ tg R) X.xe s1) X.xe s
theorem c0e{M:Model}{A:F3}{E:Value->d4->Prop}{it:Addr}{o:Obj}{n:String}{vs:Array Value}{Q:Unit->d4->Prop}(ho:s.heap.get? it=some o)(hc:o.cls=.type n)(hd:o.data=.fields vs)
  (hn:["enumerate","zip","dict_itemiterator","dict_reverseitemiterator","odict_iterator","itertools.zip_longest","itertools.pairwise"].contains n=false) (hQ:Q () s):wpAny M A (a3m tg (.ref it) u) Q E s:=by
 unfold a3m
 cases tg <;> first
  | exact A0 hQ
  | (cases u <;> first
    | exact A0 hQ
    | (refine d8 (wpAny_load ho ?_)
       rw[hc,hd]
       show wpAny M A (if(["enumerate","zip","dict_itemiterator","dict_reverseitemiterator","odict_iterator","itertools.zip_longest","itertools.pairwise"].contains n&&vs[0]? == some (rawInt _))=true then _ else _) Q E s
       rw[if_neg (by intro h;rw[hn,d1A]at h;cases h)]
       exact A0 hQ))
def Itl(K:Fg)(a:Addr):It:=
 ⟨fun i H=>∃xs x,SqL K H a xs/\xs[i]? = some x,fun i H x H'=>H'=H/\∀xs,SqL K H a xs->xs[i]? = some x,fun i H=>∃xs,SqL K H a xs/\xs.length<=i⟩
def Itt(K:Fg)(a:Addr):It:=
 ⟨fun i H=>∃xs x,SqT K H a xs/\xs[i]? = some x,fun i H x H'=>H'=H/\∀xs,SqT K H a xs->xs[i]? = some x,fun i H=>∃xs,SqT K H a xs/\xs.length<=i⟩
def Itr(lo:Int)(n:Nat):It:=⟨fun i _=>i<n,fun i H x H'=>H'=H/\x=.int (lo+i),fun i _=>n<=i⟩
theorem c0Y{P:v8}{K:Fg}(a it:Addr):b4W P w K tg (Itl K a) [it] it (fun i h=>h.IsListIter it a i) where
 mem:=by simp
 obj:=fun i h st b hb=>by
  have e:b=it:=by simpa using hb
  subst e
  obtain⟨o,e,c,d⟩:=st
  exact⟨o,e,fun v z=>by rw[d]at z;cases z⟩
 keep:=fun i h h' st k=>st.at fun o e=>k it (by simp) o e
 item:=by
  intro X hP hw hK hc i pins s σ H E I hf st hg
  subst hP hw hK
  obtain⟨xs,x,hq,hx⟩:=hg
  obtain⟨its,rv,p,hz⟩:=I.list hq
  obtain⟨u,hu,ru⟩:=rv.get hx
  obtain⟨f0,f1,f2,f3,f4,f5⟩:=hf it (by simp)
  refine wpAny_pyNext_list_item st p.isList (x:=u) (by simpa using hu) fun h' st' sb=>?_
  have I1:Inv X pins σ H { s with heap:=h' }:=I.turned (t':=s.toks) (fun b o hb e=>(sb.2 b hb).trans e) f0 f1 f3 f4 f5
  obtain⟨o,e,c,d⟩:=id st'
  exact⟨u,rfl,c0e (s:={ s with heap:=h' }) e c d (by decide) ⟨x,H,I1,ru,⟨rfl,fun ys hy=>by rw[I.list_inj hy hq];exact hx⟩,st',fun b hb=>(hf b hb).1⟩⟩
 done:=by
  intro X hP hw hK hc i pins s σ H E I hf st hg
  subst hP hw hK
  obtain⟨xs,hq,hx⟩:=hg
  obtain⟨its,rv,p,hz⟩:=I.list hq
  obtain⟨f0,f1,f2,f3,f4,f5⟩:=hf it (by simp)
  have hl:=rv.length
  exact wpAny_pyNext_list_end (I.ok.hd hc) st p.isList (by simp;omega) fun h' eb=>⟨rfl,I.turned (t':=s.toks) (fun b o hb e=>eb b o hb e) f0 f1 f3 f4 f5⟩
 self:=fun _ _ _ _ _ st h=>wpAny_pyIter_listiter st h
theorem b7y{P:v8}{K:Fg}(a it:Addr):b4W P w K tg (Itt K a) [it] it (fun i h=>h.IsTupleIter it a i) where
 mem:=by simp
 obj:=fun i h st b hb=>by
  have e:b=it:=by simpa using hb
  subst e
  obtain⟨o,e,c,d⟩:=st
  exact⟨o,e,fun v z=>by rw[d]at z;cases z⟩
 keep:=fun i h h' st k=>st.at fun o e=>k it (by simp) o e
 item:=by
  intro X hP hw hK hc i pins s σ H E I hf st hg
  subst hP hw hK
  obtain⟨xs,x,hq,hx⟩:=hg
  obtain⟨its,rv,p,hz⟩:=I.tuple hq
  obtain⟨u,hu,ru⟩:=rv.get hx
  obtain⟨f0,f1,f2,f3,f4,f5⟩:=hf it (by simp)
  refine wpAny_pyNext_tuple_item st (show s.heap.IsTuple a its.toArray from p) (x:=u) (by simpa using hu) fun h' st' sb=>?_
  have I1:Inv X pins σ H { s with heap:=h' }:=I.turned (t':=s.toks) (fun b o hb e=>(sb.2 b hb).trans e) f0 f1 f3 f4 f5
  obtain⟨o,e,c,d⟩:=id st'
  exact⟨u,rfl,c0e (s:={ s with heap:=h' }) e c d (by decide) ⟨x,H,I1,ru,⟨rfl,fun ys hy=>by rw[I.tuple_inj hy hq];exact hx⟩,st',fun b hb=>(hf b hb).1⟩⟩
 done:=by
  intro X hP hw hK hc i pins s σ H E I hf st hg
  subst hP hw hK
  obtain⟨xs,hq,hx⟩:=hg
  obtain⟨its,rv,p,hz⟩:=I.tuple hq
  obtain⟨f0,f1,f2,f3,f4,f5⟩:=hf it (by simp)
  have hl:=rv.length
  exact wpAny_pyNext_tuple_end (I.ok.hd hc) st (show s.heap.IsTuple a its.toArray from p) (by simp;omega) fun h' eb=>⟨rfl,I.turned (t':=s.toks) (fun b o hb e=>eb b o hb e) f0 f1 f3 f4 f5⟩
 self:=fun _ _ _ _ _ st h=>wpAny_pyIter_tupleiter st h
theorem b7z{P:v8}{K:Fg}(it:Addr)(lo:Int)(n:Nat):b4W P w K tg (Itr lo n) [it] it (fun i h=>IsRangeIter h it (lo+(i:Nat) * 1) ((n:Int) - (i:Nat)) 1) where
 mem:=by simp
 obj:=fun i h st b hb=>by
  have e:b=it:=by simpa using hb
  subst e
  exact⟨_,st,fun v z=>by
   have z':Data.fields _=Data.cell v:=z
   cases z'⟩
 keep:=fun i h h' st k=>k it (by simp) _ st
 item:=by
  intro X hP hw hK hc i pins s σ H E I hf st hg
  subst hP hw hK
  obtain⟨f0,f1,f2,f3,f4,f5⟩:=hf it (by simp)
  have W:=Walks.range (prog:=X.prog) (w:=X.w) (I.ok.hd hc) it lo 1 n
  refine W.item i s _ _ hg st fun v h' tk hv st' kk=>?_
  obtain⟨t,rfl⟩:=hv
  have I1:Inv X pins σ H { s with heap:=h',toks:=tk }:=I.turned (fun b o hb e=>kk b o (by simpa using hb) e) f0 f1 f3 f4 f5
  refine⟨_,rfl,c0e (s:={ s with heap:=h',toks:=tk }) (n := "range_iterator") st' rfl rfl (by decide) ⟨.int (lo+i),H,I1,⟨t,?_⟩,⟨rfl,rfl⟩,st',fun b hb=>(hf b hb).1⟩⟩
  rw[Int.mul_one]
 done:=by
  intro X hP hw hK hc i pins s σ H E I hf st hg
  subst hP hw hK
  obtain⟨f0,f1,f2,f3,f4,f5⟩:=hf it (by simp)
  exact wpAny_pyNext_range_end (I.ok.hd hc) st (by have:n<=i:=hg;omega) fun h' eb=>⟨rfl,I.turned (t':=s.toks) (fun b o hb e=>eb b o hb e) f0 f1 f3 f4 f5⟩
 self:=fun _ _ _ _ _ st h=>wpAny_pyIter_rangeiter st h
section
def a0b(K:Fg)(tl:TE):TI:=fun σ H R=>tl σ H fun x H1=>∃a,x=.ref a/\(∃xs,SqL K H1 a xs)/\R (Itl K a) H1
def c7K(K:Fg)(tl:TE):TI:=fun σ H R=>tl σ H fun x H1=>∃a,x=.ref a/\(∃xs,SqT K H1 a xs)/\R (Itt K a) H1
theorem c6Q{l:Expr}{tl:TE}(hl:PE X l tl):PI X tg l (a0b X.K tl):=by
 intro pins s σ H R I h
 refine thn (hl pins s σ H _ I h) fun v s1 ⟨x,H1,I1,r1,q1⟩=>?_
 obtain⟨a,e,⟨xs,hq⟩,q⟩:=q1
 subst e
 cases r1
 obtain⟨its,rv,p,hz⟩:=I1.list hq
 refine b7q p.isList ?_
 refine⟨s1.heap.objs.size,[s1.heap.objs.size],_,_,H1,rfl,I1.kept (t':=s1.toks) fun b o e=>d7 _ e,c0Y a _,⟨_,C0 _ rfl,rfl,rfl⟩,fun b hb=>?_,q⟩
 have e:b=s1.heap.objs.size:=by simpa using hb
 subst e
 exact I1.fpOk (d9 _) (I1.hok.fresh (d9 _))
theorem c9M{l:Expr}{tl:TE}(hl:PE X l tl):PI X tg l (c7K X.K tl):=by
 intro pins s σ H R I h
 refine thn (hl pins s σ H _ I h) fun v s1 ⟨x,H1,I1,r1,q1⟩=>?_
 obtain⟨a,e,⟨xs,hq⟩,q⟩:=q1
 subst e
 cases r1
 obtain⟨its,rv,p,hz⟩:=I1.tuple hq
 refine wpAny_pyIter_tuple (show s1.heap.IsTuple a its.toArray from p) ?_
 refine⟨s1.heap.objs.size,[s1.heap.objs.size],_,_,H1,rfl,I1.kept (t':=s1.toks) fun b o e=>d7 _ e,b7y a _,⟨_,C0 _ rfl,rfl,rfl⟩,fun b hb=>?_,q⟩
 have e:b=s1.heap.objs.size:=by simpa using hb
 subst e
 exact I1.fpOk (d9 _) (I1.hok.fresh (d9 _))
theorem b5Z{R:It->Hp->Prop}{E:Value->d4->Prop}{lo hi:Int}{t u v:Tok}{tk:Nat}(I:Inv X pins σ H s)(h1 : -(2 ^ 62)<=lo)(h2:lo<2 ^ 62)(h3 : -(2 ^ 62)<=hi)(h4:hi<2 ^ 62)
  (q:R (Itr lo (hi - lo).toNat) H):wpAny (model X.prog X.w) X.A (pyIter (.ref s.heap.objs.size)) (PIE X pins σ tg R) E { s with heap:=s.heap.push { cls:=.type "range",data:=.fields #[.int lo t,.int hi u,.int 1 v] },toks:=tk }:=by
 refine wpAny_pyIter_range (IsRange.new ..) (small_one h1 h2 h3 h4) ?_
 have I1:Inv X pins σ H { s with heap:=s.heap.push { cls:=.type "range",data:=.fields #[.int lo t,.int hi u,.int 1 v] },toks:=tk }:=I.kept fun b o e=>d7 _ e
 refine⟨(s.heap.push { cls:=.type "range",data:=.fields #[.int lo t,.int hi u,.int 1 v] }).objs.size,[(s.heap.push { cls:=.type "range",data:=.fields #[.int lo t,.int hi u,.int 1 v] }).objs.size],_,_,H,rfl,
  I1.kept (t':=tk) fun b o e=>d7 _ e,b7z _ lo (hi - lo).toNat,?_,fun b hb=>?_,q⟩
 ·have e1:lo+((0:Nat):Int) * 1=lo:=by simp
  have e2:(((hi - lo).toNat:Nat):Int) - ((0:Nat):Int)=Builtin.Range.rangeSize lo hi 1:=by rw[rangeSize_one];split <;> omega
  show IsRangeIter _ _ (lo+((0:Nat):Int) * 1) ((((hi - lo).toNat:Nat):Int) - ((0:Nat):Int)) 1
  rw[e1,e2]
  exact C0 _ rfl
 ·have e:b=(s.heap.push { cls:=.type "range",data:=.fields #[.int lo t,.int hi u,.int 1 v] }).objs.size:=by simpa using hb
  subst e
  exact I1.fpOk (d9 _) (I1.hok.fresh (d9 _))
def a2H(ta:TA):TI:=fun σ H R=>ta σ H fun vs H1=>∃j:Int,vs=[.int j] /\ -(2 ^ 62)<=j/\j<2 ^ 62/\R (Itr 0 j.toNat) H1
def c0c(ta:TA):TI:=fun σ H R=>ta σ H fun vs H1=>∃i j:Int,vs=[.int i,.int j]/\(-(2 ^ 62)<=i/\i<2 ^ 62 /\ -(2 ^ 62)<=j/\j<2 ^ 62)/\R (Itr i (j - i).toNat) H1
theorem c1w{a:Expr}{ta:TA}(hg:Gl X "range")(hm:X.mg "range" = none)(ha:PA X [a] ta)(hs:g6 [a] X.env=[(false,eval a X.env)]:=by rfl):PI X tg (.Call (.Name "range" p) [a] [] pos) (a2H ta):=by
 intro pins s σ H R I h
 refine Call_ (a7D I hg hm boot_range (U2 (thn (ha pos pins s σ H _ I h) fun us s1 ⟨vs,H1,I1,r1,q1⟩=>?_) hs rfl))
 obtain⟨j,e,q1,q2,q⟩:=q1
 subst e
 cases r1 with
 | cons r rr=>
  cases rr
  obtain⟨t,rfl⟩:=r
  exact call_range_1 (b5Z I1 (by omega) (by omega) q1 q2 (by simpa using q))
theorem c1v{a b:Expr}{ta:TA}(hg:Gl X "range")(hm:X.mg "range" = none)(ha:PA X [a,b] ta)(hs:g6 [a,b] X.env=[(false,eval a X.env),(false,eval b X.env)]:=by rfl)(hs2:g6 [b] X.env=[(false,eval b X.env)]:=by rfl) :
  PI X tg (.Call (.Name "range" p) [a,b] [] pos) (c0c ta):=by
 intro pins s σ H R I h
 refine Call_ (a7D I hg hm boot_range (U2 (thn (ha pos pins s σ H _ I h) fun us s1 ⟨vs,H1,I1,r1,q1⟩=>?_) (by rw[hs,hs2]) (by rw[hs2];rfl)))
 obtain⟨i,j,e,⟨q1,q2,q3,q4⟩,q⟩:=q1
 subst e
 cases r1 with
 | cons r rr=>
  cases rr with
  | cons r' rr=>
   cases rr
   obtain⟨t,rfl⟩:=r
   obtain⟨t',rfl⟩:=r'
   exact call_range_2 (b5Z I1 q1 q2 q3 q4 q)
def a3X(wi:TI)(g:TG)(tb:TS):TS:=fun D σ H=>wi σ H fun J H1=>∃W:Nat->Nat->St->Hp->Prop,(∃m,W 0 m σ H1)/\∀i m σ H,W i m σ H ->
 (J.stop i H/\D.nx σ H)\/(J.go i H/\∃N:St->Hp->Prop,(∀σ' H',N σ' H'->∃m',m'<m/\W (i+1) m' σ' H')/\∀x H',J.yld i H x H'->g x σ H' fun σ2 H2=>tb { D with nx:=N,ct:=N,bk:=D.nx } σ2 H2)
def a7s(fp:List Addr)(h:Heap):List (Addr×Obj):=fp.filterMap fun b=>(h.get? b).map fun o=>(b,o)
theorem a2t{fp:List Addr}{o:Obj}(hb:b∈fp)(e:h.get? b=some o):(b,o)∈a7s fp h:=c5P.mpr ⟨b,hb,by rw[e];rfl⟩
theorem c1I{fp:List Addr}{p:Addr×Obj}(hp:p∈a7s fp h):p.1∈fp/\h.get? p.1=some p.2:=by
 obtain⟨b,hb,e⟩:=c5P.mp hp
 cases q:h.get? b with
 | none=>rw[q]at e;cases e
 | some o=>
  rw[q]at e
  have e':(b,o)=p:=Option.some.inj e
  subst e'
  exact⟨hb,q⟩
theorem Inv.pinned{fp:List Addr}(I:Inv X pins σ H s)(hf:∀b∈fp,a1K X pins H b)(ho:∀b∈fp,∃o,s.heap.get? b=some o/\∀v,o.data≠.cell v):Inv X (pins++a7s fp s.heap) σ H s:=
 I.pins_of fun p hp=>(j8.mp hp).elim (fun z=>I.pin p (t9 _ z)) fun z=>by
  obtain⟨hb,e⟩:=c1I z
  obtain⟨f0,f1,f2,_⟩:=hf p.1 hb
  obtain⟨o,e',d⟩:=ho p.1 hb
  rw[e]at e';cases e'
  exact⟨e,f0,f1,f2,d⟩
theorem Inv.unpinned{pl:List (Addr×Obj)}(I:Inv X (pins++pl) σ H s):Inv X pins σ H s:=I.pins_of fun p hp=>I.pin p (t9 _ (v9 _ hp))
theorem c9I{iter:Expr}{body:List Stmt}{wi:TI}(hp:d1F (model X.prog X.w) X.A X.env X.xe)(hc:X.calm=true)(hi:PI X tg iter wi)(hg:PG X tg g)(hb:PSs X body tb)
  (hs:∀x,Y7 iter X.env x=pure x:=by intro _;rfl):PS X (.For tg iter body [] pos) (a3X wi g tb):=by
 intro pins s σ H D I h
 refine wpAny_For (thn (hi pins s σ H _ I h) fun v s1 h1=>thn h1 fun itv s2 h2=>?_) hs
 obtain⟨it,fp,tn,J,H2,e,I2,T,st2,f2,W,⟨m0,w0⟩,turn⟩:=h2
 subst e
 have stat:∀ {H':Hp},(∀b∈fp,H' b=none)->∀b∈fp,a1K X pins H' b:=fun hn b hb=>⟨hn b hb,(f2 b hb).2⟩
 refine codeAny_forLoop_any (fun n s'=>∃i σ' H',Inv X pins σ' H' s'/\tn i s'.heap/\(∀b∈fp,H' b=none)/\W i n σ' H') ?_ m0 ⟨0,σ,H2,I2,st2,fun b hb=>(f2 b hb).1,w0⟩
 rintro n s3 ⟨i,σ3,H3,I3,st3,fr3,w3⟩
 rcases turn i n σ3 H3 w3 with ⟨stop,qn⟩ | ⟨go,N,hN,step⟩
 ·refine a1N hp (thn (T.done X rfl rfl rfl hc i pins s3 σ3 H3 X.xe I3 (stat fr3) st3 stop) fun r s4 ⟨hr,I4⟩=>?_)
  subst hr
  exact a3l ⟨σ3,H3,I4,qn⟩
 ·refine a1N hp (thn (T.item X rfl rfl rfl hc i pins s3 σ3 H3 X.xe I3 (stat fr3) st3 go) fun r s4 ⟨u,hr,h4⟩=>?_)
  subst hr
  refine a1N hp (thn h4 fun _ s5 ⟨x,H5,I5,r5,y5,st5,fr5⟩=>?_)
  have I5':=I5.pinned (stat fr5) (T.obj _ _ st5)
  refine a1N hp (thn (hg _ s5 σ3 H5 x u _ I5' r5 (step x H5 y5)) fun _ s6 ⟨σ6,H6,I6,q6⟩=>?_)
  refine a1N hp (thn (hb _ s6 σ6 H6 _ I6 q6) fun f s7 q7=>?_)
  have again:∀ {σ7:St} {H7:Hp},Inv X (pins++a7s fp s5.heap) σ7 H7 s7->N σ7 H7->∃m,m<n/\∃i σ' H',Inv X pins σ' H' s7/\tn i s7.heap/\(∀b∈fp,H' b=none)/\W i m σ' H':=fun {σ7 H7} I7 n7=>by
   obtain⟨m',hm,w7⟩:=hN σ7 H7 n7
   refine⟨m',hm,i+1,σ7,H7,I7.unpinned,T.keep _ _ _ st5 fun b hb o e=>(I7.pin (b,o) (t9 _ (t9 _ (a2t hb e)))).1,fun b hb=>?_,w7⟩
   obtain⟨o,e,d⟩:=T.obj _ _ st5 b hb
   exact(I7.pin (b,o) (t9 _ (t9 _ (a2t hb e)))).2.1
  cases f with
  | next=>obtain⟨σ7,H7,I7,n7⟩:=q7;exact again I7 n7
  | cont=>obtain⟨σ7,H7,I7,n7⟩:=q7;exact again I7 n7
  | brk=>obtain⟨σ7,H7,I7,q7⟩:=q7;exact⟨σ7,H7,I7.unpinned,q7⟩
  | ret v=>obtain⟨x7,σ7,H7,I7,r7,q7⟩:=q7;exact⟨x7,σ7,H7,I7.unpinned,r7,q7⟩
end
theorem a5Y{K:Fg}(Pv:Nat->St->Hp->Prop)(h0:Pv 0 σ H)(hl:∀i σ H,i<=xs.length->Pv i σ H->SqL K H a xs)
  (hs:∀i x σ H,xs[i]? = some x->Pv i σ H->g x σ H fun σ2 H2=>tb { D with nx:=Pv (i+1),ct:=Pv (i+1),bk:=D.nx } σ2 H2) (hd:∀σ H,Pv xs.length σ H->D.nx σ H) :
  ∃W:Nat->Nat->St->Hp->Prop,(∃m,W 0 m σ H)/\∀i m σ H,W i m σ H ->
   ((Itl K a).stop i H/\D.nx σ H)\/((Itl K a).go i H/\∃N:St->Hp->Prop,(∀σ' H',N σ' H'->∃m',m'<m/\W (i+1) m' σ' H')/\∀x H',(Itl K a).yld i H x H'->g x σ H' fun σ2 H2=>tb { D with nx:=N,ct:=N,bk:=D.nx } σ2 H2):=by
 refine⟨fun i m σ H=>m=xs.length - i/\i<=xs.length/\Pv i σ H,⟨xs.length,by simp,K6 _,h0⟩,?_⟩
 rintro i m σ H ⟨rfl,hi,p⟩
 have q:=hl i σ H hi p
 by_cases hlt:i<xs.length
 ·refine .inr ⟨⟨xs,xs[i],q,by simp[hlt]⟩,Pv (i+1),fun σ' H' p'=>⟨xs.length - (i+1),by omega,rfl,hlt,p'⟩,fun x H' y=>?_⟩
  obtain⟨e,y⟩:=y
  subst e
  exact hs i x σ _ (y xs q) p
 ·have e:i=xs.length:=by omega
  subst e
  exact .inl ⟨⟨xs,q,d9 _⟩,hd σ H p⟩
theorem c7Q{K:Fg}(Pv:Nat->St->Hp->Prop)(h0:Pv 0 σ H)(hl:∀i σ H,i<=xs.length->Pv i σ H->SqT K H a xs)
  (hs:∀i x σ H,xs[i]? = some x->Pv i σ H->g x σ H fun σ2 H2=>tb { D with nx:=Pv (i+1),ct:=Pv (i+1),bk:=D.nx } σ2 H2) (hd:∀σ H,Pv xs.length σ H->D.nx σ H) :
  ∃W:Nat->Nat->St->Hp->Prop,(∃m,W 0 m σ H)/\∀i m σ H,W i m σ H ->
   ((Itt K a).stop i H/\D.nx σ H)\/((Itt K a).go i H/\∃N:St->Hp->Prop,(∀σ' H',N σ' H'->∃m',m'<m/\W (i+1) m' σ' H')/\∀x H',(Itt K a).yld i H x H'->g x σ H' fun σ2 H2=>tb { D with nx:=N,ct:=N,bk:=D.nx } σ2 H2):=by
 refine⟨fun i m σ H=>m=xs.length - i/\i<=xs.length/\Pv i σ H,⟨xs.length,by simp,K6 _,h0⟩,?_⟩
 rintro i m σ H ⟨rfl,hi,p⟩
 have q:=hl i σ H hi p
 by_cases hlt:i<xs.length
 ·refine .inr ⟨⟨xs,xs[i],q,by simp[hlt]⟩,Pv (i+1),fun σ' H' p'=>⟨xs.length - (i+1),by omega,rfl,hlt,p'⟩,fun x H' y=>?_⟩
  obtain⟨e,y⟩:=y
  subst e
  exact hs i x σ _ (y xs q) p
 ·have e:i=xs.length:=by omega
  subst e
  exact .inl ⟨⟨xs,q,d9 _⟩,hd σ H p⟩
theorem a1G{lo:Int}{n:Nat}(Pv:Nat->St->Hp->Prop)(h0:Pv 0 σ H)
  (hs:∀i σ H,i<n->Pv i σ H->g (.int (lo+i)) σ H fun σ2 H2=>tb { D with nx:=Pv (i+1),ct:=Pv (i+1),bk:=D.nx } σ2 H2) (hd:∀σ H,Pv n σ H->D.nx σ H) :
  ∃W:Nat->Nat->St->Hp->Prop,(∃m,W 0 m σ H)/\∀i m σ H,W i m σ H ->
   ((Itr lo n).stop i H/\D.nx σ H)\/((Itr lo n).go i H/\∃N:St->Hp->Prop,(∀σ' H',N σ' H'->∃m',m'<m/\W (i+1) m' σ' H')/\∀x H',(Itr lo n).yld i H x H'->g x σ H' fun σ2 H2=>tb { D with nx:=N,ct:=N,bk:=D.nx } σ2 H2):=by
 refine⟨fun i m σ H=>m=n - i/\i<=n/\Pv i σ H,⟨n,by simp,K6 _,h0⟩,?_⟩
 rintro i m σ H ⟨rfl,hi,p⟩
 by_cases hlt:i<n
 ·refine .inr ⟨hlt,Pv (i+1),fun σ' H' p'=>⟨n - (i+1),by omega,rfl,hlt,p'⟩,fun x H' y=>?_⟩
  obtain⟨e,y⟩:=y
  subst e y
  exact hs i σ _ hlt p
 ·have e:i=n:=by omega
  subst e
  exact .inl ⟨d9 _,hd σ H p⟩
abbrev R2:=V->V->Hp->VK->Prop
variable{r:R2}
def OpR(X:Cx)(f:Value->Value->Sem Value)(r:R2):Prop:=
 ∀(pins:List (Addr×Obj)) (s:d4) (σ:St) (H:Hp) (x y:V) (v u:Value) (Q:VK),Inv X pins σ H s->F1 x v->F1 y u->r x y H Q ->
  wpAny (model X.prog X.w) X.A (f v u) (EP X pins σ Q) X.xe s
def UnR(X:Cx)(f:Value->Sem Value)(r:V->Hp->VK->Prop):Prop:=
 ∀(pins:List (Addr×Obj)) (s:d4) (σ:St) (H:Hp) (x:V) (v:Value) (Q:VK),Inv X pins σ H s->F1 x v->r x H Q ->
  wpAny (model X.prog X.w) X.A (f v) (EP X pins σ Q) X.xe s
def W9(X:Cx)(f:Value)(r:List V->Hp->VK->Prop):Prop:=
 ∀(pins:List (Addr×Obj)) (s:d4) (σ:St) (H:Hp) (xs:List V) (us:List Value) (Q:VK),Inv X pins σ H s->J0 xs us->r xs H Q ->
  wpAny (model X.prog X.w) X.A (call f us) (EP X pins σ Q) X.xe s
def tOp(r:R2)(ta tb:TE):TE:=fun σ H Q=>ta σ H fun x H1=>tb σ H1 fun y H2=>r x y H2 Q
def rI(C:Int->Int->Prop)(g:Int->Int->V):R2:=fun x y H Q=>∃i j,x=.int i/\y=.int j/\C i j/\Q (g i j) H
def rI0(g:Int->Int->V):R2:=fun x y H Q=>∃i j,x=.int i/\y=.int j/\Q (g i j) H
section
variable {a b:Expr}{tb tc:TE}
theorem d1c(ha:PE X a ta)(hb:PE X b tb){R:V->V->Hp->Prop}(I:Inv X pins σ H s)
  (h:ta σ H fun x H1=>tb σ H1 fun y H2=>R x y H2) {Q:Value->d4->Prop} {f:Value->Value->Sem Value}
  (hf:∀v u s2 x y H2,Inv X pins σ H2 s2->F1 x v->F1 y u->R x y H2->wpAny (model X.prog X.w) X.A (f v u) Q X.xe s2) :
  wpAny (model X.prog X.w) X.A (eval a X.env) (fun v s₁=>wpAny (model X.prog X.w) X.A (eval b X.env) (fun u s₂=>wpAny (model X.prog X.w) X.A (f v u) Q X.xe s₂) X.xe s₁) X.xe s:=by
 refine thn (ha pins s σ H _ I h) fun v s1 ⟨x,H1,I1,r1,q1⟩=>?_
 refine thn (hb pins s1 σ H1 _ I1 q1) fun u s2 ⟨y,H2,I2,r2,q2⟩=>?_
 exact hf v u s2 x y H2 I2 r1 r2 q2
theorem d2j{op:c2F}(ho:OpR X (V6 op) r)(ha:PE X a ta)(hb:PE X b tb):PE X (.BinOp a op b pos) (tOp r ta tb):=by
 intro pins s σ H Q I h
 exact wpAny_BinOp (d1c ha hb I h fun v u s2 x y H2 I2 rx ry q=>ho pins s2 σ H2 x y v u Q I2 rx ry q)
theorem opI{f:Value->Value->Sem Value}{C:Int->Int->Prop}{g:Int->Int->Int}
  (rule:∀(i j:Int) (t u:Tok) (s:d4) (Q:Value->d4->Prop) (E:Value->d4->Prop),C i j->Q (.int (g i j) s.toks) { s with toks:=s.toks+1 }->wpAny (model X.prog X.w) X.A (f (.int i t) (.int j u)) Q E s) :
  OpR X f (rI C fun i j=>.int (g i j)):=by
 intro pins s σ H x y v u Q I rx ry h
 obtain⟨i,j,rfl,rfl,hc,q⟩:=h
 obtain⟨t,rfl⟩:=rx
 obtain⟨t',rfl⟩:=ry
 exact rule i j t t' s _ _ hc ⟨.int (g i j),H,I.tok _,⟨_,rfl⟩,q⟩
theorem d2u{f:Value->Value->Sem Value}{g:Int->Int->Int}
  (rule:∀(i j:Int) (t u:Tok) (s:d4) (Q:Value->d4->Prop) (E:Value->d4->Prop),Q (.int (g i j) s.toks) { s with toks:=s.toks+1 }->wpAny (model X.prog X.w) X.A (f (.int i t) (.int j u)) Q E s) :
  OpR X f (rI0 fun i j=>.int (g i j)):=by
 intro pins s σ H x y v u Q I rx ry h
 obtain⟨i,j,rfl,rfl,q⟩:=h
 obtain⟨t,rfl⟩:=rx
 obtain⟨t',rfl⟩:=ry
 exact rule i j t t' s _ _ ⟨.int (g i j),H,I.tok _,⟨_,rfl⟩,q⟩
theorem c7l{f:Value->Value->Sem Value}{g:Int->Int->Bool}
  (rule:∀(i j:Int) (t u:Tok) (s:d4) (Q:Value->d4->Prop) (E:Value->d4->Prop),Q (.bool (g i j)) s->wpAny (model X.prog X.w) X.A (f (.int i t) (.int j u)) Q E s) :
  OpR X f (rI0 fun i j=>.bl (g i j)):=by
 intro pins s σ H x y v u Q I rx ry h
 obtain⟨i,j,rfl,rfl,q⟩:=h
 obtain⟨t,rfl⟩:=rx
 obtain⟨t',rfl⟩:=ry
 exact rule i j t t' s _ _ ⟨.bl (g i j),H,I,rfl,q⟩
def d2R(i j:Int):Prop:=0<=j/\j<=1000000/\i.natAbs<2 ^ 64
def c8m(i j:Int):Prop:=(-(2 ^ 64)<i/\i<2 ^ 64)\/(-(2 ^ 64)<j/\j<2 ^ 64)
theorem c8m.ok{i j:Int}(h:c8m i j):IntMulOk i j:=by
 rcases h with ⟨h1,h2⟩ | ⟨h1,h2⟩
 ·exact .of_left (intBits_le_64 h1 h2)
 ·exact .of_right (intBits_le_64 h1 h2)
theorem d0s:OpR X (V6 .Add) (rI0 fun i j=>.int (i+j)):=d2u fun _ _ _ _ _ _ _ q=>add_int q
theorem d0e:OpR X (V6 .Sub) (rI0 fun i j=>.int (i - j)):=d2u fun _ _ _ _ _ _ _ q=>sub_int q
theorem d0o:OpR X (V6 .Mult) (rI c8m fun i j=>.int (i * j)):=opI fun _ _ _ _ _ _ _ hc q=>mul_int q hc.ok
theorem d0p:OpR X (V6 .Mod) (rI (fun _ j=>0<j) fun i j=>.int (i % j)):=opI fun i j _ _ _ _ _ hc q=>by
 have h1:(0:Int)<j:=hc
 exact mod_int' (by omega) (by rw[Int.fmod_eq_emod_of_nonneg i (by omega)];exact q)
theorem d0n:OpR X (V6 .Pow) (rI d2R fun i j=>.int (i ^ j.toNat)):=opI fun _ _ _ _ _ _ _ hc q=>pow_int_small hc.1 hc.2.1 hc.2.2 q
end
def b5M:V->V->Bool
 | .non,.non=>true | .non,.int _=>true | .int _,.non=>true | .non,.bl _=>true | .bl _,.non=>true | .non,.str _=>true | .str _,.non=>true
 | .int _,.int _=>true | .bl _,.bl _=>true | .str _,.str _=>true | .byt _,.byt _=>true
 | .int _,.str _=>true | .str _,.int _=>true | .bl _,.str _=>true | .str _,.bl _=>true
 | _,_=>false
def rEq:R2:=fun x y H Q=>b5M x y=true/\Q (.bl (decide (x=y))) H
def rNe:R2:=fun x y H Q=>b5M x y=true/\Q (.bl (!decide (x=y))) H
theorem c0m{i j:Int}:decide (V.int i=V.int j)=(i == j):=by
 rw[a2g]
 simp
theorem c5h{i j:Bool}:decide (V.bl i=V.bl j)=(i == j):=by
 rw[a2g]
 simp
theorem c0k{i j:Str}:decide (V.str i=V.str j)=(i == j):=by
 rw[a2g]
 simp
theorem c0n{i j:Array UInt8}:decide (V.byt i=V.byt j)=(i.toList == j.toList):=by
 rw[a2g]
 cases i
 cases j
 simp
section
variable {a b:Expr}{tb tc:TE}
theorem N3{Q:VK}{k k':Bool}(I:Inv X pins σ H s)(q:Q (.bl k) H)(e:k=k'):EP X pins σ Q (.bool k') s:=by
 subst e
 exact⟨.bl k,H,I,rfl,q⟩
theorem d2t:OpR X (z8 .Eq) rEq:=by
 intro pins s σ H x y v u Q I rx ry h
 obtain⟨hs,q⟩:=h
 cases x with
 | non=>
  cases rx
  cases y with
  | non=>cases ry;exact PySem.EqNone.eq_none_none (N3 I q (by simp))
  | bl j=>cases ry;exact PySem.EqNone.eq_none_bool (N3 I q (by simp))
  | int j=>obtain⟨t',rfl⟩:=ry;exact PySem.EqNone.eq_none_int (N3 I q (by simp))
  | str j=>obtain⟨t',rfl⟩:=ry;exact PySem.EqNone.eq_none_str (N3 I q (by simp))
  | _=>exact absurd (show false=true from hs) u5
 | bl i=>
  cases rx
  cases y with
  | non=>cases ry;exact PySem.EqNone.eq_bool_none (N3 I q (by simp))
  | bl j=>cases ry;exact eq_bool (N3 I q c5h)
  | str j=>obtain⟨t',rfl⟩:=ry;exact PySem.EqMixed.eq_bool_str (N3 I q (by simp))
  | _=>exact absurd (show false=true from hs) u5
 | int i=>
  obtain⟨t,rfl⟩:=rx
  cases y with
  | non=>cases ry;exact PySem.EqNone.eq_int_none (N3 I q (by simp))
  | int j=>obtain⟨t',rfl⟩:=ry;exact eq_int (N3 I q c0m)
  | str j=>obtain⟨t',rfl⟩:=ry;exact PySem.EqMixed.eq_int_str (N3 I q (by simp))
  | _=>exact absurd (show false=true from hs) u5
 | str i=>
  obtain⟨t,rfl⟩:=rx
  cases y with
  | non=>cases ry;exact PySem.EqNone.eq_str_none (N3 I q (by simp))
  | bl j=>cases ry;exact PySem.EqMixed.eq_str_bool (N3 I q (by simp))
  | int j=>obtain⟨t',rfl⟩:=ry;exact PySem.EqMixed.eq_str_int (N3 I q (by simp))
  | str j=>obtain⟨t',rfl⟩:=ry;exact eq_str (N3 I q c0k)
  | _=>exact absurd (show false=true from hs) u5
 | byt i=>
  obtain⟨t,rfl⟩:=rx
  cases y with
  | byt j=>obtain⟨t',rfl⟩:=ry;exact PySem.W.eq_bytes (N3 I q c0n)
  | _=>exact absurd (show false=true from hs) u5
 | _=>cases y <;> exact absurd (show false=true from hs) u5
theorem d2o:OpR X (z8 .NotEq) rNe:=by
 intro pins s σ H x y v u Q I rx ry h
 obtain⟨hs,q⟩:=h
 cases x with
 | non=>
  cases rx
  cases y with
  | non=>cases ry;exact PySem.EqNone.ne_none_none (N3 I q (by simp))
  | bl j=>cases ry;exact PySem.EqNone.ne_none_bool (N3 I q (by simp))
  | int j=>obtain⟨t',rfl⟩:=ry;exact PySem.EqNone.ne_none_int (N3 I q (by simp))
  | str j=>obtain⟨t',rfl⟩:=ry;exact PySem.EqNone.ne_none_str (N3 I q (by simp))
  | _=>exact absurd (show false=true from hs) u5
 | bl i=>
  cases rx
  cases y with
  | non=>cases ry;exact PySem.EqNone.ne_bool_none (N3 I q (by simp))
  | bl j=>cases ry;exact ne_bool (N3 I q (congrArg not c5h))
  | str j=>obtain⟨t',rfl⟩:=ry;exact PySem.EqMixed.ne_bool_str (N3 I q (by simp))
  | _=>exact absurd (show false=true from hs) u5
 | int i=>
  obtain⟨t,rfl⟩:=rx
  cases y with
  | non=>cases ry;exact PySem.EqNone.ne_int_none (N3 I q (by simp))
  | int j=>obtain⟨t',rfl⟩:=ry;exact ne_int (N3 I q (congrArg not c0m))
  | str j=>obtain⟨t',rfl⟩:=ry;exact PySem.EqMixed.ne_int_str (N3 I q (by simp))
  | _=>exact absurd (show false=true from hs) u5
 | str i=>
  obtain⟨t,rfl⟩:=rx
  cases y with
  | non=>cases ry;exact PySem.EqNone.ne_str_none (N3 I q (by simp))
  | bl j=>cases ry;exact PySem.EqMixed.ne_str_bool (N3 I q (by simp))
  | int j=>obtain⟨t',rfl⟩:=ry;exact PySem.EqMixed.ne_str_int (N3 I q (by simp))
  | str j=>obtain⟨t',rfl⟩:=ry;exact ne_str (N3 I q (congrArg not c0k))
  | _=>exact absurd (show false=true from hs) u5
 | byt i=>
  obtain⟨t,rfl⟩:=rx
  cases y with
  | byt j=>obtain⟨t',rfl⟩:=ry;exact PySem.W.ne_bytes (N3 I q (congrArg not c0n))
  | _=>exact absurd (show false=true from hs) u5
 | _=>cases y <;> exact absurd (show false=true from hs) u5
theorem d2p:OpR X (z8 .Lt) (rI0 fun i j=>.bl (decide (i<j))):=c7l fun _ _ _ _ _ _ _ q=>lt_int q
theorem d2q:OpR X (z8 .LtE) (rI0 fun i j=>.bl (decide (i<=j))):=c7l fun _ _ _ _ _ _ _ q=>le_int q
theorem d2r:OpR X (z8 .Gt) (rI0 fun i j=>.bl (decide (j<i))):=c7l fun _ _ _ _ _ _ _ q=>gt_int q
theorem d2s:OpR X (z8 .GtE) (rI0 fun i j=>.bl (decide (j<=i))):=c7l fun _ _ _ _ _ _ _ q=>ge_int q
theorem c1A:OpR X (z8 .In) (fun x y H Q=>∃i j,x=.str i/\y=.str j/\Q (.bl (!(Builtin.Str.occurrences j i 0 j.length 1).isEmpty)) H):=by
 intro pins s σ H x y v u Q I rx ry h
 obtain⟨i,j,rfl,rfl,q⟩:=h
 obtain⟨t,rfl⟩:=rx
 obtain⟨t',rfl⟩:=ry
 exact in_str (N3 I q rfl)
theorem d0q:OpR X (z8 .Is) (fun x y H Q=>y=.non/\Q (.bl (decide (x=.non))) H):=by
 intro pins s σ H x y v u Q I rx ry h
 obtain⟨rfl,q⟩:=h
 cases ry
 refine is_none_gen (N3 I q ?_)
 cases x <;> first
  | (cases rx;rfl)
  | (obtain⟨t,rfl⟩:=rx;rfl)
theorem OpR.or{f:Value->Value->Sem Value}{r':R2}(h:OpR X f r)(h':OpR X f r'):OpR X f (fun x y H Q=>r x y H Q\/r' x y H Q):=by
 intro pins s σ H x y v u Q I rx ry q
 rcases q with q | q
 ·exact h pins s σ H x y v u Q I rx ry q
 ·exact h' pins s σ H x y v u Q I rx ry q
theorem b1G(b:Expr){op:CmpOp}(h:op≠.In:=by decide)(h2:op≠.NotIn:=by decide):R9 op b=false:=by
 have e1:(op == CmpOp.In)=false:=by cases op <;> first | rfl | exact absurd rfl h
 have e2:(op == CmpOp.NotIn)=false:=by cases op <;> first | rfl | exact absurd rfl h2
 cases b <;> simp[R9,e1,e2]
theorem c6X{op:CmpOp}(ho:OpR X (z8 op) r)(ha:PE X a ta)(hb:PE X b tb)(hm:R9 op b=false):PE X (.Compare a [op] [b] pos) (tOp r ta tb):=by
 intro pins s σ H Q I h
 exact wpAny_Compare1 (d1c ha hb I h fun v u s2 x y H2 I2 rx ry q=>ho pins s2 σ H2 x y v u Q I2 rx ry q) hm
def D7(t:TE):TT:=fun σ H Q=>t σ H fun x H'=>∃k,x=.bl k/\Q k H'
theorem c6E{op:CmpOp}(ho:OpR X (z8 op) r)(ha:PE X a ta)(hb:PE X b tb)(hm:R9 op b=false):PT X (.Compare a [op] [b] pos) (D7 (tOp r ta tb)):=by
 intro pins s σ H Q I h
 refine d1C (thn (ha pins s σ H _ I h) fun v s1 ⟨x,H1,I1,r1,q1⟩=>thn (hb pins s1 σ H1 _ I1 q1) fun u s2 ⟨y,H2,I2,r2,q2⟩=>
  thn (ho pins s2 σ H2 x y v u _ I2 r1 r2 q2) fun c s3 ⟨z,H3,I3,r3,k,e,q3⟩=>?_) hm
 subst e
 cases r3
 exact O4 ⟨H3,I3,q3⟩
def a3Y(r r':R2)(ta tb tc:TE):TE:=fun σ H Q=>ta σ H fun x H1=>tb σ H1 fun y H2=>r x y H2 fun z H3=>∃k,z=.bl k /\
 (if k=true then tc σ H3 fun w' H4=>r' y w' H4 Q else Q (.bl false) H3)
theorem c4o{op op':CmpOp}{r':R2}(ho:OpR X (z8 op) r)(ho':OpR X (z8 op') r')(ha:PE X a ta)(hb:PE X b tb)(hc:PE X c tc)
  (hm:d1E [op,op'] [b,c]=false:=by with_unfolding_all rfl):PE X (.Compare a [op,op'] [b,c] pos) (a3Y r r' ta tb tc):=by
 intro pins s σ H Q I h
 refine Compare_chain (thn (ha pins s σ H _ I h) fun v s1 ⟨x,H1,I1,r1,q1⟩=>chain_link (thn (hb pins s1 σ H1 _ I1 q1) fun u s2 ⟨y,H2,I2,r2,q2⟩=>
  thn (ho pins s2 σ H2 x y v u _ I2 r1 r2 q2) fun d s3 ⟨z,H3,I3,r3,k,e,q3⟩=>?_)) hm
 subst e
 cases r3
 refine O4 ?_
 cases k with
 | false=>exact ite_ff ⟨.bl false,H3,I3,rfl,q3⟩
 | true=>exact ite_tt (chain_last (thn (hc pins s3 σ H3 _ I3 q3) fun w' s4 ⟨z',H4,I4,r4,q4⟩=>ho' pins s4 σ H4 y z' u w' Q I4 r2 r4 q4))
theorem c4b{op op':CmpOp}{r':R2}(ho:OpR X (z8 op) r)(ho':OpR X (z8 op') r')(ha:PE X a ta)(hb:PE X b tb)(hc:PE X c tc)
  (hm:d1E [op,op'] [b,c]=false:=by with_unfolding_all rfl):PT X (.Compare a [op,op'] [b,c] pos) (D7 (a3Y r r' ta tb tc)):=by
 intro pins s σ H Q I h
 refine isTrue_chain (thn (ha pins s σ H _ I h) fun v s1 ⟨x,H1,I1,r1,q1⟩=>test_link (thn (hb pins s1 σ H1 _ I1 q1) fun u s2 ⟨y,H2,I2,r2,q2⟩=>
  thn (ho pins s2 σ H2 x y v u _ I2 r1 r2 q2) fun d s3 ⟨z,H3,I3,r3,k,e,q3⟩=>?_)) hm
 subst e
 cases r3
 refine O4 ?_
 cases k with
 | false=>
  obtain⟨k',e',q'⟩:=q3
  cases e'
  exact ite_ff ⟨H3,I3,q'⟩
 | true=>
  refine ite_tt (test_last (thn (hc pins s3 σ H3 _ I3 q3) fun w' s4 ⟨z',H4,I4,r4,q4⟩=>thn (ho' pins s4 σ H4 y z' u w' _ I4 r2 r4 q4) fun d' s5 ⟨z2,H5,I5,r5,k2,e2,q5⟩=>?_))
  subst e2
  cases r5
  exact O4 ⟨H5,I5,q5⟩
theorem a7C:(j7:Nat)<2 ^ 63:=by rw[sizeLine_eq];decide
theorem b8n:OpR X (V6 .Add) (fun x y H Q=>∃i j,x=.str i/\y=.str j/\i.length+j.length<=j7/\Q (.str (i++j)) H):=by
 intro pins s σ H x y v u Q I rx ry h
 obtain⟨i,j,rfl,rfl,hz,q⟩:=h
 obtain⟨t,rfl⟩:=rx
 obtain⟨t',rfl⟩:=ry
 exact add_str (fun t' tk=>⟨.str (i++j),H,I.tok _,⟨_,rfl⟩,q⟩) hz
theorem a4n{x:V}(r:J0 [x] us):∃u,us=[u]/\F1 x u:=by
 cases r with
 | cons r1 r2=>cases r2;exact⟨_,rfl,r1⟩
theorem b9r{x:V}(r:J0 [x,y] us):∃u w',us=[u,w']/\F1 x u/\F1 y w':=by
 cases r with
 | cons r1 r2=>
  cases r2 with
  | cons r3 r4=>cases r4;exact⟨_,_,rfl,r1,r3⟩
theorem c5r:W9 X (.builtin "abs") (fun xs H Q=>∃i,xs=[.int i]/\Q (.int (if i<0 then -i else i)) H):=by
 intro pins s σ H xs us Q I r h
 obtain⟨i,rfl,q⟩:=h
 obtain⟨u,rfl,t,rfl⟩:=a4n r
 exact call_abs_int fun u tk=>⟨.int (if i<0 then -i else i),H,I.tok _,⟨_,rfl⟩,q⟩
theorem c2n(hc:X.calm=true):W9 X (.builtin "min") (fun xs H Q=>∃i j,xs=[.int i,.int j]/\Q (.int (if j<i then j else i)) H):=by
 intro pins s σ H xs us Q I r h
 obtain⟨i,j,rfl,q⟩:=h
 obtain⟨u,w',rfl,⟨t,rfl⟩,⟨t',rfl⟩⟩:=b9r r
 refine min_two_ints (I.ok.hd hc) fun h' tk k=>⟨_,H,I.kept k,?_,q⟩
 by_cases hj:j<i
 ·rw[if_pos hj,if_pos hj];exact⟨_,rfl⟩
 ·rw[if_neg hj,if_neg hj];exact⟨_,rfl⟩
theorem b4J:W9 X (.type "str") (fun xs H Q=>∃i,xs=[.int i]/\i.natAbs.log2<1920/\Q (.str (toString i)) H):=by
 intro pins s σ H xs us Q I r h
 obtain⟨i,rfl,hz,q⟩:=h
 obtain⟨u,rfl,t,rfl⟩:=a4n r
 exact PySem.P.str_of_int hz ⟨.str _,H,I.tok _,⟨_,rfl⟩,q⟩
end
structure b9f(h:Heap)(x dx C:Addr)(mA:Str->Option Value):Prop where
 obj:h.get? x=some (U7 C dx)
 ns:h.Ns1 dx mA
 ne:dx≠x
theorem c1N{mA:Str->Option Value}(n:h.Ns1 dx mA):∃od,h.get? dx=some od/\∀name,a6H name od=some (mA name):=by
 obtain⟨o,es,ep,ho,hd,hk,_,hm⟩:=n
 refine⟨o,ho,fun name=>?_⟩
 have e:=hm name
 unfold nsFind findBy at e
 rw[<-Array.find?_toList]at e
 unfold a6H
 rw[hd]
 dsimp only
 split
 ·rename_i y q
  rw[q]at e
  exact congrArg some e
 ·rename_i q
  rw[q]at e
  have a:es.toList.any (·.refKey)=false:=by
   rw[List.any_eq_false]
   intro y hy
   obtain⟨z,t,hkey⟩:=hk y (Array.mem_toList_iff.mp hy)
   simp[DictEntry.refKey,hkey]
  have a':¬es.toList.any (·.refKey)=true:=by rw[a];exact u5
  rw[if_neg a']
  exact congrArg some e
theorem b9f.look{x:Addr}{mA:Str->Option Value}(I:b9f h x dx C mA):∃od,PySem.W.InstAt h x (U7 C dx) C (some od)/\∀name,a6H name od=some (mA name):=
 let⟨od,ho,hl⟩:=c1N I.ns
 ⟨od,⟨I.obj,rfl,rfl,ho⟩,hl⟩
section
variable {prog:v8}{A:F3}{E:Value->d4->Prop}{K:Fg}{x:Addr}{mA:Str->Option Value}{name:Str}{v:Value}
theorem c7N{expr:Bool}(X:K.In s.heap)(I:b9f s.heap x dx C mA)(hg:a2I K C name=true)(hh:a2m K C=true)
  (ha:z6 K (.ref C) name=some none) (hv:mA name=some v) (hv':c5I v=true) (h:Q v { s with toks:=s.toks+1 }) :
  wpAny (model prog w) A (getAttr (.ref x) name expr) Q E s:=by
 obtain⟨od,J,hl⟩:=I.look
 exact PySem.W.get_value X J (a7I hg).1 (PySem.W.findObj_own hh ha rfl (by rw[hl,hv])) hv' h
theorem c5a{pl:Sem Bool}{Q:Value×List Value->d4->Prop}(X:K.In s.heap)(I:b9f s.heap x dx C mA)(hg:a2I K C name=true)
  (hf:z6 K (.ref C) name=some (some (.ref f))) (ht:a9K K (.ref f)=true) (hv:mA name=none) (h:Q (.ref f,[.ref x]) s) :
  wpAny (model prog w) A (c2M (.ref x) name pl) Q E s:=by
 obtain⟨od,J,hl⟩:=I.look
 exact PySem.W.method_fn X J (a7I hg).1 (a7I hg).2 hf (beq_iff_eq.mp ht) (by show(a6H name od).map (·.isSome)=some false;rw[hl,hv];rfl) h
theorem c6l{ns:List Str}{Q:Unit->d4->Prop}(X:K.In s.heap)(I:b9f s.heap x dx C mA)
  (hs:z6 K (.ref C) "__setattr__" = some (some (.builtin "object.__setattr__"))) (hp:a9I K C=true) (ht:b2l K C name=some none) (hh:a2m K C=true)
  (hw:PySem.Within mA ns) (hsz:ns.length<=j7)
  (h:∀h',b9f h' x dx C (fun y=>if y=name then some v else mA y)->Heap.SameBut dx s.heap h'->Q () { s with heap:=h',toks:=s.toks+2 }) :
  wpAny (model prog w) A (setAttr (.ref x) name v) Q E s:=by
 obtain⟨od,J,hl⟩:=I.look
 refine PySem.W.set_plain X J hs (PySem.W.osa_open (s:={ s with toks:=s.toks+1 }) (r:=none) X J hp ht fun b=>?_)
 obtain⟨cd,hc,hd'⟩:=PySem.W.any_some hh
 have hx:s.heap.get? x=some ⟨.ref C,some dx,.plain,#[]⟩:=I.obj
 refine d8 (A0 (d8 (d8 (wpAny_loadPart hx (d8 (PySem.W.Looks.here (s:={ s with toks:=s.toks+1 }) (PySem.W.looks_clsIn X hc) ?_))))))
 rw[hd']
 refine A0 (a:=some dx) (d8 (A0 (d8 ?_)))
 refine wpAny_nsSet1 (s:={ s with toks:=s.toks+1 }) I.ns fun h' hn2 hs2=>?_
 obtain⟨oD,esD,epD,hoD,hdD,hcD⟩:=hn2.count (PySem.Within.cons name v hw)
 refine d8 (wpAny_lookBehind hoD (by rw[hdD];exact pastItsLine_dict (t5 hcD (by rw[j9];omega))) ?_)
 exact A0 (h _ ⟨(hs2.2 _ (Ne.symm I.ne)).trans I.obj,hn2,I.ne⟩ hs2)
theorem b6x{R:b9n->d4->Prop}{vs:List Value}(X:K.In s.heap)(hm:a5y K C=true)
  (hi:z6 K (.ref C) "__init__" = some (some (.ref f))) (hf:c8o K (.ref f)=some (.type "function"))
  (h:a3U (model prog w) (A.under (.builtin "type.__call__" ⟨.ref C::vs,kw⟩)) (.call (.ref f) ⟨.ref (s.heap.objs.size+1)::vs,kw⟩) (PySem.W.InitBack (s.heap.objs.size+1) R)
   { s with heap:=(s.heap.push M9).push (U7 C s.heap.objs.size) }) :
  a3U (model prog w) A (.call (.ref C) ⟨vs,kw⟩) R s:=by
 obtain⟨hh,g,d,t,os⟩:=s
 exact PySem.W.make_core (PySem.W.makes_of X hm) (PySem.W.looks_findIn X hi) (fun self=>PySem.W.bind_fn X self hf) (.inl rfl) h
end
def a3I(f:Str)(v:V):List (Str×V)->List (Str×V)
 | []=>[(f,v)]
 | (g,x)::r=>if g=f then (g,v)::r else (g,x)::a3I f v r
theorem a9R(f g:Str)(v:V):∀fs:List (Str×V),(a3I f v fs).lookup g=if g=f then some v else fs.lookup g
 | []=>by
  show X0 g [(f,v)]=_
  by_cases h:g=f
  ·have hb:(g == f)=true:=beq_iff_eq.mpr h
   simp only[X0,hb,if_pos h]
  ·have hb:(g == f)=false:=beq_eq_false_iff_ne.mpr h
   simp only[X0,hb,if_neg h]
 | (k,x)::r=>by
  have ih:=a9R f g v r
  rw[show a3I f v ((k,x)::r)=(if k=f then (k,v)::r else (k,x)::a3I f v r)from rfl]
  by_cases hk:k=f
  ·rw[if_pos hk]
   by_cases h:g=k
   ·have hb:(g == k)=true:=beq_iff_eq.mpr h
    simp only[X0,hb,if_pos (h.trans hk)]
   ·have hb:(g == k)=false:=beq_eq_false_iff_ne.mpr h
    simp only[X0,hb,if_neg (fun e:g=f=>h (e.trans hk.symm))]
  ·rw[if_neg hk]
   by_cases h:g=k
   ·have hb:(g == k)=true:=beq_iff_eq.mpr h
    simp only[X0,hb,if_neg (fun e:g=f=>hk (h.symm.trans e))]
   ·have hb:(g == k)=false:=beq_eq_false_iff_ne.mpr h
    simp only[X0,hb]
    exact ih
theorem a9v(f:Str)(v:V):∀fs:List (Str×V),f∈(a3I f v fs).map (·.1)/\∀g,g∈fs.map (·.1)->g∈(a3I f v fs).map (·.1)
 | []=>⟨by simp[a3I],fun g h=>by simp at h⟩
 | (k,x)::r=>by
  obtain⟨i1,i2⟩:=a9v f v r
  rw[show a3I f v ((k,x)::r)=(if k=f then (k,v)::r else (k,x)::a3I f v r)from rfl]
  by_cases hk:k=f
  ·rw[if_pos hk]
   subst hk
   exact⟨by simp,fun g h=>by simpa using h⟩
  ·rw[if_neg hk]
   refine⟨?_,fun g h=>?_⟩
   ·rw[C6]
    exact c9 _ i1
   ·rw[C6]at h ⊢
    rcases c5.mp h with e | e
    ·exact c5.mpr (.inl e)
    ·exact c9 _ (i2 g e)
theorem a9S(f:Str)(v:V):∀fs:List (Str×V),(a3I f v fs).length<=fs.length+1
 | []=>by simp[a3I]
 | (k,x)::r=>by
  have ih:=a9S f v r
  rw[show a3I f v ((k,x)::r)=(if k=f then (k,v)::r else (k,x)::a3I f v r)from rfl]
  by_cases hk:k=f
  ·rw[if_pos hk,j9,j9];omega
  ·rw[if_neg hk,j9,j9];omega
theorem a5v.some_of{o:Option Value}(r:a5v (some v) o):∃u,o=some u/\F1 v u:=by
 cases o with
 | none=>exact(show False from r).elim
 | some u=>exact⟨u,rfl,r⟩
theorem a5v.none_of{o:Option Value}(r:a5v none o):o=none:=by
 cases o with
 | none=>rfl
 | some u=>exact(show False from r).elim
theorem c1Z(r:F1 v u):c5I u=true:=by
 cases v with
 | non=>cases (show u=Value.none from r);rfl
 | bl b=>cases (show u=Value.bool b from r);rfl
 | int i=>obtain⟨t,e⟩:=(show ∃t,u=Value.int i t from r);cases e;rfl
 | str x=>obtain⟨t,e⟩:=(show ∃t,u=Value.str x t from r);cases e;rfl
 | byt b=>obtain⟨t,e⟩:=(show ∃t,u=Value.bytes b t from r);cases e;rfl
 | flt b=>obtain⟨t,e⟩:=(show ∃t,u=Value.float b t from r);cases e;rfl
 | ref a=>cases (show u=Value.ref a from r);rfl
 | ty n=>cases (show u=Value.type n from r);rfl
section
variable {P:v8}{fs fs':List (Str×V)}
theorem b0r(hok:HOk P w H h)(e:H a=some (.ins C dx fs)):∃mA,b9f h a dx C mA/\(∀f,a5v (fs.lookup f) (mA f))/\PySem.Within mA (fs.map (·.1))/\fs.length<=1000/\H dx=some (.own a):=by
 obtain⟨d,z,ne,ob,mA,n,r,q⟩:=(show U6 P w H h a (.ins C dx fs)from hok a _ e)
 exact⟨mA,⟨ob,n,ne⟩,r,q,z,d⟩
end
structure Cls(K:Fg)(C:Addr):Prop where
 pg:a2I K C Str.empty=true
 hd:a2m K C=true
 po:a9I K C=true
 sa:z6 K (.ref C) "__setattr__" = some (some (.builtin "object.__setattr__"))
theorem Cls.get{K:Fg}(c:Cls K C)(f:Str):a2I K C f=true:=c.pg
def a3G(K:Fg)(C:Addr)(f:Str):Prop:=z6 K (.ref C) f=some none
theorem a3G.taker{K:Fg}{f:Str}(n:a3G K C f):b2l K C f=some none:=by
 unfold b2l
 rw[show z6 K (.ref C) f=some none from n]
 rfl
structure Con(K:Fg)(C:Addr)(f:Str)(v:V)(u:Value):Prop where
 at_:z6 K (.ref C) f=some (some u)
 rel:F1 v u
 get:a4g K u "__get__" = some none
 cp:PySem.W.copiedNames.contains f=false
structure d1h(K:Fg)(C:Addr)(m:Str)(f:Addr):Prop where
 at_:z6 K (.ref C) m=some (some (.ref f))
 fn:a9K K (.ref f)=true
 kp:T0 K (.ref f)=true
section
variable {fs:List (Str×V)}{f:Str}{A:F3}{E:Value->d4->Prop}
theorem b8P{b:Bool}(I:Inv X pins σ H s)(e:H a=some (.ins C dx fs))(c:Cls X.K C)(n:a3G X.K C f)(l:fs.lookup f=some v)
  (h:∀u s',Inv X pins σ H s'->F1 v u->Q u s'):wpAny (model X.prog X.w) A (getAttr (.ref a) f b) Q E s:=by
 obtain⟨mA,O,r,_,_,_⟩:=b0r I.hok e
 obtain⟨u,hu,ru⟩:=a5v.some_of (v:=v) (o:=mA f) (by rw[<-l];exact r f)
 exact c7N I.kIn O (c.get f) c.hd n hu (c1Z ru) (h u _ (I.tok _) ru)
theorem b8O{m:Str}{g:Addr}{pl:Sem Bool}{Q:Value×List Value->d4->Prop}(I:Inv X pins σ H s)(e:H a=some (.ins C dx fs))(c:Cls X.K C)(k:d1h X.K C m g)(l:fs.lookup m=none)
  (h:Q (.ref g,[.ref a]) s):wpAny (model X.prog X.w) A (c2M (.ref a) m pl) Q E s:=by
 obtain⟨mA,O,r,_,_,_⟩:=b0r I.hok e
 have hn:mA m=none:=a5v.none_of (by rw[<-l];exact r m)
 exact c5a I.kIn O (c.get m) k.at_ k.fn hn h
theorem b7J{Q:Unit->d4->Prop}(I:Inv X pins σ H s)(e:H a=some (.ins C dx fs))(c:Cls X.K C)(n:a3G X.K C f)(hl:fs.length<1000)(ry:F1 y u)
  (h:∀s',Inv X pins σ (upd H a (.ins C dx (a3I f y fs))) s'->Q () s'):wpAny (model X.prog X.w) A (setAttr (.ref a) f u) Q E s:=by
 obtain⟨mA,O,r,wi,_,ho⟩:=b0r I.hok e
 have hz:(fs.map (·.1)).length<=j7:=by rw[a9,sizeLine_eq];omega
 refine c6l I.kIn O c.sa c.po n.taker c.hd wi hz fun h' O' sb=>h _ ?_
 have hd:∃o,h'.get? dx=some o:=let⟨o,_,_,e',_⟩:=O'.ns; ⟨o,e'⟩
 refine I.write (x:=a) (e:=dx) (by rw[e];exact True.intro) (.inr ho) (fun b q hb z=>(sb.2 b hb).trans z) hd ?_
 refine⟨by rw[g7 O.ne];exact ho,?_,O.ne,O'.obj,_,O'.ns,fun g=>?_,fun g hg=>?_⟩
 ·have:=a9S f y fs;omega
 ·show a5v ((a3I f y fs).lookup g) (if g=f then some u else mA g)
  rw[a9R]
  by_cases q:g=f
  ·rw[if_pos q,if_pos q];exact ry
  ·rw[if_neg q,if_neg q];exact r g
 ·by_cases q:g=f
  ·rw[q];exact(a9v f y fs).1
  ·refine(a9v f y fs).2 g (wi g fun z=>hg ?_)
   show(if g=f then some u else mA g)=none
   rw[if_neg q];exact z
theorem Inv.made(I:Inv X pins σ H s):Inv X pins σ (upd (upd H s.heap.objs.size (.own (s.heap.objs.size+1))) (s.heap.objs.size+1) (.ins C s.heap.objs.size []))
  { s with heap:=(s.heap.push M9).push (U7 C s.heap.objs.size) }:=by
 have e1:(s.heap.push M9).get? s.heap.objs.size=some M9:=C0 s.heap rfl
 have e2:((s.heap.push M9).push (U7 C s.heap.objs.size)).get? (s.heap.objs.size+1)=some (U7 C s.heap.objs.size):=by
  have:=C0 (s.heap.push M9) (o:=U7 C s.heap.objs.size) rfl
  rwa [a7K]at this
 have e3:(s.heap.push M9).Ns s.heap.objs.size (fun _=>none):=⟨M9,#[],_,e1,rfl,(fun e he=>absurd he (by simp)),fun _=>rfl⟩
 have I1:=I.laid (a:=s.heap.objs.size) (o:=.own (s.heap.objs.size+1)) (h':=s.heap.push M9) (t':=s.toks) (fun b u q=>d7 _ q) (d9 _) ⟨_,e1⟩
 refine I1.laid (a:=s.heap.objs.size+1) (o:=.ins C s.heap.objs.size []) (t':=s.toks) (fun b u q=>d7 _ q) (a2J (a7K _ _)) ?_
 have ne:s.heap.objs.size≠s.heap.objs.size+1:=z5 (b2L _)
 refine⟨by rw[g7 ne,c7],K6 _,ne,e2,fun _=>none,(c2B e3).at fun o q=>d7 _ q,fun _=>True.intro,fun y hy=>absurd rfl hy⟩
theorem c8b{prog:v8}{env:Env}(hb:a0Z e f env (eval e env)=eval e env)
  (h:wpAny (model prog w) A (eval e env) (fun o s₁=>wpAny (model prog w) A (getAttr o f true) Q E s₁) E s):wpAny (model prog w) A (eval (.Attribute e f pos) env) Q E s:=
 Attribute_any_ h (by rw[arm_eval_Attribute,hb])
end
def b2s(K:Fg)(ta:TE)(f:Str):TE:=fun σ H Q=>ta σ H fun x H1=>∃a C dx fs v,x=.ref a/\H1 a=some (.ins C dx fs)/\Cls K C/\a3G K C f/\fs.lookup f=some v/\Q v H1
def c1m(K:Fg)(ta tv:TE)(f:Str):TS:=fun D σ H=>tv σ H fun y H1=>ta σ H1 fun x H2=>∃a C dx fs,x=.ref a/\H2 a=some (.ins C dx fs)/\Cls K C/\a3G K C f/\fs.length<1000 /\
 D.nx σ (upd H2 a (.ins C dx (a3I f y fs)))
section
variable {o value:Expr}{f:Str}{pos' tpos:Pos}{tv:TE}
theorem c9Z(he:PE X e ta)(hb:a0Z e f X.env (eval e X.env)=eval e X.env):PE X (.Attribute e f pos) (b2s X.K ta f):=by
 intro pins s σ H Q I h
 refine c8b hb (thn (he pins s σ H _ I h) fun u s1 ⟨x,H1,I1,rx,a,C,dx,fs,v,ex,ea,c,n,l,q⟩=>?_)
 subst ex
 obtain rfl:u=Value.ref a:=rx
 exact b8P I1 ea c n l fun u' s2 I2 ru=>⟨v,H1,I2,ru,q⟩
theorem c9J(ha:PE X o ta)(hv:PE X value tv)(hs:a1O value (some (.Attribute o f pos')) pos.line X.env=pure false):PS X (.Assign [.Attribute o f pos'] value pos) (c1m X.K ta tv f):=by
 intro pins s σ H D I h
 refine plainObj_wpAny_Assign_Attribute (thn (hv pins s σ H _ I h) fun u s1 ⟨y,H1,I1,ry,q⟩=>thn (ha pins s1 σ H1 _ I1 q) fun ov s2 ⟨x,H2,I2,rx,a,C,dx,fs,ex,ea,c,n,l,q2⟩=>?_) hs
 subst ex
 obtain rfl:ov=Value.ref a:=rx
 exact b7J I2 ea c n l ry fun s3 I3=>⟨σ,_,I3,q2⟩
end
section
variable {A:F3}{E:Value->d4->Prop}{c:Value}{b:Bool}
inductive a9B(K:Fg)(H:Hp):V->Value->Prop where
 | non:a9B K H .non (.type "NoneType")
 | bl (x:Bool):a9B K H (.bl x) (.type "bool")
 | int (i:Int):a9B K H (.int i) (.type "int")
 | str (x:Str):a9B K H (.str x) (.type "str")
 | flt (x:UInt64):a9B K H (.flt x) (.type "float")
 | lst {a:Addr} {xs:List V} (e:H a=some (.lst xs)):a9B K H (.ref a) (.type "list")
 | frz {a:Addr} {o:Obj} {xs:List V} (e:H a=some (.frz o (.lst xs))):a9B K H (.ref a) (.type "list")
 | tup {a:Addr} {xs:List V} (e:H a=some (.tup xs)):a9B K H (.ref a) (.type "tuple")
 | dK {a:Addr} {kvs:List (Key×V)} (e:H a=some (.dK kvs)):a9B K H (.ref a) (.type "dict")
 | dT {a:Addr} {kvs:List (List Key×V)} (e:H a=some (.dT kvs)):a9B K H (.ref a) (.type "dict")
 | ins {a C dx:Addr} {fs:List (Str×V)} (e:H a=some (.ins C dx fs)) (cl:Cls K C) (ha:z6 K (.ref C) "__class__" = some (some (.builtin "object.__class__")))
   (hn:a4g K (.builtin "object.__class__") "__get__" = some (some (.builtin "getset_descriptor.__get__"))) (htk:b2k K (.builtin "object.__class__")=some true)
   (hm:a2M K C (.type "object")=some true):a9B K H (.ref a) (.ref C)
theorem c1S{x:V}{t:Value}(I:Inv X pins σ H s)(rx:F1 x u)(ty:a9B X.K H x t)(e:P6 X.K t c=some b)(h:∀tk,Q (.bool b) { s with toks:=tk }) :
  wpAny (model X.prog X.w) A (call (.builtin "isinstance") [u,c]) Q E s:=by
 cases ty with
 | non=>cases (show u=Value.none from rx);exact O5 PySem.W.kitx_none I.kIn True.intro e (fun z=>nomatch z) h
 | bl y=>cases (show u=Value.bool y from rx);exact O5 PySem.W.kitx_bool I.kIn True.intro e (fun z=>nomatch z) h
 | int i=>obtain⟨t,q⟩:=(show ∃t,u=Value.int i t from rx);cases q;exact O5 PySem.W.kitx_int I.kIn True.intro e (fun z=>nomatch z) h
 | str y=>obtain⟨t,q⟩:=(show ∃t,u=Value.str y t from rx);cases q;exact O5 PySem.W.kitx_str I.kIn True.intro e (fun z=>nomatch z) h
 | flt y=>obtain⟨t,q⟩:=(show ∃t,u=Value.float y t from rx);cases q;exact O5 PySem.W.kitx_float I.kIn True.intro e (fun z=>nomatch z) h
 | @lst a xs ea=>
  cases (show u=Value.ref a from rx)
  obtain⟨_,_,n,_,h1⟩:=(show U6 X.prog X.w H s.heap a (.lst xs)from I.hok a _ ea)
  exact O5 c2G I.kIn ⟨_,h1,rfl⟩ e (fun z=>nomatch z) h
 | @frz a ob xs ea=>
  cases (show u=Value.ref a from rx)
  obtain⟨_,_,_,n,_,h1⟩:=(show U6 X.prog X.w H s.heap a (.frz ob (.lst xs))from I.hok a _ ea)
  exact O5 c2G I.kIn ⟨_,h1,rfl⟩ e (fun z=>nomatch z) h
 | @tup a xs ea=>
  cases (show u=Value.ref a from rx)
  obtain⟨_,_,_,p⟩:=(show U6 X.prog X.w H s.heap a (.tup xs)from I.hok a _ ea)
  obtain⟨o,h1,h2,_⟩:=p
  exact O5 PySem.W.kitx_tuple I.kIn ⟨o,h1,h2⟩ e (fun z=>nomatch z) h
 | @dK a kvs ea=>
  cases (show u=Value.ref a from rx)
  obtain⟨_,_,vs,_,p⟩:=(show U6 X.prog X.w H s.heap a (.dK kvs)from I.hok a _ ea)
  obtain⟨o,es,ep,h1,h2,_⟩:=p
  exact O5 c2H I.kIn ⟨o,h1,h2.1⟩ e (fun z=>nomatch z) h
 | @dT a kvs ea=>
  cases (show u=Value.ref a from rx)
  obtain⟨_,_,xs,_,o,es,ep,h1,h2,_⟩:=(show U6 X.prog X.w H s.heap a (.dT kvs)from I.hok a _ ea)
  exact O5 c2H I.kIn ⟨o,h1,h2.1⟩ e (fun z=>nomatch z) h
 | @ins a C dx fs ea cl ha hn htk hm=>
  cases (show u=Value.ref a from rx)
  obtain⟨mA,O,_⟩:=b0r I.hok ea
  obtain⟨od,J,_⟩:=O.look
  exact O5 (PySem.W.kitx_own (cl.get _) cl.hd ha hn htk hm) I.kIn J e (fun z=>nomatch z) h
end
structure R3(k:Nat)(A:F3):Prop where
 hd:A.handled=none
 dp:A.depth+3 * k+5<recursionLimit
 un:A.units+16 * k+200<cLine
 gd:A.guards=some []
theorem R3.mono{j k:Nat}{A:F3}(r:R3 k A)(h:j<=k):R3 j A:=⟨r.hd,by have:=r.dp;omega,by have:=r.un;omega,r.gd⟩
theorem R3.deeper{k:Nat}{A:F3}(r:R3 (k+1) A)(env:Env):R3 k (A.deeper env):=
 ⟨r.hd,by have:=r.dp;show A.depth+1+3 * k+5<_;omega,by have:=r.un;show A.units+3+16 * k+200<_;omega,r.gd⟩
theorem b8C{A:F3}:(A.under (.builtin "type.__call__" ⟨.ref C::us,kw⟩)).depth=A.depth+1:=by
 first | rfl | simp[Around.under,Code.weight,Code.isCreation,Code.isGuard,Code.isCaller,Code.frames,Code.isFrame,guardIds]
theorem b8B{A:F3}:(A.under (.builtin "type.__call__" ⟨.ref C::us,kw⟩)).units=A.units+1:=by
 first | rfl | simp[Around.under,Code.cUnits,Code.frames,Code.isFrame]
theorem b6y{A:F3}:(A.under (.builtin "type.__call__" ⟨.ref C::us,kw⟩)).guards=A.guards:=by
 first | rfl | simp[Around.under,Code.isGuard,guardIds,Code.guards]
theorem R3.make{k:Nat}{A:F3}(r:R3 (k+1) A)(C:Addr)(us:List Value)(kw:List (Str×Value)):R3 k (A.under (.builtin "type.__call__" ⟨.ref C::us,kw⟩)):=
 ⟨r.hd,by have:=r.dp;rw[b8C];omega,by have:=r.un;rw[b8B];omega,by rw[b6y];exact r.gd⟩
theorem R3.depth{k:Nat}{A:F3}(r:R3 k A):A.depth<recursionLimit:=by have:=r.dp;omega
theorem R3.units{k:Nat}{A:F3}(r:R3 k A):A.units+64<cLine:=by have:=r.un;omega
theorem R3.units0{k:Nat}{A:F3}(r:R3 k A):A.units<cLine:=by have:=r.un;omega
def d6:TA:=fun _ H Q=>Q [] H
def a8(ta:TE)(tr:TA):TA:=fun σ H Q=>ta σ H fun x H1=>tr σ H1 fun xs H2=>Q (x::xs) H2
section
variable {t:TA}
theorem d0d:PA X [] d6:=fun _ _ _ _ H Q I h=>Calls.spliced_nil ⟨[],H,I,.nil,h⟩
theorem c7a(ha:PE X e te)(hr:PA X es t)(hs:g6 (e::es) X.env=(false,eval e X.env)::g6 es X.env:=by rfl):PA X (e::es) (a8 te t):=by
 intro pos pins s σ H Q I h
 rw[hs]
 show wpAny _ _ (spliced ((false,eval e X.env)::X5 pos (g6 es X.env))) _ _ s
 refine Calls.spliced_cons (thn (ha pins s σ H _ I h) fun u s1 ⟨x,H1,I1,r1,q1⟩=>?_)
 exact thn (hr pos pins s1 σ H1 _ I1 q1) fun us s2 ⟨xs,H2,I2,r2,q2⟩=>⟨x::xs,H2,I2,.cons r1 r2,q2⟩
def a5s(t:TA):TE:=fun σ H Q=>t σ H fun xs H1=>xs.length<=j7/\∀p,H1 p=none->Q (.ref p) (upd H1 p (.tup xs))
def Y2(t:TA):TE:=fun σ H Q=>t σ H fun xs H1=>xs.length<=j7/\∀p,H1 p=none->Q (.ref p) (upd H1 p (.lst xs))
theorem c9Q{x1}(h:PA X es t):PE X (.Tuple es x1 pos) (a5s t):=by
 intro pins s σ H Q I hq
 refine wpAny_Tuple_spliced (thn (h pos pins s σ H _ I hq) fun us s1 ⟨xs,H1,I1,r,z,q⟩=>⟨by rw[<-r.length];exact z,?_⟩)
 have hf:H1 s1.heap.objs.size=none:=I1.hok.fresh (d9 _)
 refine⟨.ref s1.heap.objs.size,upd H1 s1.heap.objs.size (.tup xs),I1.laid (t':=s1.toks) (fun b u e=>d7 _ e) (d9 _) ?_,rfl,q _ hf⟩
 exact⟨z,us,r,⟨_,C0 _ rfl,rfl,_,rfl⟩⟩
theorem c9X(h:PA X es t):PE X (.List es pos) (Y2 t):=by
 intro pins s σ H Q I hq
 refine wpAny_List_spliced (thn (h pos pins s σ H _ I hq) fun us s1 ⟨xs,H1,I1,r,z,q⟩=>⟨by rw[<-r.length];exact z,?_⟩)
 have hf:H1 s1.heap.objs.size=none:=I1.hok.fresh (d9 _)
 refine⟨.ref s1.heap.objs.size,upd H1 s1.heap.objs.size (.lst xs),I1.laid (t':=s1.toks) (fun b u e=>d7 _ e) (d9 _) ?_,rfl,q _ hf⟩
 exact⟨z,us,0,r,C0 _ rfl⟩
end
abbrev Sp:=List V->Hp->VK->XK->Prop
abbrev CXT:=List Env->Hp->d4->XK->Value->d4->Prop
variable{CX:CXT}
structure b7i(P:v8)(w:World)(K:Fg)(mg:Str->Option Value)(base:Heap)(A:F3)(outer:List Env)(s:d4)(H:Hp):Prop where
 frames:A.frames=some outer
 mod:Mod K mg base
 bs:∀b o,base.get? b=some o->s.heap.get? b=some o/\H b=none
 bsz:base.objs.size<=s.heap.objs.size
 funs:s.heap.FunFrames base outer
 frf:∀b∈frs outer,H b=none
 hok:HOk P w H s.heap
 bare:b0C s.gens
def CE(outer:List Env)(P:v8)(w:World)(H:Hp)(s:d4)(Q:VK)(u:Value)(s':d4):Prop:=
 ∃v H',s'.os=s.os/\b0C s'.gens/\Un (frs outer) [] H H' s.heap s'.heap/\HOk P w H' s'.heap/\F1 v u/\Q v H'
def CR(CX:CXT)(outer:List Env)(P:v8)(w:World)(H:Hp)(s:d4)(Q:VK)(E:XK)(r:b9n)(s':d4):Prop:=
 match r with
 | .ok (.ret u)=>CE outer P w H s Q u s'
 | .ok _=>False
 | .error e=>CX outer H s E e s'
structure F5(P:v8)(w:World)(K:Fg)(mg:Str->Option Value)(base:Heap)(CX:CXT)(k:Nat)(f:Addr)(fd:U1)(ps:List Str)(sp:Sp):Prop where
 len:∀vs H Q E,sp vs H Q E->vs.length=ps.length
 run:∀(A:F3) (outer:List Env) (s:d4) (H:Hp) (args:Args) (us:List Value) (vs:List V) (Q:VK) (E:XK),R3 k A->b7i P w K mg base A outer s H->b7s s fd args (ps.zip us)->J0 vs us->sp vs H Q E ->
  a3U (model P w) A (.call (.ref f) args) (CR CX outer P w H s Q E) s
theorem b7i.make{P:v8}{K:Fg}{mg:Str->Option Value}{base:Heap}{A:F3}{outer:List Env}(e:b7i P w K mg base A outer s H)(C:Addr)(us:List Value)(kw:List (Str×Value)) :
  b7i P w K mg base (A.under (.builtin "type.__call__" ⟨.ref C::us,kw⟩)) outer s H:=⟨by first | exact e.frames | (simpa[Around.under,Code.envs,Code.isFrame,pushEnvs]using e.frames),e.mod,e.bs,e.bsz,e.funs,e.frf,e.hok,e.bare⟩
section
variable {s':d4}
theorem Inv.env0(I:Inv X pins σ H s):b7i X.prog X.w X.K X.mg X.base X.A X.stack s H:=
 ⟨I.ok.frames,I.ok.mod,I.bs,t5 I.ok.bsz I.sz,I.stack,I.stkFree,I.hok,I.bare⟩
theorem Inv.after{Q:VK}(I:Inv X pins σ H s)(h:CE X.stack X.prog X.w H s Q u s'):EP X pins σ Q u s':=by
 obtain⟨v,H',os,bare,un,hok,r,q⟩:=h
 obtain⟨hh,g,d,t,os'⟩:=s'
 obtain rfl:os'=s.os:=os
 exact⟨v,H',I.call (h':=hh) (g':=g) (d':=d) (t':=t) (ch:=[]) un hok bare (fun b z=>absurd z (by simp)),r,q⟩
end
def u8(sp:Sp)(dvs:List V)(E:XK)(t:TA):TE:=fun σ H Q=>t σ H fun vs H1=>sp (vs++dvs) H1 Q E
def b5C(C:Addr)(m:Str)(sp:Sp)(dvs:List V)(E:XK)(ta:TE)(t:TA):TE:=fun σ H Q=>ta σ H fun x H1=>∃a dx fs,x=.ref a/\H1 a=some (.ins C dx fs)/\fs.lookup m=none /\
 t σ H1 fun vs H2=>sp (x::(vs++dvs)) H2 Q E
def b2X(C:Addr)(sp:Sp)(dvs:List V)(E:XK)(t:TA):TE:=fun σ H Q=>t σ H fun vs H1=>∀x dx,H1 x=none->H1 dx=none->dx≠x ->
 sp (.ref x::(vs++dvs)) (upd (upd H1 dx (.own x)) x (.ins C dx [])) (fun v H2=>v=.non/\Q (.ref x) H2) E
def a2d(K:Fg)(fd:U1)(ps:List Str)(ds:List Value):Prop:=
 ∀(s:d4) (us:List Value),K.In s.heap->(us++ds).length=ps.length->b7s s fd ⟨us,[]⟩ (ps.zip (us++ds))
theorem a2d.all{K:Fg}{fd:U1}(h:∀us:List Value,us.length=ps.length->bindArgs fd ⟨us,[]⟩=pure (ps.zip us)):a2d K fd ps []:=fun s us _ hl=>by
 rw[F0]at hl ⊢
 exact .of_eq (h us hl)
def a9E(CX:CXT)(X:Cx)(E:XK):Prop:=∀(pins:List (Addr×Obj)) (σ:St) (H:Hp) (s:d4) (e:Value) (s':d4),Inv X pins σ H s->CX X.stack H s E e s'->X.xe e s'
section
variable {k:Nat}{fd:U1}{sp:Sp}{dvs:List V}{ds:List Value}{E:XK}{x m:Str}{apos:Pos}{o:Expr}{t:TA}
theorem c3O{Q:VK}{vs:List V}(F:F5 X.prog X.w X.K X.mg X.base CX k f fd ps sp)(hr:R3 k X.A)(hb:a2d X.K fd ps ds)(hd:J0 dvs ds)(hx:a9E CX X E)
  (I:Inv X pins σ H s) (r:J0 vs us) (h:sp (vs++dvs) H Q E):wpAny (model X.prog X.w) X.A (call (.ref f) us) (EP X pins σ Q) X.xe s:=by
 have r2:J0 (vs++dvs) (us++ds):=r.append hd
 have hl:(us++ds).length=ps.length:=by rw[<-r2.length];exact F.len _ _ _ _ h
 refine wpAny_call (a2U (F.run X.A X.stack s H ⟨us,[]⟩ (us++ds) (vs++dvs) Q E hr I.env0 (hb s us I.kIn hl) r2 h) fun r s' hq=>?_)
 cases r with
 | error e=>exact hx pins σ H s e s' I hq
 | ok fl=>
  cases fl with
  | ret u=>exact I.after hq
  | next=>exact False.elim hq
  | brk=>exact False.elim hq
  | cont=>exact False.elim hq
theorem c6Y(F:F5 X.prog X.w X.K X.mg X.base CX k f fd ps sp)(hr:R3 k X.A)(hg:Gl X x)(hm:X.mg x=some (.ref f))(hk:T0 X.K (.ref f)=true)(hb:a2d X.K fd ps ds)(hd:J0 dvs ds)(hx:a9E CX X E)
  (ha:PA X (e::es) t) (hdb:(x == ("__debug__" : Str))=false:=by decide) (he:g6 (e::es) X.env=(false,eval e X.env)::g6 es X.env:=by rfl) (hpl:(X5 pos (g6 es X.env)).any (·.1)=false:=by rfl) :
  PE X (.Call (.Name x p) (e::es) [] pos) (u8 sp dvs E t):=by
 intro pins s σ H Q I h
 refine X2 (a3d I hg hm ?_ hdb)
 refine a0p (h₀:=X.base) I.ok.mod.kin hk (thn (ha pos pins s σ H _ I h) fun us s1 ⟨vs,H1,I1,r,q⟩=>⟨I1.kIn,?_⟩) he hpl
 exact c3O F hr hb hd hx I1 r q
theorem c6S{pl:Sem Bool}(he:PE X o ta)(c:Cls X.K C)(hm:d1h X.K C m f)(F:F5 X.prog X.w X.K X.mg X.base CX k f fd ps sp)(hr:R3 k X.A)(hb:a2d X.K fd ps ds)(hd:J0 dvs ds)(hx:a9E CX X E)(ha:PA X (e::es) t)
  (hst:g6 (e::es) X.env=(false,eval e X.env)::g6 es X.env:=by rfl) (hpl:(X5 pos (g6 es X.env)).any (·.1)=false:=by rfl)
  (ht:eval (.Call (.Attribute o m apos) (e::es) [] pos) X.env=(do
   let ov <-eval o X.env
   c2L apos.atName
   let(f,first) <-a4C [ov] (c2M ov m pl)
   callWith pos f first (X5 pos (g6 (e::es) X.env)) (b5f pos (a5B [] X.env))):=by rfl) :
  PE X (.Call (.Attribute o m apos) (e::es) [] pos) (b5C C m sp dvs E ta t):=by
 intro pins s σ H Q I h
 refine PySem.W.methodCall_KW (pl:=pl) (thn (he pins s σ H _ I h) fun u s1 ⟨x,H1,I1,rx,a,dx,fs,ex,ea,l,q⟩=>?_) ht
 subst ex
 obtain rfl:u=Value.ref a:=rx
 refine b8O I1 ea c hm l ?_
 refine a0p (first:=[.ref a]) (h₀:=X.base) I.ok.mod.kin hm.kp (thn (ha pos pins s1 σ H1 _ I1 q) fun us s2 ⟨vs,H2,I2,r,q2⟩=>⟨I2.kIn,?_⟩) hst hpl
 exact c3O (us:=.ref a::us) (vs:=.ref a::vs) F hr hb hd hx I2 (.cons rfl r) q2
structure Mk(K:Fg)(C f:Addr):Prop where
 makes:a5y K C=true
 init:z6 K (.ref C) "__init__" = some (some (.ref f))
 fn:a9K K (.ref f)=true
 kp:T0 K (.ref C)=true
theorem c3N{Q:VK}{vs:List V}(M:Mk X.K C f)(F:F5 X.prog X.w X.K X.mg X.base CX k f fd ps sp)(hr:R3 (k+1) X.A)(hb:a2d X.K fd ps ds)(hd:J0 dvs ds)
  (hx:a9E CX X E) (I:Inv X pins σ H s) (r:J0 vs us)
  (h:∀x dx,H x=none->H dx=none->dx≠x->sp (.ref x::(vs++dvs)) (upd (upd H dx (.own x)) x (.ins C dx [])) (fun v H2=>v=.non/\Q (.ref x) H2) E) :
  wpAny (model X.prog X.w) X.A (call (.ref C) us) (EP X pins σ Q) X.xe s:=by
 have hq:=h (s.heap.objs.size+1) s.heap.objs.size (I.hok.fresh (a1n _)) (I.hok.fresh (d9 _)) (z5 (b2L _))
 have I2:=Inv.made (C:=C) I
 have r2:J0 (V.ref (s.heap.objs.size+1)::(vs++dvs)) (Value.ref (s.heap.objs.size+1)::(us++ds)):=.cons rfl (r.append hd)
 have hl:(Value.ref (s.heap.objs.size+1)::us++ds).length=ps.length:=by
  have e:=r2.length
  rw[F.len _ _ _ _ hq]at e
  exact e.symm
 refine wpAny_call (b6x (f:=f) I.kIn M.makes M.init (beq_iff_eq.mp M.fn) (a2U (F.run _ X.stack _ _ ⟨Value.ref (s.heap.objs.size+1)::us,[]⟩ (Value.ref (s.heap.objs.size+1)::(us++ds)) _ _ E (hr.make C us [])
  (I2.env0.make C us []) (hb _ (Value.ref (s.heap.objs.size+1)::us) I2.kIn hl) r2 hq) fun r s' hq'=>?_))
 cases r with
 | error e=>exact hx pins σ _ _ e s' I2 hq'
 | ok fl=>
  cases fl with
  | ret u=>
   obtain⟨v,H',I3,rv,ev,q3⟩:=I2.after hq'
   subst ev
   exact⟨rv,⟨V.ref (s.heap.objs.size+1),H',I3,rfl,q3⟩⟩
  | next=>exact False.elim hq'
  | brk=>exact False.elim hq'
  | cont=>exact False.elim hq'
theorem c6T(M:Mk X.K C f)(F:F5 X.prog X.w X.K X.mg X.base CX k f fd ps sp)(hr:R3 (k+1) X.A)(hg:Gl X x)(hm:X.mg x=some (.ref C))(hb:a2d X.K fd ps ds)(hd:J0 dvs ds)(hx:a9E CX X E)
  (ha:PA X (e::es) t) (hdb:(x == ("__debug__" : Str))=false:=by decide) (he:g6 (e::es) X.env=(false,eval e X.env)::g6 es X.env:=by rfl) (hpl:(X5 pos (g6 es X.env)).any (·.1)=false:=by rfl) :
  PE X (.Call (.Name x p) (e::es) [] pos) (b2X C sp dvs E t):=by
 intro pins s σ H Q I h
 refine X2 (a3d I hg hm ?_ hdb)
 refine a0p (h₀:=X.base) I.ok.mod.kin M.kp (thn (ha pos pins s σ H _ I h) fun us s1 ⟨vs,H1,I1,r,q⟩=>⟨I1.kIn,?_⟩) he hpl
 exact c3N M F hr hb hd hx I1 r q
end
section
variable {k:Nat}{fd:U1}{ks:List Str}{sp:Sp}{E:XK}{x m:Str}{apos kpos:Pos}{o:Expr}{kws:List b3D}{t tk:TA}{nm:Option Str}
structure d3B(K:Fg)(fd:U1)(ps ks:List Str)(g:List Value->List Value->List Value)(gV:List V->List V->List V):Prop where
 to:∀(s:d4) (us ws:List Value),K.In s.heap->(g us ws).length=ps.length->b7s s fd ⟨us,ks.zip ws⟩ (ps.zip (g us ws))
 rel:∀ {vs:List V} {us:List Value} {zs:List V} {ws:List Value},J0 vs us->J0 zs ws->J0 (gV vs zs) (g us ws)
variable {g:List Value->List Value->List Value}{gV:List V->List V->List V}
end
structure A4(N P:List Str)(sc:Scope):Prop where
 kind:sc.kind=.function
 co:sc.isCoroutine=false
 gen:sc.isGenerator=false
 nd:N.Nodup
 pre:N.take P.length=P
 par:∀x∈P,sc.names.lookup x=some .local\/sc.names.lookup x=some .cell
 nofree:∀y∈sc.names,y.2≠.free
theorem b3s{kindOf:Str->Option a6J}{x:Str}:∀ {binds:List (Str×Value)} {m:Str->Option Value},(∀v,(x,v)∉binds)->bindL kindOf binds m x=m x
 | [],_,_=>rfl
 | (n,v)::r,m,h=>by
  unfold bindL
  rw[b3s fun w hw=>h w (c9 _ hw)]
  split
  ·have:x≠n:=by rintro rfl;exact h v A6
   simp[this]
  ·rfl
theorem b3u{kindOf:Str->Option a6J}{x:Str}:∀ {binds:List (Str×Value)} {m:Str->Option Value},(∀v,(x,v)∉binds)->bindC kindOf binds m x=m x
 | [],_,_=>rfl
 | (n,v)::r,m,h=>by
  unfold bindC
  rw[b3u fun w hw=>h w (c9 _ hw)]
  split
  ·rfl
  ·have:x≠n:=by rintro rfl;exact h v A6
   simp[this]
theorem b3t{kindOf:Str->Option a6J}{x:Str}{v:Value}:∀ {P:List Str} {vs:List Value} {i:Nat} {m:Str->Option Value},P.Nodup->P[i]? = some x->vs[i]? = some v->kindOf x=some .local ->
  bindL kindOf (P.zip vs) m x=some v
 | [],_,_,_,_,h,_,_=>by simp at h
 | _::_,[],_,_,_,_,h,_=>by simp at h
 | p::P,w::vs,0,m,nd,h1,h2,hk=>by
  simp at h1 h2;subst h1;subst h2
  show bindL kindOf ((p,w)::P.zip vs) m p=_
  unfold bindL
  rw[b3s fun v hv=>(Z0.mp nd).1 (b3y hv).1,if_pos hk]
  simp
 | p::P,w::vs,i+1,m,nd,h1,h2,hk=>by
  show bindL kindOf ((p,w)::P.zip vs) m x=_
  unfold bindL
  exact b3t (i:=i) (Z0.mp nd).2 (by simpa using h1) (by simpa using h2) hk
theorem b3v{kindOf:Str->Option a6J}{x:Str}{v:Value}:∀ {P:List Str} {vs:List Value} {i:Nat} {m:Str->Option Value},P.Nodup->P[i]? = some x->vs[i]? = some v->kindOf x≠some .local ->
  bindC kindOf (P.zip vs) m x=some v
 | [],_,_,_,_,h,_,_=>by simp at h
 | _::_,[],_,_,_,_,h,_=>by simp at h
 | p::P,w::vs,0,m,nd,h1,h2,hk=>by
  simp at h1 h2;subst h1;subst h2
  show bindC kindOf ((p,w)::P.zip vs) m p=_
  unfold bindC
  rw[b3u fun v hv=>(Z0.mp nd).1 (b3y hv).1,if_neg hk]
  simp
 | p::P,w::vs,i+1,m,nd,h1,h2,hk=>by
  show bindC kindOf ((p,w)::P.zip vs) m x=_
  unfold bindC
  exact b3v (i:=i) (Z0.mp nd).2 (by simpa using h1) (by simpa using h2) hk
def a6R(N:List Str)(vs:List V):St:=vs.map some++u6 (N.length - vs.length) none
def a8x(CX:CXT)(P:v8)(w:World)(K:Fg)(mg:Str->Option Value)(base:Heap)(N:List Str)(qual:Str)(scope:Scope)(f:Addr)(cd:Value)(A:F3)(outer:List Env)(s:d4)(H:Hp)(E:XK):Cx where
 prog:=P
 w:=w
 K:=K
 mg:=mg
 base:=base
 A:=A.deeper (b0B qual scope s.heap.objs.size f cd)
 N:=N
 s₀:=s
 H₀:=H
 env:=b0B qual scope s.heap.objs.size f cd
 outer:=outer
 stack:=b0B qual scope s.heap.objs.size f cd::outer
 ex:=[]
 calm:=true
 fn:=fun _=>true
 pn:=[]
 xe:=fun e s'=>wpAny (model P w) (A.deeper (b0B qual scope s.heap.objs.size f cd)) (leaving (b0B qual scope s.heap.objs.size f cd) e) (fun _ s''=>CX outer H s E e s'') (fun e' s''=>CX outer H s E e' s'') s'
theorem b6Q{sc:Scope}{n:Nat}{x:Str}(h:sc.names.lookup x=some .cell):∃c,(cellsFrom n sc.names []).lookup x=some c:=by
 have q:=b7j sc.names n [] (.inl h)
 exact Z3.mp q
theorem c1W{P:v8}{K:Fg}{mg:Str->Option Value}{base:Heap}{N:List Str}{qual:Str}{scope:Scope}{cd:Value}{A:F3}{outer:List Env}{s1:d4}{E:XK}{vs:List V}
  (S:A4 N ps scope) (hd:A.handled=none) (e0:b7i P w K mg base A outer s H) (hl:vs.length=ps.length) (r:J0 vs us)
  (x:InCallC s s.heap.objs.size (bindL (b0B qual scope s.heap.objs.size f cd).kindOf (ps.zip us) fun _=>none) (cellsFrom (s.heap.objs.size+1) scope.names []) (bindC (b0B qual scope s.heap.objs.size f cd).kindOf (ps.zip us) fun _=>none) s1) :
  Inv (a8x CX P w K mg base N qual scope f cd A outer s H E) [] (a6R N vs) H s1:=by
 have hpl:ps.length<=N.length:=by have:=congrArg P3 S.pre;rw[E1]at this;omega
 obtain⟨h1,tk,rfl,hk⟩:=x.done
 have noA:∀b:Addr,b∉(a8x CX P w K mg base N qual scope f cd A outer s H E).ex:=fun b z=>absurd (show b∈([]:List Addr)from z) (by simp)
 refine⟨⟨e0.mod,S.kind,rfl,rfl,d9 _,fun y z c h1 h2=>?_,fun y hy=>?_,fun y c _ h=>?_,fun _=>hd,Around.frames_deeper e0.frames,.inr ⟨rfl,rfl⟩,fun b z=>absurd z (noA b),e0.bs,e0.bsz,fun b _ _=>noA b,fun b z=>absurd z (noA b),e0.funs,e0.frf⟩,
  rfl,e0.bare,Un.kept hk,⟨_,x.toInCall.ns,fun i y v h1 h2 h3=>?_⟩,fun y c h=>⟨_,x.cell y c h⟩,e0.hok.fresh (d9 _),fun y c h=>?_,fun p hp=>absurd (show p∈([]:List (Addr×Obj))from hp) (by simp),e0.hok.kept hk,?_⟩
 ·exact name_of_addr x.apart (C9 h1) (C9 h2)
 ·have hy:scope.names.lookup y=some .cell\/scope.names.lookup y=some .free:=hy
  rcases hy with hy | hy
  ·exact b6Q hy
  ·exact absurd rfl (S.nofree _ (C9 hy))
 ·exact b2n (x.above y c (C9 h))
 ·have hi:i<vs.length:=by
   unfold a6R at h2
   by_cases hi:i<vs.length
   ·exact hi
   ·rw[Q5 (by simpa using hi)]at h2
    rw[J4]at h2
    split at h2 <;> cases h2
  have ha:vs[i]? = some v:=by
   unfold a6R at h2
   rw[F8 (by simpa using hi),c8]at h2
   cases e:vs[i]? with
   | none=>rw[e]at h2;cases h2
   | some a=>rw[e]at h2;cases h2;rfl
  obtain⟨u,hu,rv⟩:=r.get ha
  have hp:ps[i]? = some y:=by
   rw[<-S.pre,List.getElem?_take_of_lt (by omega)];exact h1
  have ndP:ps.Nodup:=by rw[<-S.pre];exact S.nd.sublist (List.take_sublist _ _)
  refine⟨u,rv,?_⟩
  rcases S.par y (a1d hp)with k | k
  ·exact .inl ⟨k,b3t ndP hp hu k⟩
  ·obtain⟨c,e⟩:=b6Q (n:=s.heap.objs.size+1) k
   refine .inr ⟨.inl k,c,e,?_⟩
   have q:=x.cell y c e
   rw[b3v ndP hp hu (by show scope.names.lookup y≠_;rw[k];decide)]at q
   exact q
 ·exact e0.hok.fresh (b2n (x.above y c (C9 h)))
 ·unfold a6R
  show _=N.length
  rw[j4,a9,J1]
  omega
theorem c8O{P:v8}{K:Fg}{mg:Str->Option Value}{base:Heap}{k:Nat}{name qual:Str}{params:Arguments}{body:List Stmt}{scope:Scope}{dV kV doc pm cdv ct oc:Value}{an od:Option Addr}
  {osl:Array (Option Value)} {N ps:List Str} {sp:Sp} (lk:K.lookup f=some ⟨oc,od,.func (a1a name qual params body scope dV kV doc pm an cdv ct),osl⟩) (hcd:a6I K cdv qual=true) (S:A4 N ps scope)
  (len:∀vs H Q E,sp vs H Q E->vs.length=ps.length)
  (hbody:∀(A:F3) (outer:List Env) (s:d4) (H:Hp) (vs:List V) (Q:VK) (E:XK),R3 k (A.deeper (b0B qual scope s.heap.objs.size f cdv))->sp vs H Q E ->
   ∃t,PSs (a8x CX P w K mg base N qual scope f cdv A outer s H E) body t/\t { nx:=fun _ H'=>Q .non H',rt:=Q } (a6R N vs) H) :
  F5 P w K mg base CX (k+1) f (a1a name qual params body scope dV kV doc pm an cdv ct) ps sp:=by
 refine⟨len,fun A outer s H args us vs Q E hr e0 hb r hsp=>?_⟩
 have hl:=len _ _ _ _ hsp
 have KX:K.In s.heap:=e0.mod.kin.keeps fun b o e=>(e0.bs b o e).1
 have lim:s.heap.NoLimit:=e0.mod.nolimit.keeps fun b o e=>(e0.bs b o e).1
 have hkind:∀y∈ps.zip us,scope.names.lookup y.1=some .local\/(scope.names.lookup y.1=some .cell/\((cellsFrom (s.heap.objs.size+1) scope.names []).lookup y.1).isSome=true):=fun⟨n,v⟩ hy=>by
  rcases S.par n (b3y hy).1 with q | q
  ·exact .inl q
  ·exact .inr ⟨q,b7j _ _ _ (.inl q)⟩
 refine codeAny_call_function hr.depth (KX _ _ lk) rfl S.co S.gen rfl (PySem.W.codeRec_of KX hcd) (hb _ _ _ _ ?_)
 refine wpAny_newFunctionEnv_cells S.kind hkind fun env he s1 x=>?_
 subst he
 refine⟨lim.keeps x.toInCall.keep,codeAny_func ?_⟩
 obtain⟨t,ht,hq⟩:=hbody A outer s H vs Q E (hr.deeper _) hsp
 have I:Inv (a8x CX P w K mg base N qual scope f cdv A outer s H E) [] (a6R N vs) H s1:=c1W S hr.hd e0 hl r x
 refine Q7 (ht [] s1 (a6R N vs) H _ I hq) (fun fl s' hs=>?_) fun e s' hs=>hs
 have fin:∀ {σ':St} {H':Hp} {v:V} {u:Value},Inv (a8x CX P w K mg base N qual scope f cdv A outer s H E) [] σ' H' s'->F1 v u->Q v H'->CE outer P w H s Q u s':=
  fun {σ' H' v u} J rv q=>⟨v,H',J.os,J.bare,J.base,J.hok,rv,q⟩
 cases fl with
 | ret u=>
  obtain⟨v,σ',H',J,rv,q⟩:=hs
  exact fin J rv q
 | next=>
  obtain⟨σ',H',J,q⟩:=hs
  exact fin (v:=V.non) (u:=Value.none) J rfl q
 | brk=>
  obtain⟨_,_,_,q⟩:=hs
  exact False.elim q
 | cont=>
  obtain⟨_,_,_,q⟩:=hs
  exact False.elim q
section
variable {x:Str}{t:TA}{id T:String}{r:List V->Hp->VK->Prop}
def tCB(r:List V->Hp->VK->Prop)(t:TA):TE:=fun σ H Q=>t σ H fun vs H1=>r vs H1 Q
theorem c4q(hc:W9 X (.builtin id) r)(hg:Gl X x)(hm:X.mg x=none)(hv:a0W x=some (.builtin id))(ha:PA X (e::es) t)(hn:x ≠ "__name__" := by decide)(hdb:(x == ("__debug__" : Str))=false:=by decide)
  (he:g6 (e::es) X.env=(false,eval e X.env)::g6 es X.env:=by rfl) (hpl:(X5 pos (g6 es X.env)).any (·.1)=false:=by rfl):PE X (.Call (.Name x p) (e::es) [] pos) (tCB r t):=by
 intro pins s σ H Q I h
 refine X2 (a7D I hg hm hv ?_ hn hdb)
 exact PyProof.Rows.callWith_builtin1 (thn (ha pos pins s σ H _ I h) fun us s1 ⟨vs,H1,I1,r1,q1⟩=>hc pins s1 σ H1 vs us Q I1 r1 q1) he hpl
theorem c1x(hc:W9 X (.type T) r)(hg:Gl X x)(hm:X.mg x=none)(hv:a0W x=some (.type T))(ha:PA X (e::es) t)(hn:x ≠ "__name__" := by decide)(hdb:(x == ("__debug__" : Str))=false:=by decide)
  (he:g6 (e::es) X.env=(false,eval e X.env)::g6 es X.env:=by rfl) (hpl:(X5 pos (g6 es X.env)).any (·.1)=false:=by rfl):PE X (.Call (.Name x p) (e::es) [] pos) (tCB r t):=by
 intro pins s σ H Q I h
 refine X2 (a7D I hg hm hv ?_ hn hdb)
 exact U2 (thn (ha pos pins s σ H _ I h) fun us s1 ⟨vs,H1,I1,r1,q1⟩=>hc pins s1 σ H1 vs us Q I1 r1 q1) he hpl
end
section
variable {κ:Type}[DecidableEq κ]
def a9Z(kvs:List (κ×V))(k:κ):Option V:=(kvs.find? fun kv=>decide (kv.1=k)).map (·.2)
def a5R(kvs:List (κ×V))(k:κ)(v:V):List (κ×V):=
 if(kvs.any fun kv=>decide (kv.1=k))=true then kvs.map (fun kv=>if kv.1=k then (kv.1,v)else kv)else kvs++[(k,v)]
theorem a7R{p:κ×V}{r:List (κ×V)}{k:κ}(e:p.1=k):a9Z (p::r) k=some p.2:=by simp[a9Z,a2f,e]
theorem a7S{p:κ×V}{r:List (κ×V)}{k:κ}(e:¬p.1=k):a9Z (p::r) k=a9Z r k:=by simp[a9Z,a2f,e]
theorem b0N(k:κ):∀kvs:List (κ×V),(kvs.any fun kv=>decide (kv.1=k))=(a9Z kvs k).isSome
 | []=>rfl
 | p::r=>by
  rw[O7]
  by_cases e:p.1=k
  ·simp only[a7R e,d4M e,Bool.true_or,Option.isSome_some]
  ·rw[a7S e,d4L e,b7p];exact b0N k r
theorem a5V(kvs:List (κ×V))(k:κ)(v:V):(a5R kvs k v).length<=kvs.length+1:=by
 unfold a5R
 split
 ·rw[a9];omega
 ·rw[j4,j9,a0B];omega
theorem a5v.isSome_eq{o:Option V}{u:Option Value}(r:a5v o u):o.isSome=u.isSome:=by
 cases o with
 | none=>cases u with
  | none=>rfl
  | some _=>exact(show False from r).elim
 | some _=>cases u with
  | none=>exact(show False from r).elim
  | some _=>rfl
theorem KV.val{kvs:List (κ×V)}{vs:List (κ×Value)}(r:KV kvs vs)(k:κ):a5v (a9Z kvs k) (c8T vs k):=by
 unfold KV at r
 induction r with
 | nil=>exact True.intro
 | @cons p q ps qs h t ih=>
  obtain⟨h1,h2⟩:=h
  by_cases e:p.1=k
  ·have e':q.1=k:=h1.symm.trans e
   have b:c8T (q::qs) k=some q.2:=by simp[c8T,a2f,e']
   rw[a7R e,b];exact h2
  ·have e':¬q.1=k:=fun z=>e (h1.trans z)
   have b:c8T (q::qs) k=c8T qs k:=by simp[c8T,a2f,e']
   rw[a7S e,b];exact ih
theorem KV.any{kvs:List (κ×V)}{vs:List (κ×Value)}(r:KV kvs vs)(k:κ):(kvs.any fun kv=>decide (kv.1=k))=vs.any fun kv=>decide (kv.1=k):=by
 unfold KV at r
 induction r with
 | nil=>rfl
 | cons h t ih=>rw[O7,O7,ih,h.1]
theorem KV.repl{kvs:List (κ×V)}{vs:List (κ×Value)}(r:KV kvs vs)(k:κ)(ry:F1 y u) :
  KV (kvs.map fun kv=>if kv.1=k then (kv.1,y)else kv) (vs.map fun kv=>if kv.1=k then (kv.1,u)else kv):=by
 unfold KV at r ⊢
 induction r with
 | nil=>exact .nil
 | @cons p q ps qs h t ih=>
  rw[C6,C6]
  refine .cons ?_ ih
  obtain⟨h1,h2⟩:=h
  by_cases e:p.1=k
  ·rw[if_pos e,if_pos (h1.symm.trans e)];exact⟨h1,ry⟩
  ·rw[if_neg e,if_neg (fun z=>e (h1.trans z))];exact⟨h1,h2⟩
theorem KV.put{kvs:List (κ×V)}{vs:List (κ×Value)}(r:KV kvs vs)(k:κ)(ry:F1 y u):KV (a5R kvs k y) (stored vs k u):=by
 unfold a5R stored
 rw[r.any k]
 by_cases e:(vs.any fun kv=>decide (kv.1=k))=true
 ·rw[if_pos e,if_pos e];exact r.repl k ry
 ·rw[if_neg e,if_neg e];exact Paired.snoc r ⟨rfl,ry⟩
theorem KV.length{kvs:List (κ×V)}{vs:List (κ×Value)}(r:KV kvs vs):kvs.length=vs.length:=Paired.length r
end
theorem b6E{P:v8}{k:Key}(r:F1 (kV k) u):(X7 P w).is k u=true:=by
 cases k with
 | inl i=>obtain⟨t,e⟩:=(show ∃t,u=Value.int i t from r);subst e;exact b6v P w i t
 | inr x=>obtain⟨t,e⟩:=(show ∃t,u=Value.str x t from r);subst e;exact b6u P w x t
theorem b3m{P:v8}:∀ {ks:List Key} {us:List Value},J0 (ks.map kV) us->ItemsAre (X7 P w) ks us
 | [],_,r=>by rw[a6C]at r;cases r;exact .nil
 | k::ks,_,r=>by
  rw[C6]at r
  cases r with
  | cons h t=>exact .cons (b6E h) (b3m t)
abbrev KT(H:Hp):List (List Key×V)->List (List Key×Addr×Value)->Prop:=Paired fun p q=>p.1=q.1/\H q.2.1=some (.tup (p.1.map kV))/\F1 p.2 q.2.2
theorem KT.val{kvs:List (List Key×V)}{xs:List (List Key×Addr×Value)}(r:KT H kvs xs)(k:List Key):a5v (a9Z kvs k) ((atKey xs k).map (·.2)):=by
 induction r with
 | nil=>exact True.intro
 | @cons p q ps qs h t ih=>
  obtain⟨h1,_,h2⟩:=h
  by_cases e:p.1=k
  ·have e':q.1=k:=h1.symm.trans e
   have b:atKey (q::qs) k=some q.2:=by simp[atKey,a2f,e']
   rw[a7R e,b];exact h2
  ·have e':¬q.1=k:=fun z=>e (h1.trans z)
   have b:atKey (q::qs) k=atKey qs k:=by simp[atKey,a2f,e']
   rw[a7S e,b];exact ih
theorem KT.repl{kvs:List (List Key×V)}{xs:List (List Key×Addr×Value)}(r:KT H kvs xs)(k:List Key)(ry:F1 y u) :
  KT H (kvs.map fun kv=>if kv.1=k then (kv.1,y)else kv) (xs.map (putAt k u)):=by
 induction r with
 | nil=>exact .nil
 | @cons p q ps qs h t ih=>
  rw[C6,C6]
  refine .cons ?_ ih
  obtain⟨h1,h2,h3⟩:=h
  unfold putAt
  by_cases e:p.1=k
  ·rw[if_pos e,if_pos (h1.symm.trans e)];exact⟨h1,h2,ry⟩
  ·rw[if_neg e,if_neg (fun z=>e (h1.trans z))];exact⟨h1,h2,h3⟩
theorem KT.put{kvs:List (List Key×V)}{xs:List (List Key×Addr×Value)}(r:KT H kvs xs)(k:List Key)(hb:H b=some (.tup (k.map kV)))(ry:F1 y u) :
  KT H (a5R kvs k y) (storedH xs k b u):=by
 have e:(kvs.any fun kv=>decide (kv.1=k))=(atKey xs k).isSome:=by
  rw[b0N,(r.val k).isSome_eq,a9Y]
 unfold a5R storedH
 rw[e]
 by_cases q:(atKey xs k).isSome=true
 ·rw[if_pos q,if_pos q];exact r.repl k ry
 ·rw[if_neg q,if_neg q];exact Paired.snoc r ⟨rfl,hb,ry⟩
theorem KT.keeps{kvs:List (List Key×V)}{xs:List (List Key×Addr×Value)}(r:KT H kvs xs)(ht:∀b ys,H b=some (.tup ys)->H' b=some (.tup ys)):KT H' kvs xs:=
 Paired.mapP r fun _ _ z=>⟨z.1,ht _ _ z.2.1,z.2.2⟩
section
variable {P:v8}
theorem c8D{u:HO}(ok:HOk P w H h)(e:Rd H a u):U6 P w H h a u:=e.ok ok
theorem c5f(ok:HOk P w H h)(e:Rd H a (.dK kvs)):kvs.length<=j7/\(a == a3S)=false/\∃vs,KV kvs vs/\h.DictOf (X7 P w) a vs:=
 show U6 P w H h a (.dK kvs)from c8D ok e
theorem c0j(ok:HOk P w H h)(e:H a=some (.dK kvs)):kvs.length<=j7/\(a == a3S)=false/\∃vs,KV kvs vs/\h.DictOf (X7 P w) a vs:=c5f ok (.inl e)
theorem b4u{ks:List Key}(ok:HOk P w H h)(e:H a=some (.tup (ks.map kV))):(c2K (X7 P w)).is h ks a:=by
 obtain⟨_,its,r,o,h1,h2,n,h3⟩:=(show U6 P w H h a (.tup (ks.map kV))from ok a _ e)
 exact⟨o,its.toArray,n,h1,h2,h3,by simpa using b3m r⟩
theorem c5d{kvs:List (List Key×V)}(ok:HOk P w H h)(e:Rd H a (.dT kvs)):kvs.length<=j7/\(a == a3S)=false /\
  ∃xs,KT H kvs xs/\h.DictOfH (c2K (X7 P w)) a xs:=by
 obtain⟨z,y,xs,r,o,es,ep,h1,h2,h3,h4,h5⟩:=(show U6 P w H h a (.dT kvs)from c8D ok e)
 refine⟨z,y,xs,r,o,es,ep,h1,h2,h3,h4,fun x hx=>?_,h5⟩
 have all:∀ {l:List (List Key×V)} {m:List (List Key×Addr×Value)},KT H l m->∀x∈m,(c2K (X7 P w)).is h x.1 x.2.1:=by
  intro l m q
  induction q with
  | nil=>intro x hx;exact nomatch hx
  | @cons p q ps qs hq t ih=>
   intro x hx
   rcases c5.mp hx with e | hx
   ·subst e
    exact b4u ok (by rw[<-hq.1];exact hq.2.1)
   ·exact ih x hx
 exact all r x hx
theorem d2F{kvs:List (List Key×V)}(ok:HOk P w H h)(e:H a=some (.dT kvs)):kvs.length<=j7/\(a == a3S)=false /\
  ∃xs,KT H kvs xs/\h.DictOfH (c2K (X7 P w)) a xs:=c5d ok (.inl e)
end
def b2I(H:Hp)(a:Addr)(y:V)(r:Option V):Prop:=
 (∃kvs k,Rd H a (.dK kvs)/\y=kV k/\r=a9Z kvs k)\/∃kvs k b,Rd H a (.dT kvs)/\y=.ref b/\H b=some (.tup (k.map kV))/\r=a9Z kvs k
def b9k(H:Hp)(a:Addr)(y v:V)(H':Hp):Prop:=
 (∃kvs k,H a=some (.dK kvs)/\y=kV k/\kvs.length<j7/\H'=upd H a (.dK (a5R kvs k v))) \/
 ∃kvs k b,H a=some (.dT kvs)/\y=.ref b/\H b=some (.tup (k.map kV))/\kvs.length<j7/\H'=upd H a (.dT (a5R kvs k v))
theorem b2I.k{k:Key}(e:H a=some (.dK kvs)):b2I H a (kV k) (a9Z kvs k):=.inl ⟨kvs,k,.inl e,rfl,rfl⟩
theorem b9k.k{k:Key}(e:H a=some (.dK kvs))(hl:kvs.length<j7):b9k H a (kV k) v (upd H a (.dK (a5R kvs k v))):=.inl ⟨kvs,k,e,rfl,hl,rfl⟩
section
variable {r:Value}{o:Option V}{A:F3}{E:Value->d4->Prop}
theorem Inv.big(I:Inv X pins σ H s):a3S<s.heap.objs.size:=by
 have h:u4<s.heap.objs.size:=(I.mod.glob.keeps I.bk).lt
 exact c2z (by decide) h
theorem d3v(hu:A.units+1<cLine)(I:Inv X pins σ H s)(g:b2I H a y o)(ry:F1 y u)(h:∀s',Inv X pins σ H s'->Q (.bool o.isSome) s') :
  wpAny (model X.prog X.w) A (z8 .In u (.ref a)) Q E s:=by
 rcases g with ⟨kvs,k,e,ey,l⟩ | ⟨kvs,k,b,e,ey,eb,l⟩
 ·subst ey
  obtain⟨z,hd,vs,rel,dd⟩:=c5f I.hok e
  refine wpAny_in_of (b6E ry) hd dd.mapOf ?_
  rw[<-(rel.val k).isSome_eq,<-l]
  exact h _ (I.tok _)
 ·subst ey
  cases (show u=Value.ref b from ry)
  obtain⟨z,hd,xs,rel,dd⟩:=c5d I.hok e
  refine wpAny_in_heap (b5e hu) (b4u I.hok eb) hd dd ?_
  have q:=(rel.val k).isSome_eq
  rw[a9Y]at q
  rw[<-q,<-l]
  exact h _ (I.tok _)
theorem c7T(hu:A.units+1<cLine)(I:Inv X pins σ H s)(g:b2I H a y o)(ry:F1 y u)(h:∀s',Inv X pins σ H s'->Q (.bool (!o.isSome)) s') :
  wpAny (model X.prog X.w) A (z8 .NotIn u (.ref a)) Q E s:=by
 rcases g with ⟨kvs,k,e,ey,l⟩ | ⟨kvs,k,b,e,ey,eb,l⟩
 ·subst ey
  obtain⟨z,hd,vs,rel,dd⟩:=c5f I.hok e
  refine wpAny_notIn_of (b6E ry) hd dd.mapOf ?_
  rw[<-(rel.val k).isSome_eq,<-l]
  exact h _ (I.tok _)
 ·subst ey
  cases (show u=Value.ref b from ry)
  obtain⟨z,hd,xs,rel,dd⟩:=c5d I.hok e
  refine wpAny_notIn_heap (b5e hu) (b4u I.hok eb) hd dd ?_
  have q:=(rel.val k).isSome_eq
  rw[a9Y]at q
  rw[<-q,<-l]
  exact h _ (I.tok _)
theorem b4D{ob:HO}(I:Inv X pins σ H s)(mu:Mut (H a))(hs:Heap.SameBut a s.heap h')(he:∃q,h'.get? a=some q)(new:U6 X.prog X.w (upd H a ob) h' a ob) :
  Inv X pins σ (upd H a ob) { s with heap:=h',toks:=t' }:=
 I.write (x:=a) (e:=a) mu (.inl rfl) (fun b q hb z=>(hs.2 b hb).trans z) he new
theorem c5g{P:v8}{vs:List (Key×Value)}(z:kvs.length<=j7)(hd:(a == a3S)=false)(rel:KV kvs vs)(dd:h'.DictOf (X7 P w) a vs) :
  U6 P w H' h' a (.dK kvs):=⟨z,hd,vs,rel,dd⟩
theorem c2c{Q:Unit->d4->Prop}(hu:A.units+1<cLine)(I:Inv X pins σ H s)(g:b9k H a y v H')(ry:F1 y u)(rv:F1 v r)(h:∀s',Inv X pins σ H' s'->Q () s') :
  wpAny (model X.prog X.w) A (c8U (.ref a) u r) Q E s:=by
 rcases g with ⟨kvs,k,e,ey,l,eH⟩ | ⟨kvs,k,b,e,ey,eb,l,eH⟩
 ·subst ey eH
  obtain⟨z,hd,vs,rel,dd⟩:=c0j I.hok e
  have hz:vs.length<=j7:=by rw[<-rel.length];exact z
  have hl:(a5R kvs k v).length<=j7:=by have:=a5V kvs k v;omega
  refine wpAny_setItem_pairs (hsz:=hz) (b6E ry) dd fun h' dd' hs=>h _ ?_
  have he:∃q,h'.get? a=some q:=let⟨q,_,_,hq,_⟩:=dd'; ⟨q,hq⟩
  exact b4D I (by rw[e];exact True.intro) hs he (c5g hl hd (rel.put k rv) dd')
 ·subst ey eH
  cases (show u=Value.ref b from ry)
  obtain⟨z,hd,xs,rel,dd⟩:=d2F I.hok e
  have hz:xs.length<=j7:=by rw[<-Paired.length rel];exact z
  have hl:(a5R kvs k v).length<=j7:=by have:=a5V kvs k v;omega
  refine wpAny_setItem_heap (hsz:=hz) (b5e hu) (b4u I.hok eb) dd fun h' dd' hs=>h _ ?_
  obtain⟨q,es,ep,hq,h2,h3,h4,_,h5⟩:=dd'
  refine b4D I (by rw[e];exact True.intro) hs ⟨q,hq⟩ ⟨hl,hd,_,(rel.put k eb rv).keeps fun c ys ec=>?_,q,es,ep,hq,h2,h3,h4,h5⟩
  rw[g7 (R1 ec e (fun z=>nomatch z))]
  exact ec
end
section
variable {k:Key}{A:F3}{E:Value->d4->Prop}
end
def b3I(ty td:TE):TE:=fun σ H Q=>ty σ H fun y H1=>td σ H1 fun x H2=>∃a o,x=.ref a/\b2I H2 a y o/\Q (.bl o.isSome) H2
def a3J(ty td:TE):TE:=fun σ H Q=>ty σ H fun y H1=>td σ H1 fun x H2=>∃a o,x=.ref a/\b2I H2 a y o/\Q (.bl (!o.isSome)) H2
def a8j(td ty tv:TE):TS:=fun D σ H=>tv σ H fun v H1=>td σ H1 fun x H2=>ty σ H2 fun y H3=>∃a H4,x=.ref a/\b9k H3 a y v H4/\D.nx σ H4
section
variable {o i value:Expr}{pos' tpos:Pos}{td ty tv:TE}
theorem c4r(hu:X.A.units+1<cLine)(hi:PE X i ty)(ho:PE X o td):PC X .In i o (b3I ty td):=by
 intro pins s σ H Q I h
 refine thn (hi pins s σ H _ I h) fun iv s1 ⟨y,H1,I1,ry,q1⟩=>thn (ho pins s1 σ H1 _ I1 q1) fun u s2 ⟨x,H2,I2,rx,a,ov,ex,g,q2⟩=>?_
 subst ex
 obtain rfl:u=Value.ref a:=rx
 exact d3v hu I2 g ry fun s3 I3=>⟨.bl ov.isSome,H2,I3,rfl,q2⟩
theorem c1y(hu:X.A.units+1<cLine)(hi:PE X i ty)(ho:PE X o td):PC X .NotIn i o (a3J ty td):=by
 intro pins s σ H Q I h
 refine thn (hi pins s σ H _ I h) fun iv s1 ⟨y,H1,I1,ry,q1⟩=>thn (ho pins s1 σ H1 _ I1 q1) fun u s2 ⟨x,H2,I2,rx,a,ov,ex,g,q2⟩=>?_
 subst ex
 obtain rfl:u=Value.ref a:=rx
 exact c7T hu I2 g ry fun s3 I3=>⟨.bl (!ov.isSome),H2,I3,rfl,q2⟩
theorem c6L(hu:X.A.units+1<cLine)(ho:PE X o td)(hi:PE X i ty)(hv:PE X value tv)(hs:a1O value (some (.Subscript o i pos')) pos.line X.env=pure false) :
  PS X (.Assign [.Subscript o i pos'] value pos) (a8j td ty tv):=by
 intro pins s σ H D I h
 refine wpAny_Assign_Subscript (thn (hv pins s σ H _ I h) fun r s1 ⟨v,H1,I1,rv,q1⟩=>thn (ho pins s1 σ H1 _ I1 q1) fun u s2 ⟨x,H2,I2,rx,q2⟩=>thn (hi pins s2 σ H2 _ I2 q2) fun iv s3 ⟨y,H3,I3,ry,a,H4,ex,g,q3⟩=>?_) hs
 subst ex
 obtain rfl:u=Value.ref a:=rx
 exact c2c hu I3 g ry rv fun s4 I4=>⟨σ,H4,I4,q3⟩
end
theorem b6L{P:v8}(h:Heap)(hb:a3S<h.objs.size):U6 P w H (h.push { cls:=.type "dict",data:=.dict #[] }) h.objs.size (.dK []):=
 ⟨K6 _,beq_eq_false_iff_ne.mpr (Ne.symm (z5 hb)),[],.nil,Heap.DictOf.new h⟩
def a8S:TE:=fun _ H Q=>∀p,H p=none->Q (.ref p) (upd H p (.dK []))
section
theorem c4m:PE X (.Dict [] [] pos) a8S:=fun pins s σ H Q I h=>
 wpAny_Dict_empty ⟨.ref s.heap.objs.size,_,I.laid (a:=s.heap.objs.size) (o:=.dK []) (t':=s.toks) (fun _ _ q=>d7 _ q) (d9 _) (b6L s.heap I.big),rfl,h _ (I.hok.fresh (d9 _))⟩
end
def b7C:List (TE×TE)->St->Hp->(List (V×V)->Hp->Prop)->Prop
 | [],_,H,Q=>Q [] H
 | (tk,tv)::r,σ,H,Q=>tk σ H fun x H1=>tv σ H1 fun y H2=>b7C r σ H2 fun ps H3=>Q ((x,y)::ps) H3
abbrev VV:List (V×V)->List (Value×Value)->Prop:=Paired fun p q=>F1 p.1 q.1/\F1 p.2 q.2
def PPs(X:Cx)(pos:Pos)(keys:List (Option Expr))(values:List Expr)(trs:List (TE×TE)):Prop:=
 ∀(pins:List (Addr×Obj)) (s:d4) (σ:St) (H:Hp) (Q:List (V×V)->Hp->Prop),Inv X pins σ H s->b7C trs σ H Q ->
  wpAny (model X.prog X.w) X.A (evalPairs (pairTrees keys values X.env pos)) (fun vs s'=>∃ps H',Inv X pins σ H' s'/\VV ps vs/\Q ps H') X.xe s
theorem c6N:PPs X pos [] [] []:=fun pins s σ H Q I h=>pairTrees_nil_walk ⟨[],H,I,.nil,h⟩
theorem c4f{k v:Expr}{ks:List (Option Expr)}{vs:List Expr}{tk tv:TE}{trs:List (TE×TE)}(hk:PE X k tk)(hv:PE X v tv)(hr:PPs X pos ks vs trs) :
  PPs X pos (some k::ks) (v::vs) ((tk,tv)::trs):=fun pins s σ H Q I h=>
 pairTrees_cons_walk (thn (hk pins s σ H _ I h) fun u s1 ⟨x,H1,I1,rx,q1⟩=>thn (hv pins s1 σ H1 _ I1 q1) fun w2 s2 ⟨y,H2,I2,ry,q2⟩=>
  thn (hr pins s2 σ H2 _ I2 q2) fun ws s3 ⟨ps,H3,I3,rel,q3⟩=>⟨(x,y)::ps,H3,I3,.cons ⟨rx,ry⟩ rel,q3⟩)
def a9t(kvs more:List (Key×V)):List (Key×V):=more.foldl (fun acc kv=>a5R acc kv.1 kv.2) kvs
theorem KV.merge:∀ {more:List (Key×V)} {rs:List (Key×Value)} {kvs:List (Key×V)} {vs:List (Key×Value)},KV more rs->KV kvs vs->KV (a9t kvs more) (merged vs rs):=by
 intro more rs kvs vs r
 unfold KV at r
 induction r generalizing kvs vs with
 | nil=>intro q;exact q
 | @cons p q ps qs h t ih=>
  intro r0
  have e:KV (a5R kvs p.1 p.2) (stored vs q.1 q.2):=by
   have:=r0.put p.1 h.2
   rw[<-h.1];exact this
  exact ih e
theorem a6X:∀(more kvs:List (Key×V)),(a9t kvs more).length<=kvs.length+more.length
 | [],kvs=>by show kvs.length<=kvs.length+0;omega
 | p::r,kvs=>by
  have h1:=a6X r (a5R kvs p.1 p.2)
  have h2:=a5V kvs p.1 p.2
  show(a9t (a5R kvs p.1 p.2) r).length<=_
  rw[j9];omega
theorem b2e{P:v8}{w:World}:∀ {kvs:List (Key×V)} {ws:List (Value×Value)},VV (kvs.map fun kv=>(kV kv.1,kv.2)) ws->∃rs,Carries (X7 P w) ws rs/\KV kvs rs
 | [],_,r=>by rw[a6C]at r;cases r;exact⟨[],True.intro,.nil⟩
 | p::kvs,_,r=>by
  rw[C6]at r
  cases r with
  | @cons a b as bs h t=>
   obtain⟨rs,c,q⟩:=b2e (P:=P) (w:=w) t
   obtain⟨b1,b2⟩:=b
   exact⟨(p.1,b2)::rs,⟨b6E h.1,rfl,c⟩,.cons ⟨rfl,h.2⟩ q⟩
def c3o(trs:List (TE×TE)):TE:=fun σ H Q=>∀p,H p=none->b7C trs σ (upd H p (.dK [])) fun ps H2=>H2 p=some (.dK [])/\∃kvs:List (Key×V),ps=kvs.map (fun kv=>(kV kv.1,kv.2))/\kvs.length<=15/\Q (.ref p) (upd H2 p (.dK (a9t [] kvs)))
theorem c6V{keys:List (Option Expr)}{values:List Expr}{trs:List (TE×TE)}(h:PPs X pos keys values trs)(hall:keys.all (·.isSome)=true)(hl:keys.length=values.length)(h0:keys≠[])
  (h15:keys.length<=15):PE X (.Dict keys values pos) (c3o trs):=by
 intro pins s σ H Q I q
 have hn:=I.hok.fresh (d9 s.heap.objs.size)
 have I1:=I.laid (a:=s.heap.objs.size) (o:=.dK []) (h':=s.heap.push { cls:=.type "dict",data:=.dict #[] }) (t':=s.toks) (fun _ _ q=>d7 _ q) (d9 _) (b6L s.heap I.big)
 refine wpAny_Dict_walk (knd:=X7 X.prog X.w) hall hl h0 h15 (thn (h pins _ σ _ _ I1 (q _ hn)) fun ws s2 ⟨ps,H2,I2,rel,e,kvs,ep,lk,q2⟩=>?_)
 subst ep
 obtain⟨rs,c,rk⟩:=b2e (P:=X.prog) (w:=X.w) rel
 obtain⟨z,hd,vs0,r0,dd⟩:=c0j I2.hok e
 cases r0
 refine⟨rs,c,dd,fun h' dd' hs=>⟨.ref s.heap.objs.size,_,?_,rfl,q2⟩⟩
 have hz:(a9t [] kvs).length<=j7:=by
  have h1:=a6X kvs []
  rw[a0B]at h1
  rw[sizeLine_eq];omega
 have he:∃q,h'.get? s.heap.objs.size=some q:=let⟨q,_,_,hq,_⟩:=dd'; ⟨q,hq⟩
 exact b4D I2 (by rw[e];exact True.intro) hs he (c5g hz hd (rk.merge .nil) dd')
structure M1(X:Cx)(o:Expr)(m:Str)(apos:Pos)(e:Expr)(cpos:Pos):Prop where
 base:a0Z o m X.env (eval o X.env)=eval o X.env
 few:((X5 cpos (g6 [e] X.env)).all (fun x => !x.1)&&(b5f cpos (a5B [] X.env)).all (fun x=>x.1.isSome)
  && decide (([e]:List Expr).length+([]:List b3D).length+(if([]:List b3D).isEmpty then 0 else 1)<30))=true
 line:(apos.endLine == cpos.line)=true
 trees:X5 cpos (g6 [e] X.env)=[(false,eval e X.env)]
structure M2(X:Cx)(o:Expr)(m:Str)(apos:Pos)(e f:Expr)(cpos:Pos):Prop where
 base:a0Z o m X.env (eval o X.env)=eval o X.env
 few:((X5 cpos (g6 [e,f] X.env)).all (fun x => !x.1)&&(b5f cpos (a5B [] X.env)).all (fun x=>x.1.isSome)
  && decide (([e,f]:List Expr).length+([]:List b3D).length+(if([]:List b3D).isEmpty then 0 else 1)<30))=true
 line:(apos.endLine == cpos.line)=true
 trees:X5 cpos (g6 [e,f] X.env)=[(false,eval e X.env),(false,eval f X.env)]
section
variable {d:V}{r:Value}{o:Option V}{A:F3}{E:Value->d4->Prop}
end
section
variable {o f:Expr}{apos cpos:Pos}{td ty tx:TE}
end
section
variable {A:F3}{E:Value->d4->Prop}
end
section
variable {A:F3}{E:Value->d4->Prop}
end
end L2
namespace HT
open PySem PyProof.Rows
section
open PySem.SeqAt
open PySem.AutoSeq1 (wpAny_loadPart')
open PySem.MeetsSeq PySem.MeetsSeq2 PySem.MeetsSeq3
end
section
variable {prog:v8}{w:World}{A:F3}{E:Value->d4->Prop}{s:d4}
def sIx(n d:Nat):Option Int->Nat
 | none=>d
 | some v=>if v<0 then (v+(n:Int)).toNat else min v.toNat n
theorem a8i(n d:Nat):sIx n d none=d:=rfl
theorem a4R(n d k:Nat):sIx n d (some (k:Int))=min k n:=by
 show(if(k:Int)<0 then ((k:Int)+(n:Int)).toNat else min (k:Int).toNat n)=min k n
 rw[if_neg (by omega),E7]
theorem c9q(n d:Nat)(hd:d<=n)(o:Option Int):sIx n d o<=n:=by
 cases o with
 | none=>exact hd
 | some v=>
  show(if v<0 then (v+(n:Int)).toNat else min v.toNat n)<=n
  by_cases hv:v<0
  ·rw[if_pos hv];omega
  ·rw[if_neg hv];exact Nat.min_le_right _ _
theorem c0p(v:Int)(n d:Nat):(if v<0 then max (v+(n:Int)) 0 else min v (n:Int))=((sIx n d (some v):Nat):Int):=by
 show(if v<0 then max (v+(n:Int)) 0 else min v (n:Int))=(((if v<0 then (v+(n:Int)).toNat else min v.toNat n):Nat):Int)
 by_cases hv:v<0
 ·simp only[if_pos hv];omega
 ·simp only[if_neg hv];omega
theorem b9e(lo hi:Option Int)(n:Nat):Builtin.Slice.sliceAdjust lo hi 1 (n:Int)=(((sIx n 0 lo:Nat):Int),((sIx n n hi:Nat):Int)):=by
 have h1:¬((1:Int)<0):=by omega
 unfold Builtin.Slice.sliceAdjust
 simp only[h1,if_false]
 refine Prod.ext ?_ ?_
 ·cases lo with
  | none=>rfl
  | some v=>exact c0p v n 0
 ·cases hi with
  | none=>rfl
  | some v=>exact c0p v n n
theorem b8i(i j:Nat):Builtin.Slice.slicePlaces (i:Int) (j:Int) 1=j - i:=by
 unfold Builtin.Slice.slicePlaces
 have h1:(1:Int) > 0:=by omega
 simp only[h1,if_true,Int.ediv_one]
 split <;> omega
theorem b1c{v:Value}{o:Option Int}{Q:Option Int->d4->Prop}(p:c2O v o)(h:Q o s):wpAny (model prog w) A (Builtin.Slice.slicePartIndex v) Q E s:=by
 cases p with
 | none=>exact slicePart_none h
 | int i t=>exact slicePart_int h
theorem a8T{sl:Addr}{vl vu:Value}{lo hi:Option Int}{n:Nat}{Q:Int×Int×Nat->d4->Prop}(hs:s.heap.IsSliceOf sl vl vu .none)(pl:c2O vl lo)(pu:c2O vu hi)
  (h:Q (((sIx n 0 lo:Nat):Int),1,sIx n n hi - sIx n 0 lo) s):wpAny (model prog w) A (Builtin.Slice.sliceApplied (.ref sl) (pure (n:Int))) Q E s:=by
 obtain⟨os,hos,hcs,hds⟩:=id hs
 unfold Builtin.Slice.sliceApplied Builtin.Slice.sliceFields
 refine d8 (d8 (a8L hos hds (x:=vl) rfl (d8 (a8L hos hds (x:=vu) rfl (d8 (a8L hos hds (x:=.none) rfl (A0 ?_)))))))
 refine d8 (slicePart_none ?_)
 show wpAny _ _ (if((1:Int) == 0)=true then _ else _) _ _ s
 rw[if_neg (by decide)]
 refine d8 (b1c pl (d8 (b1c pu (d8 (A0 ?_)))))
 show wpAny _ _ (match Builtin.Slice.sliceAdjust lo hi 1 (n:Int)with | (lo,hi)=>pure (lo,(1:Int),Builtin.Slice.slicePlaces lo hi 1)) _ _ s
 rw[b9e lo hi n]
 show wpAny _ _ (pure (((sIx n 0 lo:Nat):Int),(1:Int),Builtin.Slice.slicePlaces ((sIx n 0 lo:Nat):Int) ((sIx n n hi:Nat):Int) 1)) _ _ s
 rw[b8i]
 exact A0 h
theorem c4h(xs:Array Value)(i k:Nat):((l6 k).filterMap fun(m:Nat)=>xs[((i:Int)+(m:Int) * 1).toNat]?).toArray=((xs.toList.drop i).take k).toArray:=by
 have e:(fun(m:Nat)=>xs[((i:Int)+(m:Int) * 1).toNat]?)=fun m=>xs[i+m]?:=by
  funext m
  have:((i:Int)+(m:Int) * 1).toNat=i+m:=by omega
  rw[this]
 rw[e]
 have:=pick_run xs i k
 rw[List.filterMap_map]at this
 have e2:((fun x=>xs[x]?) ∘ fun x=>i+x)=fun m=>xs[i+m]?:=rfl
 rw[e2]at this
 rw[this]
theorem a8v{t sl:Addr}{items:Array Value}{vl vu:Value}{lo hi:Option Int}{Q:Value->d4->Prop}(ht:IsTup s.heap t items)(hs:s.heap.IsSliceOf sl vl vu .none)(pl:c2O vl lo)(pu:c2O vu hi)
  (hw:¬(sIx items.size 0 lo=0/\sIx items.size items.size hi=items.size))
  (h:Q (.ref s.heap.objs.size) { s with heap:=s.heap.push { cls:=.type "tuple",data:=.seq ((items.toList.drop (sIx items.size 0 lo)).take (sIx items.size items.size hi - sIx items.size 0 lo)).toArray } })
  (hsz:items.size<=j7):wpAny (model prog w) A (c8V (.ref t) (.ref sl)) Q E s:=by
 have htake:sizeOk (.seq ((items.toList.drop (sIx items.size 0 lo)).take (sIx items.size items.size hi - sIx items.size 0 lo)).toArray):=by
  show((items.toList.drop (sIx items.size 0 lo)).take (sIx items.size items.size hi - sIx items.size 0 lo)).toArray.size<=j7
  rw[j6,E1,X3,z9]
  omega
 have hj:sIx items.size items.size hi<=items.size:=c9q _ _ (d9 _) hi
 obtain⟨os,hos,hcs,hds⟩:=id hs
 have hTs:s.TypeIs (.ref sl) "slice" := ⟨os,hos,hcs⟩
 unfold c8V
 try with_reducible refine a0Y ?_
 first | refine d8 (A0 ?_) | skip
 refine d8 (wpAny_sequenceKey ht.typeIs (by decide) ?_)
 refine d8 (wpAny_callSpecial?_slot (name:=Str.ofString "__getitem__") ht.typeIs a1M
  (wpAny_call_entry a1M ht.typeIs entry_tuple_getitem ?_ (args_tuple_getitem _ _)))
 show wpAny _ _ (Builtin.Tuple.tupleItemsOf (.ref t) >>= _) _ _ s
 refine d8 (tupleItemsOf_ ht ?_)
 refine d8 (wpAny_typeOf hTs ?_)
 rw[if_pos (by decide)]
 refine d8 (a8T hs pl pu ?_)
 have hno:¬((((sIx items.size 0 lo:Nat):Int) == 0&&(1:Int) == 1&&(sIx items.size items.size hi - sIx items.size 0 lo) == items.size)=true):=by
  intro q
  rw[l9,l9]at q
  have q1:((sIx items.size 0 lo:Nat):Int)=0:=eq_of_beq q.1.1
  have q2:sIx items.size items.size hi - sIx items.size 0 lo=items.size:=eq_of_beq q.2
  exact hw ⟨by omega,by omega⟩
 show wpAny _ _ (if(((sIx items.size 0 lo:Nat):Int) == 0&&(1:Int) == 1&&(sIx items.size items.size hi - sIx items.size 0 lo) == items.size)=true then _ else _) _ _ s
 rw[if_neg hno,c4h]
 first
  | exact d8 (m:=Builtin.Tuple.tupleExact _) (a0C (A0 ⟨_,rfl,A0 h⟩) htake)
  | exact d8 (m:=Builtin.Tuple.tupleExact _) (a0C (d8 (A0 (A0 ⟨_,rfl,A0 h⟩))) htake)
  | exact d8 (d8 (m:=Builtin.Tuple.tupleExact _) (a0C (A0 (A0 ⟨_,rfl,A0 h⟩)) htake))
  | exact d8 (d8 (m:=Builtin.Tuple.tupleExact _) (a0C (A0 ⟨_,rfl,A0 h⟩) htake))
end
end HT
namespace L2
open PySem PySem.Spec PyProof.Rows
variable{X:Cx}{n:Nat}{pins:List (Addr×Obj)}{σ:St}{H:Hp}{s:d4}{xs:List V}{us:List Value}
abbrev TO:=St->Hp->(Option Int->Hp->Prop)->Prop
def PO(X:Cx)(e:Option Expr)(t:TO):Prop:=
 ∀(pins:List (Addr×Obj)) (s:d4) (σ:St) (H:Hp) (Q:Option Int->Hp->Prop),Inv X pins σ H s->t σ H Q ->
  wpAny (model X.prog X.w) X.A (evalPart e X.env) (fun u s'=>∃o H',Inv X pins σ H' s'/\c2O u o/\Q o H') X.xe s
def R6:TO:=fun _ H Q=>Q none H
def a1f(t:TE):TO:=fun σ H Q=>t σ H fun x H1=>∃i,x=.int i/\Q (some i) H1
section
variable {e:Expr}{te:TE}{lo hi:Option Expr}{tl th:TO}{pos p2:Pos}
theorem c6P:PO X none R6:=by
 intro pins s σ H Q I h
 rw[evalPart_none]
 exact A0 ⟨none,H,I,.none,h⟩
theorem c6O(h:PE X e te):PO X (some e) (a1f te):=by
 intro pins s σ H Q I hw
 rw[evalPart_some]
 refine thn (h pins s σ H _ I hw) fun u s1 ⟨x,H1,I1,r1,q1⟩=>?_
 obtain⟨i,rfl,q⟩:=q1
 obtain⟨t,rfl⟩:=r1
 exact⟨some i,H1,I1,.int i t,q⟩
def SlR(X:Cx)(r:V->Option Int->Option Int->Hp->VK->Prop):Prop:=
 ∀(pins:List (Addr×Obj)) (s:d4) (σ:St) (H:Hp) (x:V) (v vl vu:Value) (lo hi:Option Int) (sl:Addr) (Q:VK),Inv X pins σ H s->F1 x v->s.heap.IsSliceOf sl vl vu .none->c2O vl lo->c2O vu hi->r x lo hi H Q ->
  ∃T id,typeLookup (.type T) "__getitem__" = pure (some (.builtin id))/\s.TypeIs v T/\wpAny (model X.prog X.w) X.A (c8V v (.ref sl)) (EP X pins σ Q) X.xe s
theorem SlR.or{r r':V->Option Int->Option Int->Hp->VK->Prop}(h:SlR X r)(h':SlR X r'):SlR X (fun x lo hi H Q=>r x lo hi H Q\/r' x lo hi H Q):=by
 intro pins s σ H x v vl vu lo hi sl Q I rx hs pl pu q
 rcases q with q | q
 ·exact h pins s σ H x v vl vu lo hi sl Q I rx hs pl pu q
 ·exact h' pins s σ H x v vl vu lo hi sl Q I rx hs pl pu q
def tSl(r:V->Option Int->Option Int->Hp->VK->Prop)(te:TE)(tl th:TO):TE:=fun σ H Q=>te σ H fun x H1=>tl σ H1 fun l H2=>th σ H2 fun u H3=>r x l u H3 Q
theorem c4j{r:V->Option Int->Option Int->Hp->VK->Prop}(hr:SlR X r)(he:PE X e te)(hl:PO X lo tl)(hu:PO X hi th):PE X (.Subscript e (.Slice lo hi none p2) pos) (tSl r te tl th):=by
 intro pins s σ H Q I h
 refine Subscript_ (thn (he pins s σ H _ I h) fun v s1 ⟨x,H1,I1,r1,q1⟩=>?_)
 refine wpAny_Slice (thn (hl pins s1 σ H1 _ I1 q1) fun vl s2 ⟨l,H2,I2,pl,q2⟩=>thn (hu pins s2 σ H2 _ I2 q2) fun vu s3 ⟨u,H3,I3,pu,q3⟩=>?_)
 rw[evalPart_none]
 refine A0 ?_
 have I4:Inv X pins σ H3 { s3 with heap:=s3.heap.push { cls:=.type "slice",data:=.fields #[vl,vu,.none] } }:=I3.kept (t':=s3.toks) fun b ob q=>d7 _ q
 obtain⟨T,id,hT,ht,hg⟩:=hr pins { s3 with heap:=s3.heap.push { cls:=.type "slice",data:=.fields #[vl,vu,.none] } } σ H3 x v vl vu l u s3.heap.objs.size Q I4 r1 (Heap.IsSliceOf.new ..) pl pu q3
 show wpAny (model X.prog X.w) X.A (subscriptTail e (.Slice lo hi none p2) v (.ref s3.heap.objs.size)) (EP X pins σ Q) X.xe { s3 with heap:=s3.heap.push { cls:=.type "slice",data:=.fields #[vl,vu,.none] } }
 exact tail_any (ops:=[.ref s3.heap.objs.size,v]) ht hT hg (by with_unfolding_all rfl)
def a1J(xs:List V)(lo hi:Option Int):List V:=(xs.drop (HT.sIx xs.length 0 lo)).take (HT.sIx xs.length xs.length hi - HT.sIx xs.length 0 lo)
theorem a9V(xs:List V)(lo hi:Option Int):(a1J xs lo hi).length<=xs.length:=by
 unfold a1J
 rw[E1,X3]
 omega
def d3k(K:Fg):V->Option Int->Option Int->Hp->VK->Prop:=fun x lo hi H Q=>∃a xs,x=.ref a/\SqT K H a xs /\
 ¬(HT.sIx xs.length 0 lo=0/\HT.sIx xs.length xs.length hi=xs.length)/\∀p,H p=none->Q (.ref p) (upd H p (.tup (a1J xs lo hi)))
theorem c8Z:SlR X (d3k X.K):=by
 intro pins s σ H x v vl vu lo hi sl Q I rx hs pl pu h
 obtain⟨a,xs,rfl,hx,hw,q⟩:=h
 cases rx
 obtain⟨its,r,ht,hz⟩:=I.tuple hx
 have hlen:its.toArray.size=xs.length:=by rw[j6];exact r.length.symm
 refine⟨"tuple",_,a1M.lookup,ht.typeIs,?_⟩
 refine HT.a8v ht hs pl pu (by rw[hlen];exact hw) ?_ (by rw[hlen];exact hz)
 rw[hlen]
 refine⟨.ref s.heap.objs.size,_,I.laid (t':=s.toks) (o:=.tup (a1J xs lo hi)) (fun b ob q=>d7 _ q) (d9 _) ?_,rfl,q _ (I.hok.fresh (d9 _))⟩
 exact⟨t5 (a9V xs lo hi) hz,_,(r.drop (HT.sIx xs.length 0 lo)).take (HT.sIx xs.length xs.length hi - HT.sIx xs.length 0 lo),IsTup.new _ _⟩
end
def ixN(n:Nat)(i:Int):Option Nat:=if 0<=i then (if i<n then some i.toNat else none)else if -(n:Int)<=i then some (i+n).toNat else none
def atI{α:Type}(xs:List α)(i:Int):Option α:=(ixN xs.length i).bind fun j=>xs[j]?
theorem c0a{i:Int}{j:Nat}(h:ixN n i=some j):seqIndex? i n=some j/\j<n /\ -(n:Int)<=i/\i<n:=by
 unfold ixN at h
 by_cases h0:0<=i
 ·rw[if_pos h0]at h
  by_cases h1:i<n
  ·rw[if_pos h1]at h
   have e:i.toNat=j:=Option.some.inj h
   exact⟨by rw[d3c h0 h1,e],by omega,by omega,h1⟩
  ·rw[if_neg h1]at h;cases h
 ·rw[if_neg h0]at h
  by_cases h1 : -(n:Int)<=i
  ·rw[if_pos h1]at h
   have e:(i+n).toNat=j:=Option.some.inj h
   exact⟨by rw[d1D (by omega) h1,e],by omega,h1,by omega⟩
  ·rw[if_neg h1]at h;cases h
theorem b4R{α:Type}{xs:List α}{i:Int}{v:α}(h:atI xs i=some v):∃j,seqIndex? i xs.length=some j/\xs[j]? = some v/\j<xs.length /\ -(xs.length:Int)<=i/\i<xs.length:=by
 unfold atI at h
 cases e:ixN xs.length i with
 | none=>rw[e]at h;cases h
 | some j=>
  rw[e]at h
  obtain⟨h1,h2,h3,h4⟩:=c0a e
  exact⟨j,h1,h,h2,h3,h4⟩
theorem a2z{α:Type}{xs:List α}{j:Nat}{v:α}(h:xs[j]? = some v):atI xs (j:Int)=some v:=by
 have hj:j<xs.length:=(o7.mp h).1
 have e:ixN xs.length (j:Int)=some j:=by
  unfold ixN
  rw[if_pos (by omega),if_pos (by omega)];simp
 unfold atI;rw[e];exact h
def b4Y(b:Expr):Prop:=∀o i,subscripted b false o i=operate [o,i] (c8V o i)
def IxR(X:Cx)(r:R2):Prop:=
 ∀(value slice:Expr) (pins:List (Addr×Obj)) (s:d4) (σ:St) (H:Hp) (x y:V) (v u:Value) (Q:VK),Inv X pins σ H s->F1 x v->F1 y u->r x y H Q ->
  subscripted slice false v u=operate [v,u] (c8V v u)->wpAny (model X.prog X.w) X.A (subscriptTail value slice v u) (EP X pins σ Q) X.xe s
def MtR(X:Cx)(id:String)(r:V->List V->Hp->VK->Prop):Prop:=
 ∀(pins:List (Addr×Obj)) (s:d4) (σ:St) (H:Hp) (x:V) (xs:List V) (v:Value) (us:List Value) (Q:VK),Inv X pins σ H s->F1 x v->J0 xs us->r x xs H Q ->
  wpAny (model X.prog X.w) X.A (call (.builtin id) (v::us)) (EP X pins σ Q) X.xe s
section
variable {a b:Expr}{ta tb:TE}{pos:Pos}
theorem IxR.or{r r':R2}(h:IxR X r)(h':IxR X r'):IxR X (fun x y H Q=>r x y H Q\/r' x y H Q):=by
 intro value slice pins s σ H x y v u Q I rx ry q hs
 rcases q with q | q
 ·exact h value slice pins s σ H x y v u Q I rx ry q hs
 ·exact h' value slice pins s σ H x y v u Q I rx ry q hs
theorem d2l{r:R2}(hr:IxR X r)(ha:PE X a ta)(hb:PE X b tb)(hs:b4Y b):PE X (.Subscript a b pos) (tOp r ta tb):=by
 intro pins s σ H Q I h
 exact Subscript_ (d1c ha hb I h fun v u s2 x y H2 I2 rx ry q=>hr a b pins s2 σ H2 x y v u Q I2 rx ry q (hs _ _))
def d1Y(K:Fg):R2:=fun x y H Q=>∃p xs i v,x=.ref p/\y=.int i/\SqL K H p xs/\atI xs i=some v/\Q v H
def d1W(K:Fg):R2:=fun x y H Q=>∃p xs i v,x=.ref p/\y=.int i/\SqT K H p xs/\atI xs i=some v/\Q v H
def d1X:R2:=fun x y H Q=>∃z i c,x=.str z/\y=.int i/\z.length<=j7/\atI z.cps.toList i=some c/\Q (.str ⟨#[c]⟩) H
theorem c7J:IxR X (d1Y X.K):=by
 intro value slice pins s σ H x y v u Q I rx ry h hs
 obtain⟨p,xs,i,z,rfl,rfl,hq,he,q⟩:=h
 cases rx
 obtain⟨t,rfl⟩:=ry
 obtain⟨its,r,pl,hz⟩:=I.list hq
 obtain⟨j,h1,h2,h3,h4,h5⟩:=b4R he
 obtain⟨w,ew,rw'⟩:=r.get h2
 have hl:=r.length
 have hn:=a7C
 have fin:EP X pins σ Q w s:=⟨z,H,I,rw',q⟩
 by_cases h0:0<=i
 ·have hj:i.toNat=j:=by
   rw[d3c h0 h5]at h1
   exact Option.some.inj h1
  exact item_listR pl.isList h0 (by omega) (by rw[hj];simpa using ew) fin hs
 ·have hj:(i+(its.toArray.size:Int)).toNat=j:=by
   rw[d1D (by omega) h4]at h1
   rw[j6,<-hl]
   exact Option.some.inj h1
  exact d1r (x:=w) pl.isList.typeIs slot_list_getitem.lookup
   (wpAny_getItem_list_neg (Q:=fun r s'=>r=w/\EP X pins σ Q r s') pl.isList (by omega) (by rw[j6] <;> omega) (by omega) (by rw[hj];simpa using ew) ⟨rfl,fin⟩) hs
theorem d0O:IxR X (d1W X.K):=by
 intro value slice pins s σ H x y v u Q I rx ry h hs
 obtain⟨p,xs,i,z,rfl,rfl,hq,he,q⟩:=h
 cases rx
 obtain⟨t,rfl⟩:=ry
 obtain⟨its,r,pl,hz⟩:=I.tuple hq
 obtain⟨j,h1,h2,h3,h4,h5⟩:=b4R he
 obtain⟨w,ew,rw'⟩:=r.get h2
 have hl:=r.length
 have hn:=a7C
 have fin:EP X pins σ Q w s:=⟨z,H,I,rw',q⟩
 exact d1r (x:=w) pl.typeIs slot_tuple_getitem.lookup
  (getItem_tuple (j:=j) (Q:=fun r s'=>r=w/\EP X pins σ Q r s') pl (by omega) (by omega) (by rw[j6,<-hl];exact h1) (by simpa using ew) ⟨rfl,fin⟩) hs
theorem d0P:IxR X d1X:=by
 intro value slice pins s σ H x y v u Q I rx ry h hs
 obtain⟨z,i,c,rfl,rfl,hz,he,q⟩:=h
 obtain⟨t,rfl⟩:=rx
 obtain⟨t',rfl⟩:=ry
 obtain⟨j,h1,h2,h3,h4,h5⟩:=b4R he
 have hl:z.cps.toList.length=z.length:=by simp[Str.length]
 rw[hl]at h1 h4 h5
 have hn:=a7C
 exact tail_any (typeIs_str s z t) slot_str_getitem.lookup (getItem_str (c:=c) (by
  have e1:decide (i < -(2 ^ 63:Int))=false:=d4L (by omega)
  have e2:decide (i ≥ 2 ^ 63)=false:=d4L (by omega)
  rw[e1,e2,a5r]) (by rw[h1];simpa using h2) ⟨.str ⟨#[c]⟩,H,I.tok _,⟨_,rfl⟩,q⟩) hs
def rIx(K:Fg):R2:=fun x y H Q=>d1Y K x y H Q\/d1W K x y H Q\/d1X x y H Q
theorem d0Q:IxR X (rIx X.K):=c7J.or (d0O.or d0P)
theorem b8A(its:List Value)(n j:Nat)(u:Value):Obj.mapSeq (·.setIfInBounds j u) { cls:=.type "list",data:=.seq its.toArray n }={ cls:=.type "list",data:=.seq (its.set j u).toArray n }:=by
 simp[Obj.mapSeq]
theorem Inv.lst{pins:List (Addr×Obj)}{σ:St}{H:Hp}{s:d4}{p:Addr}{xs:List V}(I:Inv X pins σ H s)(h:H p=some (.lst xs)) :
  ∃(its:List Value) (n:Nat),J0 xs its/\s.heap.get? p=some { cls:=.type "list",data:=.seq its.toArray n }/\xs.length<=j7:=by
 obtain⟨z,its,n,r,e⟩:=I.hok p _ h
 exact⟨its,n,r,e,z⟩
theorem Inv.lstUpd{p:Addr}{ys:List V}{its its':List Value}{n':Nat}{f:Obj->Obj}(I:Inv X pins σ H s)(h:H p=some (.lst xs))
  (ho:s.heap.get? p=some { cls:=.type "list",data:=.seq its.toArray n }) (hf:f { cls:=.type "list",data:=.seq its.toArray n }={ cls:=.type "list",data:=.seq its'.toArray n' }) (r:J0 ys its') (hz:ys.length<=j7) (t:Nat) :
  Inv X pins σ (upd H p (.lst ys)) { s with heap:=s.heap.update p f,toks:=t }:=by
 have e:(s.heap.update p f).get? p=some { cls:=.type "list",data:=.seq its'.toArray n' }:=by
  rw[Y0 f ho (by rw[hf] <;> rfl),hf]
 refine I.write (x:=p) (e:=p) (by rw[h];trivial) (.inl rfl) (fun b u hb q=>(Q6 _ _ (Ne.symm hb)).trans q) ⟨_,e⟩ ?_
 exact⟨hz,its',n',r,e⟩
def d1V:V->V->V->Hp->(Hp->Prop)->Prop:=fun o i v H Q=>∃p xs k j,o=.ref p/\i=.int k/\H p=some (.lst xs)/\ixN xs.length k=some j/\Q (upd H p (.lst (xs.set j v)))
theorem c3y:c5B X d1V:=by
 intro pins s σ H o i v ov iv u Q I ro ri rv h
 obtain⟨p,xs,k,j,rfl,rfl,hp,hj,q⟩:=h
 cases ro
 obtain⟨t,rfl⟩:=ri
 obtain⟨its,n,r,ho,hz⟩:=I.lst hp
 obtain⟨h1,h2,h3,h4⟩:=c0a hj
 have hl:=r.length
 have hn:=a7C
 have I':Inv X pins σ (upd H p (.lst (xs.set j v))) { s with heap:=s.heap.update p (Obj.mapSeq (·.setIfInBounds j u)) }:=
  I.lstUpd hp ho (b8A its n j u) (r.set rv j) (by rw[V5];exact hz) s.toks
 by_cases h0:0<=k
 ·have hk:k.toNat=j:=by
   rw[d3c h0 h4]at h1
   exact Option.some.inj h1
  exact PySem.W.ki_setAt ho h0 (by omega) (by rw[j6,<-hl];exact h4) (by rw[hk];exact⟨_,I',q⟩)
 ·have hk:(k+(its.toArray.size:Int)).toNat=j:=by
   rw[d1D (by omega) h3]at h1
   rw[j6,<-hl]
   exact Option.some.inj h1
  exact PySem.W.ki_setBack ho (by omega) (by rw[j6,<-hl];exact h3) (by omega) (by rw[hk];exact⟨_,I',q⟩)
theorem b3O(lo hi:Option Int)(n:Nat):(a5A lo hi none n).1=((HT.sIx n 0 lo:Nat):Int)/\(a5A lo hi none n).2.1=((HT.sIx n n hi:Nat):Int)/\(a5A lo hi none n).2.2=1:=by
 refine⟨?_,?_,rfl⟩
 ·cases lo with
  | none=>simp[a5A,HT.sIx]
  | some i=>
   simp only[a5A,HT.sIx,c5O,show(1:Int) > 0 by decide,if_true]
   by_cases h:i<0
   ·simp only[h,if_true] <;> omega
   ·simp only[h,if_false] <;> omega
 ·cases hi with
  | none=>simp[a5A,HT.sIx]
  | some i=>
   simp only[a5A,HT.sIx,c5O,show(1:Int) > 0 by decide,if_true]
   by_cases h:i<0
   ·simp only[h,if_true] <;> omega
   ·simp only[h,if_false] <;> omega
theorem b2u(its:List Value)(lo hi:Option Int):slicePick its.toArray lo hi none=((its.drop (HT.sIx its.length 0 lo)).take (HT.sIx its.length its.length hi - HT.sIx its.length 0 lo)).toArray:=by
 obtain⟨h1,h2,h3⟩:=b3O lo hi its.toArray.size
 unfold slicePick
 rw[h1,h2,h3]
 simp only[sliceRange_one,pick_run,j6] <;> rfl
def c9u(K:Fg):V->Option Int->Option Int->Hp->VK->Prop:=fun x lo hi H Q=>∃a xs,x=.ref a/\SqL K H a xs/\∀p,H p=none->Q (.ref p) (upd H p (.lst (a1J xs lo hi)))
theorem b9B:SlR X (c9u X.K):=by
 intro pins s σ H x v vl vu lo hi sl Q I rx hs pl pu h
 obtain⟨a,xs,rfl,hx,q⟩:=h
 cases rx
 obtain⟨its,r,ht,hz⟩:=I.list hx
 have hlen:=r.length
 refine⟨"list",_,slot_list_getitem.lookup,ht.isList.typeIs,?_⟩
 refine wpAny_getItem_list_slice ht.isList hs pl pu .none (by simp) ?_ (by rw[j6] <;> omega)
 rw[b2u,<-hlen]
 refine⟨.ref s.heap.objs.size,_,I.laid (t':=s.toks) (o:=.lst (a1J xs lo hi)) (fun b ob q=>d7 _ q) (d9 _) ?_,rfl,q _ (I.hok.fresh (d9 _))⟩
 exact⟨t5 (a9V xs lo hi) hz,_,0,(r.drop (HT.sIx xs.length 0 lo)).take (HT.sIx xs.length xs.length hi - HT.sIx xs.length 0 lo),C0 _ rfl⟩
def K8:V->Bool
 | .non=>true
 | .bl _=>true
 | .int _=>true
 | .str _=>true
 | _=>false
def eqV:V->V->Bool
 | .non,.non=>true
 | .bl a,.bl b=>a == b
 | .bl a,.int b=>(if a then 1 else 0) == b
 | .int a,.bl b=>a == (if b then 1 else 0)
 | .int a,.int b=>a == b
 | .str a,.str b=>a == b
 | _,_=>false
theorem b8W{A:F3}{y x:V}{u v:Value}(ry:F1 y u)(rx:F1 x v)(fy:K8 y=true)(fx:K8 x=true):SeqAt.EqAt A s u v (eqV y x):=by
 cases y with
 | non=>
  cases ry
  cases x with
  | non=>cases rx;exact SeqAt.EqAt.same _
  | bl b=>cases rx;exact SeqAt.EqAt.none_bool b
  | int b=>obtain⟨t,rfl⟩:=rx;exact SeqAt.EqAt.none_int b t
  | str b=>obtain⟨t,rfl⟩:=rx;exact SeqAt.EqAt.none_str b t
  | _=>exact absurd (show false=true from fx) u5
 | bl a=>
  cases ry
  cases x with
  | non=>cases rx;exact SeqAt.EqAt.bool_none a
  | bl b=>cases rx;exact SeqAt.EqAt.bool_bool a b
  | int b=>obtain⟨t,rfl⟩:=rx;exact SeqAt.EqAt.bool_int a b t
  | str b=>obtain⟨t,rfl⟩:=rx;exact SeqAt.EqAt.bool_str a b t
  | _=>exact absurd (show false=true from fx) u5
 | int a=>
  obtain⟨t',rfl⟩:=ry
  cases x with
  | non=>cases rx;exact SeqAt.EqAt.int_none a t'
  | bl b=>cases rx;exact SeqAt.EqAt.int_bool a t' b
  | int b=>obtain⟨t,rfl⟩:=rx;exact SeqAt.EqAt.int_int a t' b t
  | str b=>obtain⟨t,rfl⟩:=rx;exact SeqAt.EqAt.int_str a t' b t
  | _=>exact absurd (show false=true from fx) u5
 | str a=>
  obtain⟨t',rfl⟩:=ry
  cases x with
  | non=>cases rx;exact SeqAt.EqAt.str_none a t'
  | bl b=>cases rx;exact SeqAt.EqAt.str_bool a t' b
  | int b=>obtain⟨t,rfl⟩:=rx;exact SeqAt.EqAt.str_int a t' b t
  | str b=>obtain⟨t,rfl⟩:=rx;exact SeqAt.EqAt.str_str a t' b t
  | _=>exact absurd (show false=true from fx) u5
 | _=>exact absurd (show false=true from fy) u5
def eqU(x:V)(u:Value):Bool:=match u with
 | .none=>eqV .non x
 | .bool b=>eqV (.bl b) x
 | .int i _=>eqV (.int i) x
 | .str z _=>eqV (.str z) x
 | _=>false
theorem b8V{x y:V}{u:Value}(r:F1 y u)(f:K8 y=true):eqU x u=eqV y x:=by
 cases y with
 | non=>cases r;rfl
 | bl b=>cases r;rfl
 | int i=>obtain⟨t,rfl⟩:=r;rfl
 | str z=>obtain⟨t,rfl⟩:=r;rfl
 | _=>exact absurd (show false=true from f) u5
theorem a8C{x:V}:∀ {xs:List V} {us:List Value},J0 xs us->xs.all K8=true->us.any (eqU x)=xs.any fun y=>eqV y x
 | _,_,.nil,_=>rfl
 | y::xs,u::us,.cons r t,f=>by
  rw[a0L,l9]at f
  rw[O7,O7,b8V r f.1,a8C t f.2]
theorem a4v{A:F3}{x:V}{v:Value}(rx:F1 x v)(fx:K8 x=true):∀ {xs:List V} {us:List Value},J0 xs us->xs.all K8=true->∀u∈us,SeqAt.EqAt A s u v (eqU x u)
 | _,_,.nil,_=>fun u hu=>by cases hu
 | y::xs,u::us,.cons r t,f=>fun u' hu=>by
  rw[a0L,l9]at f
  rcases c5.mp hu with rfl | hu
  ·rw[b8V r f.1];exact b8W r rx f.1 fx
  ·exact a4v rx fx t f.2 u' hu
def inV(x:V)(xs:List V):Bool:=xs.any fun y=>eqV y x
def rIn(K:Fg)(neg:Bool):R2:=fun x y H Q=>∃p xs,y=.ref p/\(SqL K H p xs\/SqT K H p xs)/\K8 x=true/\xs.all K8=true/\Q (.bl (if neg then !inV x xs else inV x xs)) H
theorem b3f:OpR X (z8 .In) (rIn X.K false):=by
 intro pins s σ H x y v u Q I rx ry h
 obtain⟨p,xs,rfl,hq,fx,fs,q⟩:=h
 cases ry
 rcases hq with hq | hq
 ·obtain⟨its,r,pl,hz⟩:=I.list hq
  refine SeqAt.in_listAt (eqU x) pl.isList (fun w hw=>a4v rx fx r fs w (by simpa using hw)) ⟨.bl _,H,I,rfl,?_⟩
  rw[show its.toArray.any (eqU x)=its.any (eqU x) by simp,a8C r fs]
  exact q
 ·obtain⟨its,r,pl,hz⟩:=I.tuple hq
  refine SeqAt.in_tupleAt (eqU x) pl (fun w hw=>a4v rx fx r fs w (by simpa using hw)) ⟨.bl _,H,I,rfl,?_⟩
  rw[show its.toArray.any (eqU x)=its.any (eqU x) by simp,a8C r fs]
  exact q
theorem b4n:OpR X (z8 .NotIn) (rIn X.K true):=by
 intro pins s σ H x y v u Q I rx ry h
 obtain⟨p,xs,rfl,hq,fx,fs,q⟩:=h
 cases ry
 rcases hq with hq | hq
 ·obtain⟨its,r,pl,hz⟩:=I.list hq
  refine SeqAt.notIn_listAt (eqU x) pl.isList (fun w hw=>a4v rx fx r fs w (by simpa using hw)) ⟨.bl _,H,I,rfl,?_⟩
  rw[show its.toArray.any (eqU x)=its.any (eqU x) by simp,a8C r fs]
  exact q
 ·obtain⟨its,r,pl,hz⟩:=I.tuple hq
  refine SeqAt.notIn_tupleAt (eqU x) pl (fun w hw=>a4v rx fx r fs w (by simpa using hw)) ⟨.bl _,H,I,rfl,?_⟩
  rw[show its.toArray.any (eqU x)=its.any (eqU x) by simp,a8C r fs]
  exact q
theorem b4m:OpR X (z8 .NotIn) (fun x y H Q=>∃i j,x=.str i/\y=.str j/\Q (.bl (!(!(Builtin.Str.occurrences j i 0 j.length 1).isEmpty))) H):=by
 intro pins s σ H x y v u Q I rx ry h
 obtain⟨i,j,rfl,rfl,q⟩:=h
 obtain⟨t,rfl⟩:=rx
 obtain⟨t',rfl⟩:=ry
 exact notIn_str ⟨.bl _,H,I,rfl,q⟩
theorem b4N:W9 X (.builtin "len") (fun xs H Q=>∃p ys,xs=[.ref p]/\(SqL X.K H p ys\/SqT X.K H p ys)/\Q (.int ys.length) H):=by
 intro pins s σ H xs us Q I r h
 obtain⟨p,ys,rfl,hq,q⟩:=h
 obtain⟨u,rfl,rx⟩:=a4n r
 cases rx
 have hn:=a7C
 rcases hq with hq | hq
 ·obtain⟨its,r',pl,hz⟩:=I.list hq
  have hlen:=r'.length
  exact Calls.call_len_list pl.isList (by simp only[j6] <;> omega) ⟨.int ys.length,H,I.tok _,⟨s.toks+1,by rw[j6,hlen]⟩,q⟩
 ·obtain⟨its,r',pl,hz⟩:=I.tuple hq
  have hlen:=r'.length
  exact len_tuple pl (by simp only[j6] <;> omega) ⟨.int ys.length,H,I.tok _,⟨s.toks+1,by rw[j6,hlen]⟩,q⟩
theorem b4M:W9 X (.builtin "len") (fun xs H Q=>∃z,xs=[.str z]/\z.length<=j7/\Q (.int z.length) H):=by
 intro pins s σ H xs us Q I r h
 obtain⟨z,rfl,hz,q⟩:=h
 obtain⟨u,rfl,t,rfl⟩:=a4n r
 have hn:=a7C
 exact len_str (by omega) ⟨.int z.length,H,I.tok _,⟨_,rfl⟩,q⟩
theorem W9.or{f:Value}{r r':List V->Hp->VK->Prop}(h:W9 X f r)(h':W9 X f r'):W9 X f (fun xs H Q=>r xs H Q\/r' xs H Q):=by
 intro pins s σ H xs us Q I rs q
 rcases q with q | q
 ·exact h pins s σ H xs us Q I rs q
 ·exact h' pins s σ H xs us Q I rs q
theorem b4L:W9 X (.type "list") (fun xs H Q=>∃p ys,xs=[.ref p]/\(SqL X.K H p ys\/SqT X.K H p ys)/\∀l,H l=none->Q (.ref l) (upd H l (.lst ys))):=by
 intro pins s σ H xs us Q I r h
 obtain⟨p,ys,rfl,hq,q⟩:=h
 obtain⟨u,rfl,rx⟩:=a4n r
 cases rx
 have fin:∀(its:List Value),J0 ys its->ys.length<=j7->∀(h':Heap) (c':Nat),(∀b o',s.heap.get? b=some o'->h'.get? b=some o') ->
   h'.get? s.heap.objs.size=some { cls:=.type "list",dict:=none,data:=.seq its.toArray c',slots := #[] }->EP X pins σ Q (.ref s.heap.objs.size) { s with heap:=h' }:=fun its r' hz h' c' kp e=>
  ⟨.ref s.heap.objs.size,_,I.laid (t':=s.toks) kp (d9 _) (show U6 X.prog X.w _ h' _ (.lst ys)from⟨hz,its,c',r',e⟩),rfl,q _ (I.hok.fresh (d9 _))⟩
 rcases hq with hq | hq
 ·obtain⟨its,r',pl,hz⟩:=I.list hq
  have hlen:=r'.length
  obtain⟨o,ho,hc,n,hd⟩:=pl.isList
  exact call_list_seq p (.inl rfl) ho hc hd (fun h' c' kp e=>fin its r' hz h' c' kp e) (by simp only[j6] <;> omega)
 ·obtain⟨its,r',pl,hz⟩:=I.tuple hq
  have hlen:=r'.length
  obtain⟨o,ho,hc,n,hd⟩:=pl
  exact call_list_seq p (.inr rfl) ho hc hd (fun h' c' kp e=>fin its r' hz h' c' kp e) (by simp only[j6] <;> omega)
theorem b2E:W9 X (.type "tuple") (fun xs H Q=>∃p ys,xs=[.ref p]/\((SqL X.K H p ys/\∀l,H l=none->Q (.ref l) (upd H l (.tup ys)))\/(SqT X.K H p ys/\Q (.ref p) H))):=by
 intro pins s σ H xs us Q I r h
 obtain⟨p,ys,rfl,h⟩:=h
 obtain⟨u,rfl,rx⟩:=a4n r
 cases rx
 rcases h with ⟨hq,q⟩ | ⟨hq,q⟩
 ·obtain⟨its,r',pl,hz⟩:=I.list hq
  have hlen:=r'.length
  refine call_tuple_list pl.isList (fun h' kp=>?_) (by simp only[j6] <;> omega)
  have I1:Inv X pins σ H { s with heap:=h' }:=I.kept (t':=s.toks) kp
  have I2:Inv X pins σ (upd H h'.objs.size (.tup ys)) { s with heap:=h'.push { cls:=.type "tuple",data:=.seq its.toArray } }:=
   I1.laid (t':=s.toks) (fun b o e=>d7 _ e) (d9 _) (show U6 X.prog X.w _ _ _ (.tup ys)from⟨hz,its,r',IsTup.new _ _⟩)
  exact⟨.ref h'.objs.size,_,I2,rfl,q _ (I1.hok.fresh (d9 _))⟩
 ·obtain⟨its,r',pl,hz⟩:=I.tuple hq
  exact call_tuple_same pl ⟨.ref p,H,I,rfl,q⟩
def tyV(K:Fg)(T:String)(x:V)(H:Hp):Prop:=match x with
 | .str _=>T = "str"
 | .int _=>T = "int"
 | .ref p=>(T = "list" /\ ∃xs,SqL K H p xs)\/(T = "tuple" /\ ∃o,K.lookup p=some o/\o.cls=.type "tuple" /\ o.dict=none) \/
   (T = "dict" /\ ((∃kvs,H p=some (.dK kvs))\/∃kvs,H p=some (.dT kvs)))\/(T = "set" /\ ∃S n,H p=some (.set S n))
 | _=>False
theorem c3d{T:String}{x:V}{v:Value}(I:Inv X pins σ H s)(r:F1 x v)(ty:tyV X.K T x H) :
  s.TypeIs v T/\∀a,v=.ref a->∃ob,s.heap.get? a=some ob/\ob.dict=none:=by
 cases x with
 | str z=>
  obtain⟨t,rfl⟩:=r
  cases (show T = "str" from ty)
  exact⟨typeIs_str s z t,fun _ e=>nomatch e⟩
 | int i=>
  obtain⟨t,rfl⟩:=r
  cases (show T = "int" from ty)
  exact⟨typeIs_int s i t,fun _ e=>nomatch e⟩
 | ref p=>
  cases r
  rcases ty with ⟨rfl,xs,hq⟩ | ⟨rfl,o,hk,hc,hd⟩ | ⟨rfl,hk⟩ | ⟨rfl,S,n,hk⟩
  ·obtain⟨its,_,pl,_⟩:=I.list hq
   refine⟨pl.isList.typeIs,fun a e=>?_⟩
   cases e
   obtain⟨o,n,e,c,hd,_⟩:=pl
   exact⟨o,e,hd⟩
  ·refine⟨⟨o,I.kIn p o hk,hc⟩,fun a e=>?_⟩
   cases e
   exact⟨o,I.kIn _ o hk,hd⟩
  ·have z:∃o,s.heap.get? p=some o/\o.ExactDict:=by
    rcases hk with ⟨kvs,hk⟩ | ⟨kvs,hk⟩
    ·obtain⟨_,_,_,_,o,_,_,e,ex,_⟩:=I.hok p _ hk
     exact⟨o,e,ex⟩
    ·obtain⟨_,_,_,_,o,_,_,e,ex,_⟩:=I.hok p _ hk
     exact⟨o,e,ex⟩
   obtain⟨o,e,ex⟩:=z
   refine⟨⟨o,e,ex.1⟩,fun a e2=>?_⟩
   cases e2
   exact⟨o,e,ex.2.1⟩
  ·obtain⟨o,_,_,_,e,ex,_⟩:=I.hok p _ hk
   refine⟨⟨o,e,ex.1⟩,fun a e2=>?_⟩
   cases e2
   exact⟨o,e,ex.2.1⟩
 | _=>exact False.elim ty
def c6d(K:Fg)(T:String)(r:V->List V->Hp->VK->Prop)(to:TE):TE:=fun σ H Q=>to σ H fun x H1=>tyV K T x H1/\r x [] H1 Q
def tBM(K:Fg)(T:String)(r:V->List V->Hp->VK->Prop)(to:TE)(t:TA):TE:=fun σ H Q=>to σ H fun x H1=>tyV K T x H1/\t σ H1 fun xs H2=>r x xs H2 Q
variable {o e:Expr}{es:List Expr}{to:TE}{t:TA}{name:Str}{apos cpos:Pos}{T id:String}{r:V->List V->Hp->VK->Prop}
theorem d0b(pa:c8u T)(slot:Slot T name id)(hty:typeOf (.builtin id)=pure (.type "method_descriptor"))(hm:MtR X id r)(ho:PE X o to)
  (hbase:a0Z o name X.env (eval o X.env)=eval o X.env:=by rfl) (hline:(apos.endLine == cpos.line)=true:=by rfl):PE X (.Call (.Attribute o name apos) [] [] cpos) (c6d X.K T r to):=by
 intro pins s σ H Q I h
 refine wpAny_Call_method0_late hbase hline (thn (ho pins s σ H _ I h) fun v s1 ⟨x,H1,I1,r1,ty,q1⟩=>?_)
 obtain⟨h1,h2⟩:=c3d I1 r1 ty
 exact⟨T,id,pa,slot,hty,h1,h2,Calls.callWith_builtin rfl (PySem.evalArgs_none (hm pins s1 σ H1 x [] v [] Q I1 r1 .nil q1))⟩
theorem d2m(pa:c8u T)(slot:Slot T name id)(hty:typeOf (.builtin id)=pure (.type "method_descriptor"))(hm:MtR X id r)(ho:PE X o to)(ha:PA X (e::es) t)
  (hbase:a0Z o name X.env (eval o X.env)=eval o X.env:=by rfl)
  (hfew:((X5 cpos (g6 (e::es) X.env)).all (fun x => !x.1)&&(b5f cpos (a5B [] X.env)).all (fun x=>x.1.isSome)
   && decide ((e::es).length+([]:List b3D).length+(if([]:List b3D).isEmpty then 0 else 1)<30))=true:=by rfl)
  (hline:(apos.endLine == cpos.line)=true:=by rfl) (hs:g6 (e::es) X.env=(false,eval e X.env)::g6 es X.env:=by rfl) (hplain:(X5 cpos (g6 es X.env)).any (·.1)=false:=by rfl) :
  PE X (.Call (.Attribute o name apos) (e::es) [] cpos) (tBM X.K T r to t):=by
 intro pins s σ H Q I h
 refine wpAny_Call_method_late hbase hfew hline rfl (thn (ho pins s σ H _ I h) fun v s1 ⟨x,H1,I1,r1,ty,q1⟩=>?_)
 obtain⟨h1,h2⟩:=c3d I1 r1 ty
 refine⟨T,id,pa,slot,hty,h1,h2,?_⟩
 have hA:=ha cpos pins s1 σ H1 _ I1 q1
 rw[hs]at hA ⊢
 refine Calls.callWith_builtin (by show(false||(X5 cpos (g6 es X.env)).any (·.1))=false;rw[hplain] <;> rfl) (Calls.evalArgs_plain ?_)
 exact thn hA fun us s2 ⟨vs,H2,I2,r2,q2⟩=>hm pins s2 σ H2 x vs v us Q I2 r1 r2 q2
end
def MtM(X:Cx)(id:String)(r:V->List V->Hp->VK->Prop):Prop:=
 ∀(pins:List (Addr×Obj)) (s:d4) (σ:St) (H:Hp) (x:V) (xs:List V) (v:Value) (us:List Value) (Q:VK),Inv X pins σ H s->F1 x v->J0 xs us->r x xs H Q ->
  wpAny (model X.prog X.w) X.A (call (.builtin id) (v::us)) (EP X pins σ Q) X.xe s
theorem J0.one:∀ {x:V} {us:List Value},J0 [x] us->∃u,us=[u]/\F1 x u
 | _,_,.cons r .nil=>⟨_,rfl,r⟩
theorem J0.zero:∀ {us:List Value},J0 [] us->us=[]
 | _,.nil=>rfl
theorem J0.dropLast(h:J0 xs us):J0 xs.dropLast us.dropLast:=by
 induction h with
 | nil=>exact .nil
 | cons r t ih=>
  cases t with
  | nil=>exact .nil
  | cons q t'=>exact .cons r ih
theorem b8U{α:Type}(l:List α):l.eraseIdx (l.length - 1)=l.dropLast:=by
 induction l with
 | nil=>rfl
 | cons a r ih=>
  cases r with
  | nil=>rfl
  | cons b r=>
   have e:(a::b::r).length - 1=((b::r).length - 1)+1:=by
    have h1:(a::b::r).length=r.length+2:=rfl
    have h2:(b::r).length=r.length+1:=rfl
    omega
   rw[e,List.eraseIdx_cons_succ,ih]
   all_goals rfl
section
variable {l b:Addr}{ys zs:List V}
theorem Inv.lset{its its':List Value}{f:Array Value->Array Value}{t':Nat}(I:Inv X pins σ H s)(hH:H l=some (.lst xs))
  (e:s.heap.get? l=some { cls:=.type "list",data:=.seq its.toArray n }) (hf:f its.toArray=its'.toArray) (hv:J0 ys its') (hz:ys.length<=j7) :
  Inv X pins σ (upd H l (.lst ys)) { s with heap:=s.heap.update l (Obj.mapSeq f),toks:=t' }:=by
 have q:=PySem.IsL.update e f
 rw[hf]at q
 refine I.write (x:=l) (e:=l) (by rw[hH];exact trivial) (.inl rfl) (fun b' u hb hu=>(Q6 s.heap (Obj.mapSeq f) (Ne.symm hb)).trans hu) ⟨_,q⟩ ?_
 exact⟨hz,its',_,hv,q⟩
theorem Inv.lnew{its:List Value}{t':Nat}(I:Inv X pins σ H s)(hv:J0 ys its)(hz:ys.length<=j7) :
  Inv X pins σ (upd H s.heap.objs.size (.lst ys)) { s with heap:=s.heap.push { cls:=.type "list",data:=.seq its.toArray },toks:=t' }:=
 I.laid (fun _ _ q=>d7 _ q) (d9 _) ⟨hz,its,0,hv,C0 _ rfl⟩
theorem Inv.fresh(I:Inv X pins σ H s):H s.heap.objs.size=none:=I.hok.fresh (d9 _)
theorem Inv.lstM(I:Inv X pins σ H s)(hH:H l=some (.lst xs)):xs.length<=j7/\∃(its:List Value) (n:Nat),J0 xs its/\xs.length=its.length/\s.heap.get? l=some { cls:=.type "list",data:=.seq its.toArray n }:=by
 obtain⟨z,its,n,r,e⟩:=I.hok l _ hH
 exact⟨z,its,n,r,r.length,e⟩
theorem b6r(h:n<=j7):Builtin.List.listTooLong n=false:=by
 unfold Builtin.List.listTooLong
 exact d4L (by omega)
end
section
def c6x:V->List V->Hp->VK->Prop:=fun x vs H Q=>∃l xs y,x=.ref l/\vs=[y]/\H l=some (.lst xs)/\xs.length<j7/\Q .non (upd H l (.lst (xs++[y])))
theorem a9s:MtM X "list.append" c6x:=by
 intro pins s σ H x vs v us Q I rx rv h
 obtain⟨l,xs,y,rfl,rfl,hH,hz,q⟩:=h
 cases rx
 obtain⟨u,rfl,ru⟩:=rv.one
 obtain⟨z,its,n,r,hl,e⟩:=I.lstM hH
 refine a3V F.slot_list_append ⟨_,e,rfl⟩ F.entry_list_append (F.args_list_append_2 _ _) (PySem.list_append l its.toArray n u (by rw[j6];omega)) ⟨e,?_⟩
 refine⟨.non,_,I.lset (its':=its++[u]) hH e (by simp) (r.append (.cons ru .nil)) ?_,rfl,q⟩
 rw[j4,O6]
 omega
def c6w:V->List V->Hp->VK->Prop:=fun x vs H Q=>∃l b xs zs,x=.ref l/\vs=[.ref b]/\H l=some (.lst xs)/\H b=some (.lst zs)/\xs.length+zs.length<=j7/\Q .non (upd H l (.lst (xs++zs)))
theorem c1L:MtM X "list.extend" c6w:=by
 intro pins s σ H x vs v us Q I rx rv h
 obtain⟨l,b,xs,zs,rfl,rfl,hH,hB,hz,q⟩:=h
 cases rx
 obtain⟨u,rfl,ru⟩:=rv.one
 cases ru
 obtain⟨z,its,n,r,hl,e⟩:=I.lstM hH
 obtain⟨z2,its2,n2,r2,hl2,e2⟩:=I.lstM hB
 have hsz:its.toArray.size+its2.toArray.size<=j7:=by rw[j6,j6];omega
 have hlong:¬(!its.toArray.isEmpty&&Builtin.List.listTooLong (its.toArray.size+its2.toArray.size))=true:=by
  rw[b6r hsz,d1B]
  exact u5
 refine a3V F.slot_list_extend ⟨_,e,rfl⟩ F.entry_list_extend (F.args_list_extend_2 _ _)
  (AutoSeq1.list_extend_list_list_0 l its.toArray n b its2.toArray n2 hlong (by rw[j6];omega) (by omega)) ⟨e,e2,?_⟩
 refine⟨.non,_,I.lset (its':=its++its2) hH e (by simp) (r.append r2) ?_,rfl,q⟩
 rw[j4]
 omega
def d3l:V->List V->Hp->VK->Prop:=fun x vs H Q=>∃l xs y,x=.ref l/\vs=[]/\H l=some (.lst xs)/\xs[xs.length - 1]? = some y/\Q y (upd H l (.lst xs.dropLast))
theorem d0C:MtM X "list.pop" d3l:=by
 intro pins s σ H x vs v us Q I rx rv h
 obtain⟨l,xs,y,rfl,rfl,hH,hy,q⟩:=h
 cases rx
 have hus:=rv.zero
 subst hus
 obtain⟨z,its,n,r,hl,e⟩:=I.lstM hH
 obtain⟨u,hu,ru⟩:=r.get hy
 have hy':its.toArray[its.toArray.size - 1]? = some u:=by
  show its.toArray[its.length - 1]? = some u
  rw[<-O3,<-hl]
  exact hu
 refine a3V F.slot_list_pop ⟨_,e,rfl⟩ F.entry_list_pop (F.args_list_pop_1 _) (MeetsSeq.list_pop_last l its.toArray n u hy' (by rw[j6];omega)) ⟨e,?_⟩
 refine⟨y,_,I.lset (its':=its.dropLast) hH e ?_ r.dropLast ?_,ru,q⟩
 ·show its.toArray.eraseIdxIfInBounds (its.toArray.size - 1)=its.dropLast.toArray
  rw[j6,List.eraseIdxIfInBounds_toArray,b8U]
 ·rw[List.length_dropLast]
  omega
def d3m:R2:=fun x y H Q=>∃l b xs zs,x=.ref l/\y=.ref b/\H l=some (.lst xs)/\H b=some (.lst zs)/\xs.length+zs.length<=j7/\∀p,H p=none->Q (.ref p) (upd H p (.lst (xs++zs)))
theorem d0r:OpR X (V6 .Add) d3m:=by
 intro pins s σ H x y v u Q I rx ry h
 obtain⟨l,b,xs,zs,rfl,rfl,hH,hB,hz,q⟩:=h
 cases rx
 cases ry
 obtain⟨z,its,n,r,hl,e⟩:=I.lstM hH
 obtain⟨z2,its2,n2,r2,hl2,e2⟩:=I.lstM hB
 refine PySem.P.add_list e e2 ?_ (by rw[j6,j6];omega)
 have ea:its.toArray++its2.toArray=(its++its2).toArray:=by simp
 rw[ea]
 exact⟨.ref _,_,I.lnew (t':=s.toks) (r.append r2) (by rw[j4];omega),rfl,q _ I.fresh⟩
end
section
variable {prog:v8}{w:World}{A:F3}{E:Value->d4->Prop}
set_option maxRecDepth 100000 in
end
section
end
end L2
namespace Att
open PySem PySem.W PySem.Calls PyProof.Rows
theorem b0c{P:Params}{h:Heap}:∀(ns:List Int) (vs:List Value),WellAll P h vs (ns.map WData.int)->c8W vs ns:=by
 intro ns
 induction ns with
 | nil=>
  intro vs w
  rw[a6C]at w
  cases w
  exact .nil
 | cons n ns ih=>
  intro vs w
  rw[C6]at w
  cases w with
  | cons a b=>
   cases a
   exact .cons _ _ (ih _ b)
theorem c1e{l:OpenLaw}{n:Nat}(hn:l.most=some n){P:Params}{h:Heap}{args:List WData}{vals:List Value}
  (hpre:l.row.toRowW.claim.pre args=true) (hwl:WellAll P h vals args) :
  ∃a vs ns,vals=[Value.ref a]/\args=[WData.list (ns.map WData.int)]/\h.get? a=some { cls:=.type "list",data:=.seq vs.toArray }/\c8W vs ns/\ns.length<=n:=by
 have hsh:WShape.hasAll [] args [.list .int]=true:=(pre_splitW hpre).1
 have hc:l.pre.holds [] { args:=args }=true:=(pre_splitW hpre).2
 obtain⟨d,r,rfl,h1,h2⟩:=hasAllW_cons hsh
 obtain rfl:=hasAllW_nil h2
 obtain⟨xs,rfl,h3⟩:=hasW_list h1
 obtain⟨ns,rfl⟩:=items_int h3
 have hlen:ns.length<=n:=by
  unfold OpenLaw.pre at hc
  have h4:(WTm.not (.lt (.lit (.int (n:Int))) (.len (.arg 0)))).holds [] { args:=[.list (ns.map .int)] }=true:=by
   have h4:=(holds_andW hc).1
   rw[hn]at h4
   exact h4
  have h5:=condW_of h4 (w_not (w_lt w_lit (w_len_list (w_arg rfl))))
  rw[a9]at h5
  refine Nat.le_of_not_lt fun q=>?_
  have q':(n:Int)<((ns.length:Nat):Int):=by omega
  first
   | (rw[d4M q']at h5;exact absurd h5 (by decide))
   | (simp at h5;omega)
 cases hwl with
 | cons w1 w2=>
  cases w2
  cases w1 with
  | list ho hall=>exact⟨_,_,ns,rfl,rfl,ho,b0c ns _ hall,hlen⟩
theorem c1u(l:OpenLaw)(args:List WData):l.row.toRowW.claim.post args (.bool true) args=true:=
 postW_of (r:=l.row.toRowW) (X:=(true == true))
  (show WShape.has [] (.bool true) .bool=true by first | rfl | decide | simp[WShape.has,WShape.arms,WShape.armsAll])
  (show(WTm.eq .res (.lit (.bool true))).value [] { args:=args,res:=some (.bool true),after:=args }=some (.bool (true == true))from w_eq_bool (w_res rfl) w_lit) rfl
theorem b7d{l:OpenLaw}{n:Nat}{q:v8}{loose:List Str}{XP:(Str->Option Value)->Heap->Prop}{YP:World->Heap->Prop}{d:DefRec}
  (hn:l.most=some n) (hdf:d.params.defaults=[])
  (call:∀(w:World) (s₀ s₁:d4) (mg mb:Str->Option Value) (fa:Addr) (o:Obj) (pm cd doc:Value) (a:Addr) (vs:List Value) (ns:List Int),
   Ground q loose [] XP w s₀ mg mb s₁.heap->YP w s₁.heap ->
   s₁.heap.get? fa=some o->o.data=.func (docDef d.name d.params d.body d.scope pm cd doc)->s₁.heap.CodeRec cd d.name->mg d.name=some (.ref fa) ->
   s₁.heap.get? a=some { cls:=.type "list",data:=.seq vs.toArray }->c8W vs ns->ns.length<=n->s₁.gens = #[] ->
   a3U (model l.prog w) c2N (.call (.ref fa) ⟨[.ref a],[]⟩) (fun r s'=>r=.ok (.ret (.bool true))/\OldK s₁.heap s'.heap/\s'.os=s₁.os/\b0C s'.gens) s₁) :
  WalkO q loose XP YP l.row.toRowW d [] (fun f vs=>b4Z f vs):=by
 intro w s₀ s₁ mg mb G Y fa o pm cd doc dV kV ho hd hcd hD hmg hg args vals as hpre hlay hrd hwl hlo
 obtain rfl:dV=.none:=Dflts.none hD hdf
 obtain rfl:kV=.none:=Dflts.noKw hD
 obtain⟨a,vs,ns,rfl,rfl,hobj,hints,hlen⟩:=c1e hn hpre hwl
 refine enter_call (a2U (call w s₀ s₁ mg mb fa o pm cd doc a vs ns G Y ho (fd_plain hd) hcd hmg hobj hints hlen hg) fun r s' hq=>?_)
 obtain⟨rfl,h2,h3,h4⟩:=hq
 exact⟨.inl ⟨.bool true,.bool true,[],rfl,fun _=>rfl,.bool true,c1u l _,fun _=>⟨List.Pairwise.nil,fun _ hm=>(nomatch hm)⟩⟩,h2,h3,h4⟩
section
variable {prog:v8}{w:World}{A:F3}{E:Value->d4->Prop}{s:d4}{K:Frag}
end
end Att
namespace L2
open PySem PySem.Spec PyProof.Rows
theorem a8Q:∀ {vs:List Value} {ns:List Int},c8W vs ns->J0 (ns.map V.int) vs
 | _,_,.nil=>.nil
 | _,_,.cons n t h=>.cons ⟨t,rfl⟩ (a8Q h)
def c8h(H:Hp):Prop:=∀b,H b=none\/∃o xs,H b=some (.frz o (.lst xs))
theorem c4P{P:v8}{w:World}{K:Fg}{mg mb:Str->Option Value}{CX:CXT}{k:Nat}{fa a:Addr}{fd:U1}{x:Str}{sp:Sp}{s₁:d4}{vs:List Value}{ns:List Int}
  (KX:K.In s₁.heap) (hns:s₁.heap.Ns u4 mg) (hb:s₁.heap.Ns builtinsNs mb) (hbb:∀x:Str,x ≠ "__name__" -> mb x=a0W x) (hlim:s₁.heap.NoLimit) (hg:s₁.gens = #[])
  (ha:s₁.heap.get? a=some { cls:=.type "list",data:=.seq vs.toArray }) (hi:c8W vs ns) (hl:ns.length<=j7) (hr:R3 k c2N)
  (F:∀base:Heap,K.In base->base.Ns u4 mg->F5 P w K mg base CX k fa fd [x] sp) (hbind:∀(s:d4) (u:Value),b7s s fd ⟨[u],[]⟩ [(x,u)])
  (hsp:∀H:Hp,c8h H->SqL K H a (ns.map V.int)->sp [.ref a] H (fun v _=>v=.bl true) fun _ _ _=>False)
  (hCX:∀H e s',CX [] H s₁ (fun _ _ _=>False) e s'->False) :
  a3U (model P w) c2N (.call (.ref fa) ⟨[.ref a],[]⟩) (fun r s'=>r=.ok (.ret (.bool true))/\OldK s₁.heap s'.heap/\s'.os=s₁.os/\b0C s'.gens) s₁:=by
 have rv:=a8Q hi
 have lenV:=hi.length
 have core:∀H:Hp,c8h H->SqL K H a (ns.map V.int)->HOk P w H s₁.heap->(∀b,H b≠none->b=a)->(H a≠none->K.lookup a=none) ->
   a3U (model P w) c2N (.call (.ref fa) ⟨[.ref a],[]⟩) (fun r s'=>r=.ok (.ret (.bool true))/\OldK s₁.heap s'.heap/\s'.os=s₁.os/\b0C s'.gens) s₁:=by
  intro H hO hS hok hA hK
  have base_of:∀ {b:Addr} {o:Obj},s₁.heap.get? b=some o->H b=none->(b4x s₁.heap H).get? b=some o:=fun e n=>c4Y e n
  have noA:∀ {b:Addr} {o:Obj} {es:Array DictEntry} {ep:Nat},s₁.heap.get? b=some o->o.data=.dict es ep->H b=none:=fun {b o es ep} e d=>by
   cases q:H b with
   | none=>rfl
   | some u=>
    have e':b=a:=hA b (by rw[q];simp)
    subst e'
    rw[ha]at e;cases e
    have d':Data.seq vs.toArray _=Data.dict es ep:=d
    cases d'
  have nsK:∀ {b:Addr} {m:Str->Option Value},s₁.heap.Ns b m->(b4x s₁.heap H).Ns b m:=fun {b m} ⟨o,es,ep,e,d,r⟩=>⟨o,es,ep,base_of e (noA e d),d,r⟩
  have hKb:K.In (b4x s₁.heap H):=fun b o e=>base_of (KX b o e) (by
   cases q:H b with
   | none=>rfl
   | some u=>
    have e':b=a:=hA b (by rw[q];simp)
    subst e'
    rw[hK (by rw[q];simp)]at e;cases e)
  have hM:Mod K mg (b4x s₁.heap H):=⟨hKb,nsK hns,⟨mb,nsK hb,hbb⟩,let⟨mc,h1,h2⟩:=hlim; ⟨mc,nsK h1,h2⟩⟩
  have e0:b7i P w K mg (b4x s₁.heap H) c2N [] s₁ H:=⟨rfl,hM,fun b o e=>c7r e,a2J (c1Y _ _),trivial,fun b hb=>absurd (show b∈([]:List Addr)from hb) (by simp),hok,.of_eq hg⟩
  refine a2U ((F _ hKb (nsK hns)).run c2N [] s₁ H ⟨[.ref a],[]⟩ [.ref a] [.ref a] _ _ hr e0 (hbind s₁ (.ref a)) (.cons rfl .nil) (hsp H hO hS)) fun r s' h=>?_
  cases r with
  | error e=>exact(hCX H e s' h).elim
  | ok fl=>
   cases fl with
   | next=>exact False.elim h
   | brk=>exact False.elim h
   | cont=>exact False.elim h
   | ret u=>
    obtain⟨v,H',os,bare,un,hok',r',q⟩:=h
    have q':v=.bl true:=q
    subst q'
    obtain rfl:u=Value.bool true:=r'
    refine⟨rfl,OldK.of_keep fun b o e=>?_,os,bare⟩
    cases q:H b with
    | none=>exact un.keep b o e q (by intro z;exact absurd (show b∈([]:List Addr)from z) (by simp)) (by simp)
    | some u=>
     rcases hO b with z | ⟨ob,xs,z⟩
     ·rw[q]at z;cases z
     ·have z2:=un.frzs b ob _ z
      obtain⟨e1,_⟩:=hok b _ z
      obtain⟨e2,_⟩:=hok' b _ z2
      rw[e]at e1;cases e1
      exact e2
 cases hk:K.lookup a with
 | some o=>
  have e:=KX a o hk
  rw[ha]at e
  cases e
  refine core (fun _=>none) (fun _=>.inl rfl) (.inr ⟨_,vs.toArray,_,hk,rfl,rfl,rfl,by rw[j6,lenV];exact hl,by simpa using rv⟩) (fun b u z=>by have z':(none:Option HO)=some u:=z;cases z') (fun b z=>absurd rfl z) fun z=>absurd rfl z
 | none=>
  refine core (fun b=>if b=a then some (.frz { cls:=.type "list",data:=.seq vs.toArray } (.lst (ns.map V.int)))else none) (fun b=>?_) (.inl (.inr ⟨{ cls:=.type "list",data:=.seq vs.toArray },if_pos rfl⟩)) (fun b u z=>?_) (fun b z=>?_) fun _=>hk
  ·by_cases hb:b=a
   ·exact .inr ⟨_,_,if_pos hb⟩
   ·exact .inl (if_neg hb)
  ·by_cases hb:b=a
   ·have z':=(if_pos hb).symm.trans z
    cases z'
    subst hb
    exact⟨ha,by rw[a9];exact hl,vs,_,rv,ha⟩
   ·have z':=(if_neg hb).symm.trans z
    cases z'
  ·by_cases hb:b=a
   ·exact hb
   ·exact absurd (if_neg hb) z
theorem c6a{l:PySem.W.OpenLaw}{n k:Nat}{q:v8}{loose:List Str}{XP:(Str->Option Value)->Heap->Prop}{YP:World->Heap->Prop}{d:DefRec}{K:Params->Fg}{CX:World->CXT}{sp:World->Sp}{x:Str}
  (hn:l.most=some n) (hn2:n<=j7) (hdf:d.params.defaults=[]) (hr:R3 k c2N)
  (hY:∀(w:World) (h:Heap),YP w h->(K w.params).In h)
  (F:∀(w:World) (mg:Str->Option Value) (fa:Addr) (h:Heap),(K w.params).In h->h.Ns u4 mg->mg d.name=some (.ref fa) ->
   ∃fd:U1,(∀(s:d4) (u:Value),b7s s fd ⟨[u],[]⟩ [(x,u)]) /\
    ∀base:Heap,(K w.params).In base->base.Ns u4 mg->F5 l.prog w (K w.params) mg base (CX w) k fa fd [x] (sp w))
  (hsp:∀(w:World) (H:Hp) (a:Addr) (ns:List Int),ns.length<=n->c8h H->SqL (K w.params) H a (ns.map V.int)->sp w [.ref a] H (fun v _=>v=.bl true) fun _ _ _=>False)
  (hCX:∀(w:World) (H:Hp) (s:d4) (e:Value) (s':d4),CX w [] H s (fun _ _ _=>False) e s'->False) :
  PySem.W.WalkO q loose XP YP l.row.toRowW d [] (fun f vs=>b4Z f vs):=by
 refine Att.b7d hn hdf fun w s₀ s₁ mg mb fa o pm cd doc a vs ns G Y ho hd hcd hmg hobj hints hlen hg=>?_
 have KX:=hY w _ Y
 obtain⟨fd,hb,hF⟩:=F w mg fa _ KX G.T.g hmg
 exact c4P KX G.T.g G.T.b G.T.builtins G.T.nolimit hg hobj hints (t5 hlen hn2) hr hF hb (fun H hO hS=>hsp w H a ns hlen hO hS) fun H e s'=>hCX w H s₁ e s'
abbrev CX0:CXT:=fun _ _ _ _ _ _=>False
abbrev E0:XK:=fun _ _ _=>False
theorem c4s{X:Cx}:a9E CX0 X E0:=fun _ _ _ _ _ _ _ h=>h.elim
structure Fun(K:Fg)(x qual:Str)(st:Stmt)(f:Addr)(fd:U1):Prop where
 ex:∃(oc:Value) (od:Option Addr) (kV doc pm:Value) (an:Option Addr) (cdv ct:Value) (osl:Array (Option Value)),
  fd=a1a x qual (a5a st) (a1r st) (i9 st) .none kV doc pm an cdv ct/\K.lookup f=some ⟨oc,od,.func fd,osl⟩/\a6I K cdv qual=true
 kp:T0 K (.ref f)=true
section
variable {P:v8}{w:World}{K:Fg}{mg:Str->Option Value}{base:Heap}
theorem Fun.ok{x qual:Str}{st:Stmt}{f:Addr}{fd:U1}{N ps:List Str}{k:Nat}{sp:Sp}(F:Fun K x qual st f fd)(S:A4 N ps (i9 st))(len:∀vs H Q E,sp vs H Q E->vs.length=ps.length)
  (hbody:∀(cdv:Value) (A:F3) (outer:List Env) (s:d4) (H:Hp) (vs:List V) (Q:VK) (E:XK),R3 k (A.deeper (b0B qual (i9 st) s.heap.objs.size f cdv))->sp vs H Q E ->
   ∃t,PSs (a8x CX0 P w K mg base N qual (i9 st) f cdv A outer s H E).nox (a1r st) t/\t { nx:=fun _ H'=>Q .non H',rt:=Q } (a6R N vs) H):F5 P w K mg base CX0 (k+1) f fd ps sp:=by
 obtain⟨oc,od,kV,doc,pm,an,cdv,ct,osl,rfl,lk,hcd⟩:=F.ex
 refine c8O lk hcd S len fun A outer s H vs Q E hr hsp=>?_
 obtain⟨t,h,q⟩:=hbody cdv A outer s H vs Q E hr hsp
 exact⟨t,h.nox,q⟩
theorem Fun.binds{x qual:Str}{st:Stmt}{f:Addr}{fd:U1}{ps:List Str}(F:Fun K x qual st f fd)
  (h:∀(kV doc pm:Value) (an:Option Addr) (cdv ct:Value) (us:List Value),us.length=ps.length->bindArgs (a1a x qual (a5a st) (a1r st) (i9 st) .none kV doc pm an cdv ct) ⟨us,[]⟩=pure (ps.zip us)):a2d K fd ps []:=by
 obtain⟨oc,od,kV,doc,pm,an,cdv,ct,osl,rfl,lk,hcd⟩:=F.ex
 exact .all (h kV doc pm an cdv ct)
theorem d0X{x qual:Str}{st:Stmt}{f:Addr}{oc:Value}{od an:Option Addr}{osl:Array (Option Value)}{kV doc pm cdv ct:Value}(l:K.lookup f=some ⟨oc,od,.func (a1a x qual (a5a st) (a1r st) (i9 st) .none kV doc pm an cdv ct),osl⟩)
  (c:a6I K cdv qual=true) (k:T0 K (.ref f)=true):Fun K x qual st f (a1a x qual (a5a st) (a1r st) (i9 st) .none kV doc pm an cdv ct):=⟨⟨oc,od,kV,doc,pm,an,cdv,ct,osl,rfl,l,c⟩,k⟩
end
theorem c0d{A:F3}{k:Nat}(hr:R3 k A):A.units+1<cLine:=b0e (Nat.add_le_add_left (by decide:1<=64) _) hr.units
section
variable {X:Cx}
end
theorem d0R{A B:Prop}(h:B):if false=true then A else B:=by
 rw[if_neg u5]
 exact h
theorem b1O{A B:Prop}(h:A):if true=true then A else B:=by
 rw[if_pos rfl]
 exact h
theorem Y8{c A B:Prop}[Decidable c](h1:c->A)(h2:¬c->B):if c then A else B:=by
 by_cases h:c
 ·rw[if_pos h]
  exact h1 h
 ·rw[if_neg h]
  exact h2 h
def t7(H H':Hp):Prop:=∀b o,H b=some o->H' b=some o
theorem t7.refl(H:Hp):t7 H H:=fun _ _ h=>h
theorem t7.trans{H H1 H2:Hp}(a:t7 H H1)(b:t7 H1 H2):t7 H H2:=fun c o h=>b c o (a c o h)
theorem t7.free{H H':Hp}(e:t7 H H'){l:Addr}(h:H' l=Option.none):H l=Option.none:=by
 cases q:H l with
 | none=>rfl
 | some o=>
  rw[e l o q]at h
  cases h
section
variable {κ:Type}[DecidableEq κ]
end
end L2
set_option maxHeartbeats 4000000
namespace L2
open PySem PySem.Spec PyProof.Rows
variable{env:Env}{scope:Scope}{X:Cx}{w:World}{s:d4}{elt iter:Expr}{elts ifs:List Expr}{p pos tp:Pos}{pins:List (Addr×Obj)}{σ:St}{H:Hp}{fp:List Addr}{tt:TT}{te:TE}{xs:List V}{us:List Value}{u:Value}{ps:List Str}{sp:Sp}
theorem b4F:∀(names:List (Str×a6J)) (cs:List (Str×Addr)),(∀y∈names,y.2=.free->∃c,env.cells.lookup y.1=some c) ->
  (∀y c,cs.lookup y=some c->env.cells.lookup y=some c) ->
  ∃cl,(forIn names cs (fun(x:Str×a6J) (r:List (Str×Addr))=>(if(x.2 == NameKind.free)=true then (do let c <-cellOf env x.1;pure (ForInStep.yield ((x.1,c)::r)))else pure (ForInStep.yield r):Sem (ForInStep (List (Str×Addr)))))=(pure cl:Sem (List (Str×Addr)))) /\
   (∀y c,cl.lookup y=some c->env.cells.lookup y=some c)/\(∀y,(y,NameKind.free)∈names\/(cs.lookup y).isSome=true->(cl.lookup y).isSome=true)
 | [],cs,_,h=>⟨cs,rfl,h,fun y q=>q.elim (fun z=>absurd z (by simp)) id⟩
 | (n,k)::r,cs,hc,h=>by
  by_cases e:(k == NameKind.free)=true
  ·have ek:k=.free:=by simpa using e
   obtain⟨c,hcc⟩:=hc (n,k) A6 ek
   have h':∀y d,((n,c)::cs).lookup y=some d->env.cells.lookup y=some d:=by
    intro y d q
    rw[J3]at q
    cases eq:y == n with
    | true=>
     rw[eq]at q
     have e2:y=n:=by simpa using eq
     cases q;rw[e2];exact hcc
    | false=>rw[eq]at q;exact h y d q
   obtain⟨cl,h1,h2,h3⟩:=b4F r ((n,c)::cs) (fun y hy=>hc y (c9 _ hy)) h'
   refine⟨cl,?_,h2,fun y q=>h3 y ?_⟩
   ·rw[d1p]
    show((if(k == NameKind.free)=true then (do let c <-cellOf env n;pure (ForInStep.yield ((n,c)::cs)))else pure (ForInStep.yield cs):Sem (ForInStep (List (Str×Addr)))) >>= _)=_
    rw[if_pos e]
    have ec:cellOf env n=pure c:=by unfold cellOf;rw[hcc]
    rw[ec]
    exact h1
   ·rcases q with q | q
    ·rcases c5.mp q with q | q
     ·cases q
      right
      simp[J3]
     ·exact .inl q
    ·right
     rw[J3]
     cases y == n
     ·exact q
     ·rfl
  ·obtain⟨cl,h1,h2,h3⟩:=b4F r cs (fun y hy=>hc y (c9 _ hy)) h
   refine⟨cl,?_,h2,fun y q=>h3 y ?_⟩
   ·rw[d1p]
    show((if(k == NameKind.free)=true then (do let c <-cellOf env n;pure (ForInStep.yield ((n,c)::cs)))else pure (ForInStep.yield cs):Sem (ForInStep (List (Str×Addr)))) >>= _)=_
    rw[if_neg e]
    exact h1
   ·rcases q with q | q
    ·rcases c5.mp q with q | q
     ·cases q
      exact absurd rfl e
     ·exact .inl q
    ·exact .inr q
theorem a7F(hc:∀y∈scope.names,y.2=.free->∃c,env.cells.lookup y.1=some c) :
  ∃cl,closureFor scope env=pure cl/\(∀y c,cl.lookup y=some c->env.cells.lookup y=some c)/\∀y,(y,NameKind.free)∈scope.names->(cl.lookup y).isSome=true:=by
 obtain⟨cl,h1,h2,h3⟩:=b4F scope.names [] hc (fun y c q=>by cases q)
 refine⟨cl,?_,h2,fun y q=>h3 y (.inl q)⟩
 unfold closureFor
 first
  | exact h1
  | (show(forIn scope.names [] _ >>= fun r=>pure r)=_;rw[h1];rfl)
theorem P5{env:Env}:∀ {names:List (Str×a6J)} {y:Str} {k:a6J},
  (names.map fun(n,k)=>if(k == NameKind.free&&env.scope.kind == .function&&env.kindOf n == some .cell)then (n,NameKind.cell)else (n,k)).lookup y=some k ->
  names.lookup y=some k\/(names.lookup y=some .free/\k=.cell)
 | [],_,_,h=>by cases h
 | (n,k0)::r,y,k,h=>by
  have ih := @P5 env r y k
  rw[C6]at h
  rw[J3]
  cases hx:y == n with
  | true=>
   by_cases hc:(k0 == NameKind.free&&env.scope.kind == .function&&env.kindOf n == some .cell)=true
   ·have e2:k0=.free:=by simp at hc;exact hc.1.1
    dsimp only at h
    rw[if_pos hc,J3,hx]at h
    cases h
    exact .inr ⟨by rw[e2],rfl⟩
   ·dsimp only at h
    rw[if_neg hc,J3,hx]at h
    exact .inl h
  | false=>
   by_cases hc:(k0 == NameKind.free&&env.scope.kind == .function&&env.kindOf n == some .cell)=true
   ·dsimp only at h
    rw[if_pos hc,J3,hx]at h
    exact ih h
   ·dsimp only at h
    rw[if_neg hc,J3,hx]at h
    exact ih h
def hid(x:Str)(N:List Str):List Str:=N.map fun y=>if y=x then ("." : Str)++x else y
def X4(X:Cx)(scope:Scope)(cl:List (Str×Addr))(C:Addr)(x:Str)(fp:List Addr)(s3:d4)(H3:Hp):Cx:=
 { X with N:=x::hid x X.N,s₀:=s3,H₀:=H3,env:=c2E scope cl C X.env,outer:=X.stack,stack:=X.stack,ex:=fp,fn:=fun _=>false,pn:=[],xe:=fun _ _=>False }
structure Q1(N:List Str)(osc sc:Scope)(x:Str):Prop where
 kind:sc.kind=.function
 cell:∀y∈sc.names,y.2≠.cell
 names:∀y∈sc.names,y.2=.local->sc.names.lookup y.1=some .local
 own:sc.names.lookup x=some .local
 fr:∀y∈sc.names,y.2=.free->osc.names.lookup y.1=some .cell\/osc.names.lookup y.1=some .free
 see:∀y∈hid x N,sc.names.lookup y≠some .local
 dot:sc.names.lookup (("." : Str)++x)=none
 nd:(x::hid x N).Nodup
def T5(wi:TI)(tt:TT)(te:TE):TE:=fun σ H Q=>wi σ H fun J H1=>∀D,H1 D=none->∃W:Nat->Nat->List V->Hp->Prop,
 (∃m,W 0 m [] (upd H1 D (.lst [])))/\∀i m ys H2,W i m ys H2->H2 D=some (.lst ys) /\
  ((J.stop i H2 /\ Q (.ref D) H2) \/ (J.go i H2 /\ ∀ x H3,J.yld i H2 x H3 -> tt (some x :: σ) H3 fun ok H4 => if ok = true then
    te (some x::σ) H4 (fun y H5=>H5 D=some (.lst ys)/\ys.length<j7/\∃m',m'<m/\W (i+1) m' (ys++[y]) (upd H5 D (.lst (ys++[y]))))
    else ∃m',m'<m/\W (i+1) m' ys H4))
def PTs(X:Cx)(ifs:List Expr)(t:TT):Prop:=
 ∀(pins:List (Addr×Obj)) (s:d4) (σ:St) (H:Hp) (Q:Bool->Hp->Prop),Inv X pins σ H s->t σ H Q ->
  wpAny (model X.prog X.w) X.A (forIn ifs true fun c r=>if r=true then do let ok <-isTrue c X.env (eval c X.env);pure (ForInStep.yield ok)else pure (ForInStep.yield r)) (TP X pins σ Q) X.xe s
def U4:TT:=fun _ H Q=>Q true H
theorem c6D:PTs X [] U4:=fun _ _ _ H _ I h=>wpAny_tests_nil ⟨H,I,h⟩
theorem c6C{c:Expr}{t:TT}(h:PT X c t):PTs X [c] t:=fun pins s σ H Q I hq=>wpAny_tests_one (h pins s σ H Q I hq)
theorem b3r{prog:v8}{A:F3}{R:b9n->d4->Prop}{target:Expr}{it acc:Value}(I:Nat->d4->Prop)
  (turn:∀n s,I n s->wpAny (model prog w) A (pyNext it) (fun r s₁=>match r with
   | none=>R (.ok .next) s₁
   | some v=>wpAny (model prog w) A (a3m target it v) (fun _ s₂=>wpAny (model prog w) A (b2M target env v) (fun _ s₃=>
     wpAny (model prog w) A (forIn ifs true fun c r=>if r=true then do let ok <-isTrue c env (eval c env);pure (ForInStep.yield ok)else pure (ForInStep.yield r)) (fun ok s₄=>
      if ok=true then wpAny (model prog w) A (eval elt env) (fun x s₅=>
       wpAny (model prog w) A (call (.builtin "list.append") [acc,x]) (fun _ s₆=>∃m,m<n/\I m s₆) (fun _ _=>False) s₅) (fun _ _=>False) s₄
      else ∃m,m<n/\I m s₄) (fun _ _=>False) s₃) (fun _ _=>False) s₂) (fun _ _=>False) s₁) (fun _ _=>False) s)
  (n:Nat) (h:I n s) :
  a3U (model prog w) A (.compLoop (.ListComp elt [⟨target,iter,ifs,0⟩] scope pos) 0 it acc env) R s:=by
 have up:∀ {α:Type} {m:Sem α} {Q:α->d4->Prop} {E:Value->d4->Prop} {s:d4},wpAny (model prog w) A m Q (fun _ _=>False) s->wpAny (model prog w) A m Q E s:=
  fun h=>Q7 h (fun _ _ q=>q) fun _ _ f=>f.elim
 refine codeAny_loop rfl I (fun n s hI=>?_) n h
 refine wpAny_noted ?_
 rw[compTurn_list]
 refine d8 (a3k (d8 (up (thn (turn n s hI) fun r s₁ h₁=>?_))))
 cases r with
 | none=>exact A0 h₁
 | some v=>
  refine d8 (up (thn h₁ fun _ s₂ h₂=>d8 (up (thn h₂ fun _ s₃ h₃=>d8 (up (thn h₃ fun ok s₄ h₄=>?_))))))
  cases ok with
  | false=>exact A0 ⟨rfl,by simpa using h₄⟩
  | true=>
   rw[if_pos rfl]at h₄
   exact d8 (d8 (up (thn h₄ fun x s₅ h₅=>d8 (up (thn h₅ fun _ s₆ h₆=>A0 (A0 ⟨rfl,h₆⟩))))))
section
variable {x:Str}{px:Pos}
theorem c5n{s3:d4}{cl:List (Str×Addr)}{h4:Heap}{tk:Nat}(hc:Q1 X.N X.env.scope scope x)(I:Inv X pins σ H s3)
  (hcl:∀y c,cl.lookup y=some c->X.env.cells.lookup y=some c) (hcl2:∀y,(y,NameKind.free)∈scope.names->(cl.lookup y).isSome=true)
  (fpo:∀b∈fp,a1K X pins H b) (fpl:∀b∈fp,b<s3.heap.objs.size)
  (hn:h4.Ns s3.heap.objs.size (fun _=>none)) (k:∀b o,s3.heap.get? b=some o->h4.get? b=some o) :
  Inv (X4 X scope cl s3.heap.objs.size x fp s3 H) [] (none::σ) H { s3 with heap:=h4,toks:=tk }:=by
 have low:∀x y,(X4 X scope cl s3.heap.objs.size x fp s3 H).env.cells.lookup y=cl.lookup y:=fun _ _=>rfl
 have below:∀y c,cl.lookup y=some c->c<s3.heap.objs.size:=fun y c e=>by
  obtain⟨v,q⟩:=I.cell y c (hcl y c e)
  exact q.lt
 have kinds:∀y,((X4 X scope cl s3.heap.objs.size x fp s3 H).env.kindOf y=some .cell\/(X4 X scope cl s3.heap.objs.size x fp s3 H).env.kindOf y=some .free)->scope.names.lookup y=some .free:=by
  intro y hy
  rcases hy with hy | hy
  ·rcases P5 hy with q | ⟨q,_⟩
   ·exact absurd rfl (hc.cell _ (C9 q))
   ·exact q
  ·rcases P5 hy with q | ⟨q,z⟩
   ·exact q
   ·cases z
 refine⟨⟨I.ok.mod,?_,I.ok.glob,I.ok.blt,d9 _,fun y z c h1 h2=>?_,fun y hy=>?_,fun y c h=>?_,I.ok.hd,I.ok.frames,.inl rfl,fun b hb=>⟨?_,fun y c e z=>?_⟩,fun b o e=>I.bs b o e,t5 I.ok.bsz I.sz,fun b o e hb=>?_,fun b hb hf=>?_,I.stack,I.stkFree⟩,
  rfl,I.bare,Un.kept k,⟨_,hn,fun i y v h1 h2 h3=>?_⟩,fun y c e=>?_,I.fresh,fun y c e=>?_,fun p hp=>absurd (show p∈([]:List (Addr×Obj))from hp) (by simp),I.hok.kept k,?_⟩
 ·exact hc.kind
 ·exact I.ok.inj y z c (hcl _ _ h1) (hcl _ _ h2)
 ·have:=hcl2 y (C9 (kinds y hy))
  exact Z3.mp this
 ·cases h
 ·exact z5 (fpl b hb)
 ·exact(fpo b hb).2.2.2.2.1 y c (hcl y c e) z
 ·rcases(fpo b hb).2.2.2.1 with q | q
  ·exact I.ok.noex b o e q
  ·exact absurd (t8 (h9 (I.ok.bs b o e).1) q) (E8 _)
 ·rcases c5.mp (I.stkSub b hf)with e | e
  ·exact(fpo b hb).2.1 e
  ·exact(fpo b hb).2.2.1 e
 ·-- the names
  have h1:(x::hid x X.N)[i]? = some y:=h1
  cases i with
  | zero=>cases h2
  | succ i=>
   have h1:(hid x X.N)[i]? = some y:=h1
   have h2:σ[i]? = some (some v):=h2
   have my:y∈hid x X.N:=a1d h1
   have h3:(a8M scope X.env).names.lookup y=some .local\/(a8M scope X.env).names.lookup y=some .cell\/(a8M scope X.env).names.lookup y=some .free:=h3
   have hf:scope.names.lookup y=some .free:=by
    rcases h3 with q | q
    ·rcases P5 q with q | ⟨_,z⟩
     ·exact absurd q (hc.see y my)
     ·cases z
    ·exact kinds y q
   have hy:X.N[i]? = some y:=by
    unfold hid at h1
    rw[c8]at h1
    cases e:X.N[i]? with
    | none=>rw[e]at h1;cases h1
    | some z=>
     rw[e]at h1
     by_cases ez:z=x
     ·rw[a6g,if_pos ez]at h1
      have h1:=Option.some.inj h1
      subst h1
      rw[hc.dot]at hf
      cases hf
     ·rw[a6g,if_neg ez]at h1
      exact h1
   obtain⟨m,_,hl⟩:=I.loc
   obtain⟨c,hcc⟩:=Z3.mp (hcl2 y (C9 hf))
   have vis:Vis X.env.scope y:=by
    rcases hc.fr _ (C9 hf) rfl with q | q
    ·exact .inr (.inl q)
    ·exact .inr (.inr q)
   obtain⟨u,ru,lk⟩:=hl i y v hy h2 vis
   refine⟨u,ru,.inr ⟨?_,c,hcc,?_⟩⟩
   ·rcases h3 with q | q
    ·rcases P5 q with q | ⟨_,z⟩
     ·exact absurd q (hc.see y my)
     ·cases z
    ·exact q
   ·have hce:=hcl y c hcc
    rcases lk with ⟨q,_⟩ | ⟨_,c',e',z⟩
    ·rcases hc.fr _ (C9 hf) rfl with q' | q'
     ·have q:X.env.scope.names.lookup y=some .local:=q
      rw[show X.env.scope.names.lookup y=some NameKind.cell from q']at q
      cases q
     ·have q:X.env.scope.names.lookup y=some .local:=q
      rw[show X.env.scope.names.lookup y=some NameKind.free from q']at q
      cases q
    ·rw[e']at hce
     cases hce
     obtain⟨o,ho,hd⟩:=z
     exact⟨o,k _ _ ho,hd⟩
 ·obtain⟨v,o,ho,hd⟩:=I.cell y c (hcl y c e)
  exact⟨v,o,k _ _ ho,hd⟩
 ·exact I.freeC y c (hcl y c e)
 ·show(none::σ).length=(x::hid x X.N).length
  have:=I.len
  simp[hid,this]
theorem b2a{H1:Hp}{s2:d4}{cl:List (Str×Addr)}{it:Addr}{tn:Nat->Heap->Prop}{J:It}{Q:VK}{E:Value->d4->Prop}
  {RR:Value->Addr->b9n->d4->Prop} (hc:Q1 X.N X.env.scope scope x) (hcalm:X.calm=true)
  (hcl:∀y c,cl.lookup y=some c->X.env.cells.lookup y=some c) (hcl2:∀y,(y,NameKind.free)∈scope.names->(cl.lookup y).isSome=true)
  (ht:∀C fp s3 H3,PTs (X4 X scope cl C x fp s3 H3) ifs tt) (he:∀C fp s3 H3,PE (X4 X scope cl C x fp s3 H3) elt te)
  (I:Inv X pins σ H1 s2) (T:b4W X.prog X.w X.K (.Name x px) J fp it tn) (st:tn 0 s2.heap) (fpo:∀b∈fp,a1K X pins H1 b)
  (h:∀D,H1 D=none->∃W:Nat->Nat->List V->Hp->Prop,
   (∃m,W 0 m [] (upd H1 D (.lst [])))/\∀i m ys H2,W i m ys H2->H2 D=some (.lst ys) /\
   ((J.stop i H2 /\ Q (.ref D) H2) \/ (J.go i H2 /\ ∀ x H3,J.yld i H2 x H3 -> tt (some x :: σ) H3 fun ok H4 => if ok = true then
     te (some x::σ) H4 (fun y H5=>H5 D=some (.lst ys)/\ys.length<j7/\∃m',m'<m/\W (i+1) m' (ys++[y]) (upd H5 D (.lst (ys++[y]))))
     else ∃m',m'<m/\W (i+1) m' ys H4)))
  (hRR:∀D C s' H' m,Inv X pins σ H' s'->s'.heap.Ns C m->H' C=none->C≠X.env.locals->X.s₀.heap.objs.size<=C->(∀y c,X.env.cells.lookup y=some c->c≠C)->(∀p∈X.pn++pins,p.1≠C)->Q (.ref D) H'->RR (.ref D) C (.ok .next) s') :
  wpAny (model X.prog X.w) X.A (newList []) (fun acc s₃=>wpAny (model X.prog X.w) X.A (newFunctionEnv scope X.env.globals cl [] X.env.qual none .none (some X.env)) (fun cenv s₄=>
   a3U (model X.prog X.w) X.A (.compStart (.ListComp elt [⟨.Name x px,iter,ifs,0⟩] scope pos) 0 (.ref it) acc { cenv with scope:=a8M scope X.env }) (RR acc cenv.locals) s₄) E s₃) E s2:=by
 refine a0C (hd:=by size_fits) ?_
 have I3:=I.lnew (ys:=[]) (its:=[]) (t':=s2.toks) .nil (by show 0<=j7;exact K6 _)
 obtain⟨W,⟨m0,w0⟩,turn⟩:=h _ I.fresh
 generalize hD:s2.heap.objs.size=D at I3 w0 turn ⊢
 generalize hs3:({ s2 with heap:=s2.heap.push { cls:=.type "list",data:=.seq ([]:List Value).toArray } }:d4)=s3
 have hs3':({ s2 with heap:=s2.heap.push { cls:=.type "list",data:=.seq ([]:List Value).toArray },toks:=s2.toks }:d4)=s3:=hs3
 rw[hs3']at I3
 have keep3:∀b o,s2.heap.get? b=some o->s3.heap.get? b=some o:=fun b o e=>by rw[<-hs3];exact d7 _ e
 have fpl:∀b∈fp,b<s3.heap.objs.size:=fun b hb=>by
  obtain⟨o,e,_⟩:=T.obj _ _ st b hb
  exact h9 (keep3 b o e)
 have fpD:∀b∈fp,b≠D:=fun b hb z=>by
  obtain⟨o,e,_⟩:=T.obj _ _ st b hb
  exact absurd (h9 e) (by rw[z,hD];exact E8 _)
 have fpo3:∀b∈fp,a1K X pins (upd H1 D (.lst [])) b:=fun b hb=>⟨by rw[g7 (fpD b hb)];exact(fpo b hb).1,(fpo b hb).2⟩
 show wpAny _ _ _ _ _ s3
 refine d2Z hc.cell (by intro y hy;simp at hy) (fun h₁ hns₁ hsb₁=>?_) hc.kind
 dsimp only[newEnv]at hns₁ hsb₁ ⊢
 have keep4:∀b o,s3.heap.get? b=some o->h₁.get? b=some o:=fun b o e=>hsb₁.extBut b o (z5 (h9 e)) (d7 _ e)
 have I4:=c5n (tk:=s3.toks+([]:List (Str×Value)).length) hc I3 hcl hcl2 fpo3 fpl hns₁ keep4
 have st4:tn 0 h₁:=T.keep _ _ _ st fun b hb o e=>keep4 b o (keep3 b o e)
 have loop:∀s₄:d4,s₄={ s3 with heap:=h₁,toks:=s3.toks+([]:List (Str×Value)).length } ->
   a3U (model X.prog X.w) X.A (.compLoop (.ListComp elt [⟨.Name x px,iter,ifs,0⟩] scope pos) 0 (.ref it) (.ref D) (c2E scope cl s3.heap.objs.size X.env)) (RR (.ref D) s3.heap.objs.size) s₄:=by
  rintro s₄ rfl
  have stat:∀ {H':Hp},(∀b∈fp,H' b=none)->∀b∈fp,a1K (X4 X scope cl s3.heap.objs.size x fp s3 (upd H1 D (.lst []))) [] H' b:=fun hn b hb=>
   ⟨hn b hb,z5 (fpl b hb),fun hf=>by
    rcases c5.mp (I3.stkSub b hf)with e | e
    ·exact(fpo b hb).2.1 e
    ·exact(fpo b hb).2.2.1 e,.inl hb,fun y c e=>(fpo b hb).2.2.2.2.1 y c (hcl y c e),fun p hp=>absurd (show p∈([]:List (Addr×Obj))from hp) (by simp)⟩
  refine b3r (env:=c2E scope cl s3.heap.objs.size X.env) (fun n s'=>∃i ys H',Inv (X4 X scope cl s3.heap.objs.size x fp s3 (upd H1 D (.lst []))) [] (none::σ) H' s'/\tn i s'.heap/\(∀b∈fp,H' b=none)/\W i n ys H') ?_ m0
   ⟨0,[],_,I4,st4,fun b hb=>(fpo3 b hb).1,w0⟩
  rintro n s5 ⟨i,ys,H5,I5,st5,fr5,w5⟩
  obtain⟨hDy,alt⟩:=turn i n ys H5 w5
  rcases alt with ⟨stop,q⟩ | ⟨go,step⟩
  ·refine Q7 (T.done (X4 X scope cl s3.heap.objs.size x fp s3 (upd H1 D (.lst []))) rfl rfl rfl hcalm i [] s5 _ H5 (fun _ _=>False) I5 (stat fr5) st5 stop) (fun r s6 ⟨hr,I6⟩=>?_) fun _ _ f=>f
   subst hr
   obtain⟨m6,n6,_⟩:=I6.loc
   have J6:Inv X pins σ H5 s6:=by
    refine I3.call' (ch:=fp) I6.os I6.base I6.hok I6.bare fun b hb=>?_
    obtain⟨_,f1,f2,f3,f4,f5⟩:=fpo3 b hb
    exact⟨f3,f1,f4,f5⟩
   refine hRR D _ s6 H5 m6 J6 n6 I6.free (a4f I3.lt) I3.sz (fun y c e z=>?_) (fun p hp z=>?_) q
   ·obtain⟨v,q⟩:=I3.cell y c e
    exact absurd q.lt (by rw[z];exact E8 _)
   ·exact absurd (h9 (I3.pin p hp).1) (by rw[z];exact E8 _)
  ·refine Q7 (T.item (X4 X scope cl s3.heap.objs.size x fp s3 (upd H1 D (.lst []))) rfl rfl rfl hcalm i [] s5 _ H5 (fun _ _=>False) I5 (stat fr5) st5 go) (fun r s6 ⟨u,hr,h6⟩=>?_) fun _ _ f=>f
   subst hr
   refine thn h6 fun _ s6 ⟨xv,H6,I6,r6,y6,st6,fr6⟩=>?_
   have I6':=I6.pinned (stat fr6) (T.obj _ _ st6)
   refine b7r (a5N (i:=0) I6' ?nd rfl (.inl ?loc) r6 (fun s7 I7=>?_) (.inr ?loc))
   case nd=>exact hc.nd
   case loc=>exact a2o hc.own
   have I7:Inv (X4 X scope cl s3.heap.objs.size x fp s3 (upd H1 D (.lst []))) ([]++a7s fp s6.heap) (some xv::σ) H6 s7:=I7
   have again:∀ {s8:d4} {H8:Hp} {ys8:List V},Inv (X4 X scope cl s3.heap.objs.size x fp s3 (upd H1 D (.lst []))) ([]++a7s fp s6.heap) (some xv::σ) H8 s8->(∃m',m'<n/\W (i+1) m' ys8 H8) ->
     ∃m,m<n/\∃i ys H',Inv (X4 X scope cl s3.heap.objs.size x fp s3 (upd H1 D (.lst []))) [] (none::σ) H' s8/\tn i s8.heap/\(∀b∈fp,H' b=none)/\W i m ys H':=by
    rintro s8 H8 ys8 I8 ⟨m',hm,w8⟩
    refine⟨m',hm,i+1,ys8,H8,(I8.unpinned (pins:=[])).weak rfl (fun j v e=>?_),T.keep _ _ _ st6 fun b hb o e=>(I8.pin (b,o) (t9 _ (t9 _ (a2t hb e)))).1,fun b hb=>?_,w8⟩
    ·cases j with
     | zero=>cases e
     | succ j=>exact e
    ·obtain⟨o,e,d⟩:=T.obj _ _ st6 b hb
     exact(I8.pin (b,o) (t9 _ (t9 _ (a2t hb e)))).2.1
   refine thn (ht _ fp s3 _ _ s7 _ H6 _ I7 (step xv H6 y6)) (fun ok s8 ⟨H8,I8,q8⟩=>?_)
   cases ok with
   | false=>exact again I8 (by simpa using q8)
   | true=>
    rw[if_pos rfl]at q8
    rw[if_pos rfl]
    refine thn (he _ fp s3 _ _ s8 _ H8 _ I8 q8) (fun v s9 ⟨y,H9,I9,r9,hD9,hz9,w9⟩=>?_)
    refine Q7 (a9s (X:=X4 X scope cl s3.heap.objs.size x fp s3 (upd H1 D (.lst []))) _ s9 _ H9 (.ref D) [y] (.ref D) [v] (fun _ H'=>H'=upd H9 D (.lst (ys++[y]))) I9 rfl (.cons r9 .nil) ⟨D,ys,y,rfl,rfl,hD9,hz9,rfl⟩) (fun _ s10 ⟨_,H10,I10,_,e10⟩=>?_) fun _ _ f=>f
    subst e10
    exact again I10 w9
 exact d1s (loop _ rfl) (T.self X.A 0 _ _ _ st4 (loop _ rfl))
theorem b1Z(hc:Q1 X.N X.env.scope scope x)(I:Inv X pins σ H s):∀y∈scope.names,y.2=.free->∃c,X.env.cells.lookup y.1=some c:=by
 intro y hy e
 rcases hc.fr y hy e with q | q
 ·exact I.ok.has y.1 (.inl q)
 ·exact I.ok.has y.1 (.inr q)
theorem c6W{wi:TI}(hc:Q1 X.N X.env.scope scope x)(hcalm:X.calm=true)(hi:PI X (.Name x px) iter wi)
  (ht:∀cl C fp s3 H3,PTs (X4 X scope cl C x fp s3 H3) ifs tt) (he:∀cl C fp s3 H3,PE (X4 X scope cl C x fp s3 H3) elt te)
  (hs:∀x,Y7 iter X.env x=pure x:=by intro _;rfl) :
  PE X (.ListComp elt [⟨.Name x px,iter,ifs,0⟩] scope pos) (T5 wi tt te):=by
 intro pins s σ H Q I h
 obtain⟨cl,hclos,hcl,hcl2⟩:=a7F (b1Z hc I)
 rw[eval_ListComp]
 refine a7L (use:=none) rfl hs hclos hc.kind hc.names (thn (hi pins s σ H _ I h) fun v s1 h1=>thn h1 fun itv s2 ⟨it,fp,tn,J,H2,e,I2,T,st,fpo,R⟩=>?_)
 subst e
 refine b2a (RR:=fun acc C=>compPost (model X.prog X.w) X.A X.xe none (EP X pins σ Q) acc C) (Q:=Q) hc hcalm hcl hcl2 (ht cl) (he cl) I2 T st fpo R ?_
 intro D C s' H' m I' n f1 f2 f3 f4 f5 q
 exact⟨m,n,fun h' sb=>⟨.ref D,H',I'.turned (t':=s'.toks) (fun b o hb e=>(sb.2 b hb).trans e) f1 f2 (.inr f3) f4 f5,rfl,q⟩⟩
theorem b8e{wi:TI}{i:Nat}{y:Str}{py spos:Pos}(hN:X.N.Nodup)(hiy:X.N[i]? = some y)(hy:X.env.scope.names.lookup y=some .local)(hc:Q1 X.N X.env.scope scope x)(hcalm:X.calm=true)(hi:PI X (.Name x px) iter wi)
  (ht:∀cl C fp s3 H3,PTs (X4 X scope cl C x fp s3 H3) ifs tt) (he:∀cl C fp s3 H3,PE (X4 X scope cl C x fp s3 H3) elt te)
  (hsw:a1O (.ListComp elt [⟨.Name x px,iter,ifs,0⟩] scope pos) (some (.Name y py)) spos.line X.env=pure true:=by rfl)
  (hs:∀x,Y7 iter X.env x=pure x:=by intro _;rfl) :
  PS X (.Assign [.Name y py] (.ListComp elt [⟨.Name x px,iter,ifs,0⟩] scope pos) spos) (fun D σ H=>T5 wi tt te σ H fun v H1=>D.nx (σ.set i (some v)) H1):=by
 intro pins s σ H D I h
 obtain⟨cl,hclos,hcl,hcl2⟩:=a7F (b1Z hc I)
 rw[exec_Assign_Name_used _ _ _ _ hsw]
 refine d8 (a3k (d8 ?_))
 show wpAny _ X.A (do let _ <-comprehension (.ListComp elt [⟨.Name x px,iter,ifs,0⟩] scope pos) scope X.env _ (newList []) false (eval iter X.env) (some (b2M (.Name y py) X.env))) _ _ s
 refine d8 (Q7 (a7L (use:=some (b2M (.Name y py) X.env)) (Q:=fun _ s'=>SP X pins D .next s') rfl hs hclos hc.kind hc.names
  (thn (hi pins s σ H _ I h) fun v s1 h1=>thn h1 fun itv s2 ⟨it,fp,tn,J,H2,e,I2,T,st,fpo,R⟩=>?_)) (fun _ s' hq=>A0 (A0 hq)) fun _ _ e=>e)
 subst e
 refine b2a (RR:=fun acc C=>compPost (model X.prog X.w) X.A X.xe (some (b2M (.Name y py) X.env)) (fun _ s'=>SP X pins D .next s') acc C) (Q:=fun v H1=>D.nx (σ.set i (some v)) H1) hc hcalm hcl hcl2 (ht cl) (he cl) I2 T st fpo R ?_
 intro E C s' H' m I' n f1 f2 f3 f4 f5 q
 show wpAny _ _ (b2M (.Name y py) X.env (.ref E)) _ _ _
 refine b7r (b2Z (v:=.ref E) I' hN hiy (.inl hy) rfl (fun s'' I'' ch=>?_) (.inr hy))
 obtain⟨a,sb,ha⟩:=ch
 have hCa:C≠a:=by
  rcases ha with e | e
  ·rw[e];exact f2
  ·exact fun z=>f4 y a e z.symm
 exact⟨m,n.sameBut sb hCa,fun h' sb'=>⟨_,_,I''.turned (t':=s''.toks) (fun b o hb e=>(sb'.2 b hb).trans e) f1 f2 (.inr f3) f4 f5,q⟩⟩
end
section
theorem OpR.imp{f:Value->Value->Sem Value}{r r':R2}(h:OpR X f r)(i:∀x y H Q,r' x y H Q->r x y H Q):OpR X f r':=fun pins s σ H x y u v Q I rx ry q=>h pins s σ H x y u v Q I rx ry (i _ _ _ _ q)
theorem W9.imp{f:Value}{r r':List V->Hp->VK->Prop}(h:W9 X f r)(i:∀xs H Q,r' xs H Q->r xs H Q):W9 X f r':=fun pins s σ H xs us Q I rx q=>h pins s σ H xs us Q I rx (i _ _ _ q)
theorem IxR.imp{r r':R2}(h:IxR X r)(i:∀x y H Q,r' x y H Q->r x y H Q):IxR X r':=by
 intro value slice pins s σ H x y v u Q I rx ry q hs
 exact h value slice pins s σ H x y v u Q I rx ry (i _ _ _ _ q) hs
theorem SlR.imp{r r':V->Option Int->Option Int->Hp->VK->Prop}(h:SlR X r)(i:∀x lo hi H Q,r' x lo hi H Q->r x lo hi H Q):SlR X r':=fun pins s σ H x v vl vu lo hi sl Q I rx hs pl pu q=>h pins s σ H x v vl vu lo hi sl Q I rx hs pl pu (i _ _ _ _ _ q)
def T9:R2:=fun x y H Q=>match x,y with
 | .int i,.int j=>Q (.int (i+j)) H
 | .str i,.str j=>i.length+j.length<=j7/\Q (.str (i++j)) H
 | .ref a,.ref b=>match H a,H b with
  | some (.lst xs),some (.lst ys)=>xs.length+ys.length<=j7/\∀p,H p=none->Q (.ref p) (upd H p (.lst (xs++ys)))
  | _,_=>False
 | _,_=>False
theorem c7k:OpR X (V6 .Add) T9:=by
 refine(d0s.or (b8n.or d0r)).imp fun x y H Q h=>?_
 unfold T9 at h
 split at h
 ·exact .inl ⟨_,_,rfl,rfl,h⟩
 ·exact .inr (.inl ⟨_,_,rfl,rfl,h.1,h.2⟩)
 ·split at h
  ·exact .inr (.inr ⟨_,_,_,_,rfl,rfl,by assumption,by assumption,h.1,h.2⟩)
  ·exact h.elim
 ·exact h.elim
def q2I(C:Int->Int->Prop)(g:Int->Int->V):R2:=fun x y H Q=>match x,y with
 | .int i,.int j=>C i j/\Q (g i j) H
 | _,_=>False
def b6c(g:Int->Int->V):R2:=fun x y H Q=>match x,y with
 | .int i,.int j=>Q (g i j) H
 | _,_=>False
theorem b4f{f:Value->Value->Sem Value}{C:Int->Int->Prop}{g:Int->Int->V}(h:OpR X f (rI C g)):OpR X f (q2I C g):=h.imp fun x y H Q q=>by
 unfold q2I at q
 split at q
 ·exact⟨_,_,rfl,rfl,q.1,q.2⟩
 ·exact q.elim
theorem a8o{f:Value->Value->Sem Value}{g:Int->Int->V}(h:OpR X f (rI0 g)):OpR X f (b6c g):=h.imp fun x y H Q q=>by
 unfold b6c at q
 split at q
 ·exact⟨_,_,rfl,rfl,q⟩
 ·exact q.elim
abbrev b6a:R2:=b6c fun i j=>.int (i - j)
abbrev b6b:R2:=q2I c8m fun i j=>.int (i * j)
abbrev b2w:R2:=q2I (fun _ j=>0<j) fun i j=>.int (i % j)
abbrev c9y:R2:=q2I d2R fun i j=>.int (i ^ j.toNat)
abbrev c6A:R2:=q2I (fun _ j=>0<j/\j<2 ^ 64) fun i j=>.int (i / j)
abbrev qLt:R2:=b6c fun i j=>.bl (decide (i<j))
abbrev qLe:R2:=b6c fun i j=>.bl (decide (i<=j))
abbrev qGt:R2:=b6c fun i j=>.bl (decide (j<i))
abbrev qGe:R2:=b6c fun i j=>.bl (decide (j<=i))
theorem c7c:OpR X (V6 .Sub) b6a:=a8o d0e
theorem c7e:OpR X (V6 .Mult) b6b:=b4f d0o
theorem c7f:OpR X (V6 .Mod) b2w:=b4f d0p
theorem c7d:OpR X (V6 .Pow) c9y:=b4f d0n
theorem c7j:OpR X (V6 .FloorDiv) c6A:=b4f (opI fun i j _ _ _ _ _ hc q=>by
 have hl:j.natAbs.log2<9000:=by
  have:j.natAbs<2 ^ 64:=by have:=hc.1;have:=hc.2;omega
  by_cases h0:j.natAbs=0
  ·rw[h0];decide +kernel
  ·exact c2z ((Nat.log2_lt h0).mpr this) (by decide)
 refine floordiv_int (by omega) ?_ (.inl (PyProof.noPylong_of_log2 hl))
 rw[Int.fdiv_eq_ediv_of_nonneg _ (by omega)]
 exact q)
theorem d0g:OpR X (z8 .Lt) qLt:=a8o d2p
theorem d0h:OpR X (z8 .LtE) qLe:=a8o d2q
theorem d0k:OpR X (z8 .Gt) qGt:=a8o d2r
theorem d0l:OpR X (z8 .GtE) qGe:=a8o d2s
def qIx:R2:=fun x y H Q=>match x,y with
 | .ref p,.int i=>match H p with
  | some (.lst xs)=>∃v,atI xs i=some v/\Q v H
  | some (.tup xs)=>∃v,atI xs i=some v/\Q v H
  | _=>False
 | .str z,.int i=>z.length<=j7/\∃c,atI z.cps.toList i=some c/\Q (.str ⟨#[c]⟩) H
 | _,_=>False
theorem d3t:IxR X qIx:=d0Q.imp fun x y H Q h=>by
 unfold qIx at h
 split at h
 ·split at h
  ·obtain⟨v,e,q⟩:=h
   exact .inl ⟨_,_,_,v,rfl,rfl,SqL.of (by assumption),e,q⟩
  ·obtain⟨v,e,q⟩:=h
   exact .inr (.inl ⟨_,_,_,v,rfl,rfl,SqT.of (by assumption),e,q⟩)
  ·exact h.elim
 ·obtain⟨z,c,e,q⟩:=h
  exact .inr (.inr ⟨_,_,c,rfl,rfl,z,e,q⟩)
 ·exact h.elim
def qSl:V->Option Int->Option Int->Hp->VK->Prop:=fun x lo hi H Q=>match x with
 | .ref a=>match H a with
  | some (.lst xs)=>∀p,H p=none->Q (.ref p) (upd H p (.lst (a1J xs lo hi)))
  | some (.tup xs)=>¬(HT.sIx xs.length 0 lo=0/\HT.sIx xs.length xs.length hi=xs.length)/\∀p,H p=none->Q (.ref p) (upd H p (.tup (a1J xs lo hi)))
  | _=>False
 | _=>False
theorem d3d:SlR X qSl:=(b9B.or c8Z).imp fun x lo hi H Q h=>by
 unfold qSl at h
 split at h
 ·split at h
  ·exact .inl ⟨_,_,rfl,SqL.of (by assumption),h⟩
  ·exact .inr ⟨_,_,rfl,SqT.of (by assumption),h.1,h.2⟩
  ·exact h.elim
 ·exact h.elim
def R0:List V->Hp->VK->Prop:=fun xs H Q=>match xs with
 | [.ref p]=>match H p with
  | some (.lst ys)=>Q (.int ys.length) H
  | some (.tup ys)=>Q (.int ys.length) H
  | _=>False
 | [.str z]=>z.length<=j7/\Q (.int z.length) H
 | _=>False
theorem c2i:W9 X (.builtin "len") R0:=(b4N.or b4M).imp fun xs H Q h=>by
 unfold R0 at h
 split at h
 ·split at h
  ·exact .inl ⟨_,_,rfl,.inl (SqL.of (by assumption)),h⟩
  ·exact .inl ⟨_,_,rfl,.inr (SqT.of (by assumption)),h⟩
  ·exact h.elim
 ·exact .inr ⟨_,rfl,h.1,h.2⟩
 ·exact h.elim
def c3Z:List V->Hp->VK->Prop:=fun xs H Q=>match xs with
 | [.int i]=>Q (.int (if i<0 then -i else i)) H
 | _=>False
theorem c2m:W9 X (.builtin "abs") c3Z:=c5r.imp fun xs H Q h=>by
 unfold c3Z at h
 split at h
 ·exact⟨_,rfl,h⟩
 ·exact h.elim
def b4d:V->V->V->Hp->(Hp->Prop)->Prop:=fun o i v H Q=>match o,i with
 | .ref p,.int k=>match H p with
  | some (.lst xs)=>∃j,ixN xs.length k=some j/\Q (upd H p (.lst (xs.set j v)))
  | _=>False
 | _,_=>False
theorem d1K:c5B X b4d:=by
 intro pins s σ H o i v u1 u2 u3 Q I r1 r2 r3 h
 refine c3y pins s σ H o i v u1 u2 u3 Q I r1 r2 r3 ?_
 unfold b4d at h
 split at h
 ·split at h
  ·obtain⟨j,e,q⟩:=h
   exact⟨_,_,_,j,rfl,rfl,by assumption,e,q⟩
  ·exact h.elim
 ·exact h.elim
def a2u(xs ys:List V):Bool:=(l6 (min xs.length ys.length)).all (fun j=>eqV (xs.getD j .non) (ys.getD j .non))&&xs.length == ys.length
def eqO(x y:V)(H:Hp):Option Bool:=if b5M x y=true then some (decide (x=y))else match x,y with
 | .ref a,.ref b=>match H a,H b with
  | some (.tup xs),some (.tup ys)=>if xs.all K8=true/\ys.all K8=true then some (a2u xs ys)else none
  | some (.lst xs),some (.lst ys)=>if xs.all K8=true/\ys.all K8=true then some (a2u xs ys)else none
  | _,_=>none
 | .non,.ref a=>match H a with
  | some (.tup _)=>some false
  | _=>none
 | .ref a,.non=>match H a with
  | some (.tup _)=>some false
  | _=>none
 | _,_=>none
def qEq:R2:=fun x y H Q=>∃b,eqO x y H=some b/\Q (.bl b) H
def qNe:R2:=fun x y H Q=>∃b,eqO x y H=some b/\Q (.bl (!b)) H
theorem a8w{A:F3}{ys:List V}{ws:List Value}(rx:J0 xs us)(ry:J0 ys ws)(fx:xs.all K8=true)(fy:ys.all K8=true) :
  ∀j (h1:j<us.toArray.size) (h2:j<ws.toArray.size),SeqAt.EqAt A s us.toArray[j] ws.toArray[j] (eqV (xs.getD j .non) (ys.getD j .non)):=by
 intro j h1 h2
 have l1:=rx.length
 have l2:=ry.length
 have h1':j<us.length:=by simpa using h1
 have h2':j<ws.length:=by simpa using h2
 have e1:xs[j]? = some (xs[j]'(by omega)):=by simp
 have e2:ys[j]? = some (ys[j]'(by omega)):=by simp
 obtain⟨u,hu,ru⟩:=rx.get e1
 obtain⟨w,hw,rw'⟩:=ry.get e2
 have z1:us.toArray[j]=u:=by
  have:us[j]? = some us[j]:=by simp
  rw[this]at hu
  simpa using hu
 have z2:ws.toArray[j]=w:=by
  have:ws[j]? = some ws[j]:=by simp
  rw[this]at hw
  simpa using hw
 rw[z1,z2]
 have g1:xs.getD j .non=xs[j]'(by omega):=by simp[M5,e1]
 have g2:ys.getD j .non=ys[j]'(by omega):=by simp[M5,e2]
 rw[g1,g2]
 exact b8W ru rw' (p9.mp fx _ (G0 _)) (p9.mp fy _ (G0 _))
theorem c8E{x y:V}{v:Value}{k:Bool}(I:Inv X pins σ H s)(hu:X.A.units<cLine)(rx:F1 x v)(ry:F1 y u)(hs:¬b5M x y=true)(e:eqO x y H=some k) :
  SeqAt.RcAt X.A s v u k/\SeqAt.RcNeAt X.A s v u (!k):=by
 unfold eqO at e
 rw[if_neg hs]at e
 split at e
 ·rename_i a b
  cases rx
  cases ry
  split at e
  ·rename_i xs ys ha hb
   split at e
   ·rename_i hf
    cases e
    obtain⟨us,r1,t1,_⟩:=I.tuple (SqT.of ha)
    obtain⟨ws,r2,t2,_⟩:=I.tuple (SqT.of hb)
    have l1:=r1.length
    have l2:=r2.length
    have q1:=SeqAt.RcAt.tuples (A:=X.A) t1 t2 hu (a8w r1 r2 hf.1 hf.2)
    have q2:=SeqAt.RcNeAt.tuples (A:=X.A) t1 t2 hu (a8w r1 r2 hf.1 hf.2)
    simp only[j6,<-l1,<-l2]at q1 q2
    exact⟨q1,q2⟩
   ·cases e
  ·rename_i xs ys ha hb
   split at e
   ·rename_i hf
    cases e
    obtain⟨us,r1,t1,_⟩:=I.list (SqL.of ha)
    obtain⟨ws,r2,t2,_⟩:=I.list (SqL.of hb)
    have l1:=r1.length
    have l2:=r2.length
    by_cases hl:us.toArray.size=ws.toArray.size
    ·have q1:=SeqAt.RcAt.lists (A:=X.A) t1.isList t2.isList hl hu (a8w r1 r2 hf.1 hf.2)
     have q2:=SeqAt.RcNeAt.lists (A:=X.A) t1.isList t2.isList hl hu (a8w r1 r2 hf.1 hf.2)
     have hl':xs.length=ys.length:=by simpa[<-l1,<-l2]using hl
     have ef:a2u xs ys=(l6 us.toArray.size).all fun j=>eqV (xs.getD j .non) (ys.getD j .non):=by
      unfold a2u
      rw[hl',Nat.min_self,j6,<-l1,hl']
      simp
     rw[ef]
     exact⟨q1,q2⟩
    ·have hl2:(us.toArray.size != ws.toArray.size)=true:=by simpa using hl
     have q1:=SeqAt.RcAt.lists_lengths (A:=X.A) t1.isList t2.isList hl2 hu
     have q2:=SeqAt.RcNeAt.lists_lengths (A:=X.A) t1.isList t2.isList hl2 hu
     have ef:a2u xs ys=false:=by
      unfold a2u
      have:¬xs.length=ys.length:=by simpa[<-l1,<-l2]using hl
      simp[this]
     rw[ef]
     exact⟨q1,q2⟩
   ·cases e
  ·cases e
 ·cases rx
  cases ry
  split at e
  ·cases e
   obtain⟨us,_,t1,_⟩:=I.tuple (SqT.of (by assumption))
   exact⟨SeqAt.RcAt.none_tuple t1 hu,SeqAt.RcNeAt.none_tuple t1 hu⟩
  ·cases e
 ·cases rx
  cases ry
  split at e
  ·cases e
   obtain⟨us,_,t1,_⟩:=I.tuple (SqT.of (by assumption))
   exact⟨SeqAt.RcAt.tuple_none t1 hu,SeqAt.RcNeAt.tuple_none t1 hu⟩
  ·cases e
 ·cases e
theorem d0m(hu:X.A.units<cLine):OpR X (z8 .Eq) qEq:=by
 intro pins s σ H x y v u Q I rx ry h
 obtain⟨k,e,q⟩:=h
 by_cases hs:b5M x y=true
 ·unfold eqO at e
  rw[if_pos hs]at e
  cases e
  exact d2t pins s σ H x y v u Q I rx ry ⟨hs,q⟩
 ·exact(c8E I hu rx ry hs e).1 _ _ _ _ ⟨.bl k,H,I,rfl,q⟩
theorem d0f(hu:X.A.units<cLine):OpR X (z8 .NotEq) qNe:=by
 intro pins s σ H x y v u Q I rx ry h
 obtain⟨k,e,q⟩:=h
 by_cases hs:b5M x y=true
 ·unfold eqO at e
  rw[if_pos hs]at e
  cases e
  exact d2o pins s σ H x y v u Q I rx ry ⟨hs,q⟩
 ·exact(c8E I hu rx ry hs e).2 _ _ _ _ ⟨.bl (!k),H,I,rfl,q⟩
def qIn(neg:Bool):R2:=fun x y H Q=>match x,y with
 | .str i,.str j=>Q (.bl (if neg then !(!(Builtin.Str.occurrences j i 0 j.length 1).isEmpty)else !(Builtin.Str.occurrences j i 0 j.length 1).isEmpty)) H
 | x,.ref p=>match H p with
  | some (.lst xs)=>K8 x=true/\xs.all K8=true/\Q (.bl (if neg then !inV x xs else inV x xs)) H
  | some (.tup xs)=>K8 x=true/\xs.all K8=true/\Q (.bl (if neg then !inV x xs else inV x xs)) H
  | _=>False
 | _,_=>False
theorem d0j:OpR X (z8 .In) (qIn false):=(c1A.or b3f).imp fun x y H Q h=>by
 unfold qIn at h
 split at h
 ·exact .inl ⟨_,_,rfl,rfl,h⟩
 ·split at h
  ·exact .inr ⟨_,_,rfl,.inl (SqL.of (by assumption)),h.1,h.2.1,h.2.2⟩
  ·exact .inr ⟨_,_,rfl,.inr (SqT.of (by assumption)),h.1,h.2.1,h.2.2⟩
  ·exact h.elim
 ·exact h.elim
theorem c1z:OpR X (z8 .NotIn) (qIn true):=(b4m.or b4n).imp fun x y H Q h=>by
 unfold qIn at h
 split at h
 ·exact .inl ⟨_,_,rfl,rfl,h⟩
 ·split at h
  ·exact .inr ⟨_,_,rfl,.inl (SqL.of (by assumption)),h.1,h.2.1,h.2.2⟩
  ·exact .inr ⟨_,_,rfl,.inr (SqT.of (by assumption)),h.1,h.2.1,h.2.2⟩
  ·exact h.elim
 ·exact h.elim
def a1q:V->List V->Hp->VK->Prop:=fun x vs H Q=>match x,vs with
 | .ref l,[y]=>match H l with
  | some (.lst xs)=>xs.length<j7/\Q .non (upd H l (.lst (xs++[y])))
  | _=>False
 | _,_=>False
theorem b8z:MtR X "list.append" a1q:=fun pins s σ H x xs v us Q I rx rv h=>by
 refine a9s pins s σ H x xs v us Q I rx rv ?_
 unfold a1q at h
 split at h
 ·split at h
  ·exact⟨_,_,_,rfl,rfl,by assumption,h.1,h.2⟩
  ·exact h.elim
 ·exact h.elim
def a3v:List V->Option (List Str)
 | []=>some []
 | .str s::r=>(a3v r).map (s :: ·)
 | _=>none
theorem a3u(ss:List Str):a3v (ss.map V.str)=some ss:=by
 induction ss with
 | nil=>rfl
 | cons s r ih=>simp[a3v,ih]
theorem b0Y:∀ {xs:List V} {us:List Value} {ss:List Str},J0 xs us->a3v xs=some ss->StrsAre us ss
 | _,_,ss,.nil,e=>by cases e;exact .nil
 | x::xs,_,ss,.cons r t,e=>by
  cases x with
  | str s=>
   obtain⟨k,rfl⟩:=r
   cases e2:a3v xs with
   | none=>simp[a3v,e2]at e
   | some ss2=>
    simp[a3v,e2]at e
    subst e
    exact .cons _ _ (b0Y t e2)
  | _=>simp[a3v]at e
def a5n:V->List V->Hp->VK->Prop:=fun x vs H Q=>match x,vs with
 | .str x,[.ref l]=>match H l with
  | some (.lst xs)=>∃ss,a3v xs=some ss/\(ss.map (·.length)).sum+ss.length * x.length<=16777216/\Q (.str (Txt.join x ss)) H
  | _=>False
 | _,_=>False
theorem c4I:MtR X "str.join" a5n:=fun pins s σ H x xs v us Q I rx rv h=>by
 unfold a5n at h
 split at h
 ·split at h
  ·obtain⟨ss,e,hk,q⟩:=h
   obtain⟨t,rfl⟩:=rx
   obtain⟨u,rfl,ru⟩:=rv.one
   cases ru
   obtain⟨its,r,p,hz⟩:=I.list (SqL.of (by assumption))
   exact join_list p.isList (b0Y r e) hk fun t' k=>⟨.str _,H,I.tok _,⟨_,rfl⟩,q⟩
  ·exact h.elim
 ·exact h.elim
def J9(x:V)(H:Hp):Option String:=match x with
 | .non=>some "NoneType"
 | .bl _=>some "bool"
 | .int _=>some "int"
 | .str _=>some "str"
 | .ref a=>match H a with
  | some (.lst _)=>some "list"
  | some (.tup _)=>some "tuple"
  | some (.dK _)=>some "dict"
  | some (.dT _)=>some "dict"
  | _=>none
 | _=>none
def a4c(t c:String):Bool:=t == c||(t == "bool" && c == "int")
def a9u:List String:=["int","bool","str","list","tuple","dict"]
theorem d0J(K:Fg):∀t ∈ "NoneType" :: a9u,∀c∈a9u,P6 K (.type t) (.type c)=some (a4c t c):=by
 intro t ht c hc
 simp only[a9u,c5,p8,or_false]at ht hc
 rcases ht with rfl | rfl | rfl | rfl | rfl | rfl | rfl <;> rcases hc with rfl | rfl | rfl | rfl | rfl | rfl <;> kernel_rfl
theorem d1H{K:Fg}{x:V}{t:String}(h:J9 x H=some t):a9B K H x (.type t)/\t ∈ "NoneType" :: a9u:=by
 unfold J9 at h
 split at h
 ·cases h;exact⟨.non,by decide⟩
 ·cases h;exact⟨.bl _,by decide⟩
 ·cases h;exact⟨.int _,by decide⟩
 ·cases h;exact⟨.str _,by decide⟩
 ·split at h
  ·cases h;exact⟨.lst (by assumption),by decide⟩
  ·cases h;exact⟨.tup (by assumption),by decide⟩
  ·cases h;exact⟨.dK (by assumption),by decide⟩
  ·cases h;exact⟨.dT (by assumption),by decide⟩
  ·cases h
 ·cases h
def a4V:List V->Hp->VK->Prop:=fun xs H Q=>match xs with
 | [x,.ty c]=>∃t,J9 x H=some t/\c∈a9u/\Q (.bl (a4c t c)) H
 | _=>False
theorem c2j:W9 X (.builtin "isinstance") a4V:=fun pins s σ H xs us Q I r h=>by
 unfold a4V at h
 split at h
 ·obtain⟨t,e,hc,q⟩:=h
  obtain⟨u,u2,rfl,ru,ru2⟩:=b9r r
  cases ru2
  obtain⟨ty,ht⟩:=d1H (K:=X.K) e
  exact c1S I ru ty (d0J X.K t ht _ hc) fun tk=>⟨.bl _,H,I.tok _,rfl,q⟩
 ·exact h.elim
def c1r:V->V->Hp->VK->Prop:=fun x y H Q=>match x,y with
 | .ref p,.int i=>match H p with
  | some (.lst xs)=>0<=i/\∃v,xs[i.toNat]? = some v/\Q v H
  | _=>False
 | _,_=>False
theorem d2C:d1g X c1r:=fun pins s σ H o i ov iv Q I r1 r2 h=>by
 unfold c1r at h
 split at h
 ·split at h
  ·obtain⟨h0,v,e,q⟩:=h
   cases r1
   obtain⟨t,rfl⟩:=r2
   obtain⟨its,r,pl,hz⟩:=I.list (SqL.of (by assumption))
   obtain⟨u,eu,ru⟩:=r.get e
   have hl:=(o7.mp e).1
   have hn:=a7C
   exact wpAny_getItem_list pl.isList h0 (by omega) (by simpa using eu) ⟨v,H,I,ru,q⟩
  ·exact h.elim
 ·exact h.elim
def qIs:R2:=fun x y H Q=>y=.non/\Q (.bl (decide (x=.non))) H
theorem d0i:OpR X (z8 .Is) qIs:=d0q
structure F6(P:v8)(w:World)(K:Fg)(mg:Str->Option Value)(base:Heap)(k:Nat)(x:Str)(ps:List Str)(sp:Sp):Prop where
 ex:∃f fd,F5 P w K mg base CX0 k f fd ps sp/\mg x=some (.ref f)/\T0 K (.ref f)=true/\a2d K fd ps []
theorem c9S{k j:Nat}{x:Str}{e:Expr}{es:List Expr}{t:TA}{p:Pos}(C:F6 X.prog X.w X.K X.mg X.base k x ps sp)(hr:R3 j X.A)(hk:k<=j)(hg:Gl X x)(ha:PA X (e::es) t)
  (hdb:(x == ("__debug__" : Str))=false:=by decide) (he:g6 (e::es) X.env=(false,eval e X.env)::g6 es X.env:=by rfl) (hpl:(X5 pos (g6 es X.env)).any (·.1)=false:=by rfl) :
  PE X (.Call (.Name x p) (e::es) [] pos) (u8 sp [] E0 t):=by
 obtain⟨f,fd,F,hm,hkp,hb⟩:=C.ex
 exact c6Y F (hr.mono hk) hg hm hkp hb .nil c4s ha hdb he hpl
theorem c2g{P:v8}{K:Fg}{mg:Str->Option Value}{base:Heap}{k:Nat}{x q:Str}{st:Stmt}{f:Addr}{fd:U1}(F:Fun K x q st f fd)(O:F5 P w K mg base CX0 k f fd ps sp)
  (hm:mg x=some (.ref f)) (hb:a2d K fd ps []):F6 P w K mg base k x ps sp:=⟨f,fd,O,hm,F.kp,hb⟩
def a9Q:List V->Hp->VK->Prop:=fun xs H Q=>match xs with
 | [.ref p]=>match H p with
  | some (.lst ys)=>∀l,H l=none->Q (.ref l) (upd H l (.lst ys))
  | some (.tup ys)=>∀l,H l=none->Q (.ref l) (upd H l (.lst ys))
  | _=>False
 | _=>False
theorem b9b:W9 X (.type "list") a9Q:=b4L.imp fun xs H Q h=>by
 unfold a9Q at h
 split at h
 ·split at h
  ·exact⟨_,_,rfl,.inl (SqL.of (by assumption)),h⟩
  ·exact⟨_,_,rfl,.inr (SqT.of (by assumption)),h⟩
  ·exact h.elim
 ·exact h.elim
end
def Its(x:Str):It:=⟨fun i _=>i<x.length,fun i H v H'=>H'=H/\∃c,x.cps[i]? = some c/\v=.str ⟨#[c]⟩,fun i _=>x.length<=i⟩
theorem c3g{P:v8}{K:Fg}{tg:Expr}(x:Str)(t:Tok)(it:Addr):b4W P w K tg (Its x) [it] it (fun i h=>h.IsStrIter it (a3T x) x t i) where
 mem:=by simp
 obj:=fun i h st b hb=>by
  have e:b=it:=by simpa using hb
  subst e
  obtain⟨o,e,c,d⟩:=st
  exact⟨o,e,fun v z=>by rw[d]at z;cases z⟩
 keep:=fun i h h' st k=>let⟨o,ho,r⟩:=st; ⟨o,k it (by simp) o ho,r⟩
 item:=by
  intro X hP hw hK hc i pins s σ H E I hf st hg
  subst hP hw hK
  have hi:i<x.cps.size:=hg
  obtain⟨f0,f1,f2,f3,f4,f5⟩:=hf it (by simp)
  have hx:x.cps[i]? = some x.cps[i]:=by simp[hi]
  have fin:∀h',h'.IsStrIter it (a3T x) x t (i+1)->Heap.SameBut it s.heap h'->∃u,some (Value.str ⟨#[x.cps[i]]⟩ s.toks)=some u /\
    wpAny (model X.prog X.w) X.A (a3m tg (.ref it) u) (fun _ s2=>∃v H',Inv X pins σ H' s2/\F1 v u/\(Its x).yld i H v H'/\s2.heap.IsStrIter it (a3T x) x t (i+1)/\∀b∈[it],H' b=none) E { s with heap:=h',toks:=s.toks+1 }:=by
   intro h' st' sb
   have I1:Inv X pins σ H { s with heap:=h',toks:=s.toks+1 }:=I.turned (t':=s.toks+1) (fun b o hb e=>(sb.2 b hb).trans e) f0 f1 f3 f4 f5
   obtain⟨o,e,c,d⟩:=id st'
   refine⟨_,rfl,c0e (s:={ s with heap:=h',toks:=s.toks+1 }) e c d ?_ ⟨.str ⟨#[x.cps[i]]⟩,H,I1,⟨_,rfl⟩,⟨rfl,_,hx,rfl⟩,st',fun b hb=>(hf b hb).1⟩⟩
   unfold a3T
   split <;> decide
  unfold a3T at st fin ⊢
  split at st
  ·rename_i ha
   simp only[ha]at fin ⊢
   exact wpAny_pyNext_ascii_item st hx fun h' st' sb=>fin h' st' sb
  ·rename_i ha
   simp only[ha]at fin ⊢
   exact wpAny_pyNext_wide_item st hx fun h' st' sb=>fin h' st' sb
 done:=by
  intro X hP hw hK hc i pins s σ H E I hf st hg
  subst hP hw hK
  have hi:x.cps.size<=i:=hg
  obtain⟨f0,f1,f2,f3,f4,f5⟩:=hf it (by simp)
  have hx:x.cps[i]? = none:=by simp[hi]
  unfold a3T at st
  split at st
  ·exact wpAny_pyNext_ascii_end (I.ok.hd hc) st hx fun h' eb=>⟨rfl,I.turned (t':=s.toks) (fun b o hb e=>eb b o hb e) f0 f1 f3 f4 f5⟩
  ·exact wpAny_pyNext_wide_end (I.ok.hd hc) st hx fun h' eb=>⟨rfl,I.turned (t':=s.toks) (fun b o hb e=>eb b o hb e) f0 f1 f3 f4 f5⟩
 self:=fun _ _ _ _ _ st h=>by
  unfold a3T at st
  split at st
  ·exact wpAny_pyIter_striter_ascii st h
  ·exact wpAny_pyIter_striter_wide st h
def c4X(tl:TE):TI:=fun σ H R=>tl σ H fun v H1=>∃x,v=.str x/\R (Its x) H1
section
variable {tg:Expr}
theorem c9N{l:Expr}{tl:TE}(hl:PE X l tl):PI X tg l (c4X tl):=by
 intro pins s σ H R I h
 refine thn (hl pins s σ H _ I h) fun v s1 ⟨y,H1,I1,r1,x,e,q1⟩=>?_
 subst e
 obtain⟨t,rfl⟩:=r1
 refine wpAny_pyIter_strU ?_
 have k:∀b u,s1.heap.get? b=some u->(s1.heap.push { cls:=.type (a3T x),data:=.fields #[.str x t,.int 0 0] }).get? b=some u:=fun b u q=>d7 _ q
 refine⟨s1.heap.objs.size,[s1.heap.objs.size],_,Its x,H1,rfl,I1.kept (t':=s1.toks) k,c3g x t _,⟨_,C0 _ rfl,rfl,rfl⟩,fun b hb=>?_,q1⟩
 have e:b=s1.heap.objs.size:=by simpa using hb
 subst e
 exact I1.fpOk (d9 _) I1.fresh
def R7:List V->Option (List Bool)
 | []=>some []
 | .bl b::r=>(R7 r).map (b :: ·)
 | _=>none
theorem a9z:∀ {xs:List V} {bs:List Bool} {i:Nat} {x:V},R7 xs=some bs->xs[i]? = some x->∃b,bs[i]? = some b/\x=.bl b
 | [],_,_,_,_,h=>by simp at h
 | y::r,bs,i,x,e,h=>by
  cases y with
  | bl b=>
   cases e2:R7 r with
   | none=>simp[R7,e2]at e
   | some bs2=>
    simp[R7,e2]at e
    subst e
    cases i with
    | zero=>simp at h;exact⟨b,rfl,h.symm⟩
    | succ i=>
     obtain⟨b',h1,h2⟩:=a9z (i:=i) e2 (by simpa using h)
     exact⟨b',by simpa using h1,h2⟩
  | _=>simp[R7]at e
theorem a9y:∀ {xs:List V} {bs:List Bool},R7 xs=some bs->xs.length=bs.length
 | [],_,e=>by cases e;rfl
 | y::r,bs,e=>by
  cases y with
  | bl b=>
   cases e2:R7 r with
   | none=>simp[R7,e2]at e
   | some bs2=>
    simp[R7,e2]at e
    subst e
    simp[a9y e2]
  | _=>simp[R7]at e
theorem c2s(bs:List Bool):((l6 bs.length).all fun i=>(bs[i]?).getD true)=bs.all id:=by
 rw[a2g,p9,p9]
 constructor
 ·intro h b hb
  obtain⟨i,hi,rfl⟩:=List.mem_iff_getElem.mp hb
  have:=h i (by simpa using hi)
  simpa[hi]using this
 ·intro h i hi
  have hl:i<bs.length:=by simpa using hi
  have:=h bs[i] (G0 _)
  simpa[hl]using this
def a8n:List V->Hp->VK->Prop:=fun vs H Q=>match vs with
 | [.ref l]=>match H l with
  | some (.lst xs)=>∃bs,R7 xs=some bs/\Q (.bl (bs.all id)) H
  | _=>False
 | _=>False
theorem c2l(hc:X.calm=true):W9 X (.builtin "all") a8n:=fun pins s σ H xs us Q I r h=>by
 unfold a8n at h
 split at h
 ·split at h
  ·rename_i l _ ys hl
   obtain⟨bs,e,q⟩:=h
   obtain⟨u,rfl,ru⟩:=a4n r
   cases ru
   obtain⟨its,rv,pl,hz⟩:=I.list (SqL.of hl)
   have hlt:l<s.heap.objs.size:=by obtain⟨_,e,_⟩:=pl.isList;exact h9 e
   have hlen:=rv.length
   have hbl:=a9y e
   refine call_all_walk (b7q pl.isList ?_)
   refine⟨s.heap.objs.size,[s.heap.objs.size,l],[s.heap.objs.size],its.toArray.size,_,_,fun i=>(bs[i]?).getD true,rfl,Walks.list (A:=X.A.in1) (I.ok.hd hc) _ l (z5 hlt) its.toArray,
    ⟨⟨_,C0 _ rfl,rfl,rfl⟩,pl.isList.push _⟩,fun i v s' Q' E' hP hQ=>?_,fun h' tk hk=>?_⟩
   ·have hP:its[i]? = some v:=by simpa using hP
    have hi:i<ys.length:=by rw[hlen];exact(o7.mp hP).1
    have ey:ys[i]? = some ys[i]:=by simp[hi]
    obtain⟨b,eb,ez⟩:=a9z e ey
    obtain⟨u,eu,ru⟩:=rv.get ey
    rw[hP]at eu
    cases eu
    rw[ez]at ru
    cases ru
    simp only[eb,a2N]at hQ
    exact O4 hQ
   ·have e2:((l6 its.toArray.size).all fun i=>(bs[i]?).getD true)=bs.all id:=by
     rw[j6,<-hlen,hbl]
     exact c2s bs
    rw[e2]
    exact⟨.bl _,H,I.kept (t':=tk) fun b x e=>hk b x (fun hm=>by rw[g8.mp hm]at e;exact E8 _ (h9 e)) (d7 _ e),rfl,q⟩
  ·exact h.elim
 ·exact h.elim
end
section
theorem Inv.turnedL{h':Heap}{t':Nat}(I:Inv X pins σ H s)(k:∀b o,b∉fp->s.heap.get? b=some o->h'.get? b=some o)(hf:∀b∈fp,a1K X pins H b) :
  Inv X pins σ H { s with heap:=h',toks:=t' }:=by
 have nit:∀b u,H b=some u->b∉fp:=fun b u e z=>by rw[(hf b z).1]at e;cases e
 refine I.step (g':=s.gens) (d':=s.drawn) (ch:=fp) (fun b hb=>?_) (fun b o _ _ hc e _=>k b o hc e) (fun b o _ _ hc e _=>⟨o.slots,k b o hc e⟩) (fun _ _ _ _ n=>n)
  (fun b o hc e=>⟨o,k b o hc e⟩) (fun _ _ e=>e) (fun _ _ _ e=>e) (fun b ps e=>⟨#[],by rw[e];simp⟩) (fun m hm=>?_) (fun b u e=>?_) I.bare
 ·obtain⟨_,f1,_,f3,f4,f5⟩:=hf b hb
  exact⟨f3,f1,f4,f5⟩
 ·obtain⟨o,es,ep,ho,r⟩:=hm
  exact⟨o,es,ep,k _ o (fun z=>(hf _ z).2.1 rfl) ho,r⟩
 ·refine(I.hok b u e).stay (fun c v hc q=>k c v ?_ q) (fun _ q=>q) fun _ _ q=>q
  rcases hc with z | z
  ·rw[z];exact nit b u e
  ·exact nit c _ z
theorem Inv.pairL{h':Heap}{t':Nat}{x y:V}{v:Value}(I:Inv X pins σ H s)(hf:∀b∈fp,a1K X pins H b)(fl:∀b∈fp,b≠s.heap.objs.size)
  (rx:F1 x u) (ry:F1 y v) (ht:h'.get? s.heap.objs.size=some { cls:=.type "tuple",data:=.seq #[u,v] }) (k:∀b o,b∉fp->s.heap.get? b=some o->h'.get? b=some o) :
  Inv X pins σ (upd H s.heap.objs.size (.tup [x,y])) { s with heap:=h',toks:=t' }:=by
 have I1:Inv X pins σ (upd H s.heap.objs.size (.tup [x,y])) { s with heap:=s.heap.push { cls:=.type "tuple",data:=.seq #[u,v] },toks:=s.toks }:=
  I.laid (fun b u e=>d7 _ e) (d9 _) ⟨by show 2<=j7;decide,[u,v],.cons rx (.cons ry .nil),⟨_,C0 _ rfl,rfl,_,rfl⟩⟩
 refine Inv.turnedL (s:={ s with heap:=s.heap.push { cls:=.type "tuple",data:=.seq #[u,v] },toks:=s.toks }) (fp:=fp) I1 (fun b o hb e=>?_) fun b hb=>⟨by rw[g7 (fl b hb)];exact(hf b hb).1,(hf b hb).2⟩
 by_cases hz:b=s.heap.objs.size
 ·subst hz
  have e2:=C0 s.heap (o:={ cls:=.type "tuple",data:=.seq #[u,v] }) rfl
  rw[show(s.heap.push { cls:=.type "tuple",data:=.seq #[u,v] }).get? s.heap.objs.size=some o from e]at e2
  cases e2
  exact ht
 ·refine k b o hb ?_
  have e:(s.heap.push { cls:=.type "tuple",data:=.seq #[u,v] }).get? b=some o:=e
  rwa [Heap.get?_push_ne _ _ _ hz]at e
def Ite(K:Fg)(a:Addr):It:=
 ⟨fun i H=>∃xs x,SqL K H a xs/\xs[i]? = some x,fun i H v H'=>∃p x,H p=none/\v=.ref p/\H'=upd H p (.tup [.int i,x])/\∀xs,SqL K H a xs->xs[i]? = some x,fun i H=>∃xs,SqL K H a xs/\xs.length<=i⟩
theorem c0Z{P:v8}{K:Fg}{x1}(a e it:Addr)(hne:e≠it):b4W P w K (.Tuple elts x1 tp) (Ite K a) [e,it] e (fun i h=>(∃old,IsEnum h e it i old)/\h.IsListIter it a i) where
 mem:=by simp
 obj:=fun i h st b hb=>by
  obtain⟨⟨old,he⟩,o,e1,c,d⟩:=st
  rcases c5.mp hb with rfl | hb
  ·exact⟨_,he,fun v z=>by
    have z':Data.fields _=Data.cell v:=z
    cases z'⟩
  ·have:b=it:=by simpa using hb
   subst this
   exact⟨o,e1,fun v z=>by rw[d]at z;cases z⟩
 keep:=fun i h h' st k=>by
  obtain⟨⟨old,he⟩,hi⟩:=st
  exact⟨⟨old,k e (by simp) _ he⟩,hi.at fun o q=>k it (by simp) o q⟩
 item:=by
  intro X hP hw hK hc i pins s σ H E I hf st hg
  subst hP hw hK
  obtain⟨⟨old,he⟩,hit⟩:=st
  obtain⟨xs,x,hq,hx⟩:=hg
  obtain⟨its,rv,p,hz⟩:=I.list hq
  obtain⟨u,hu,ru⟩:=rv.get hx
  refine wpAny_pyNext_enum_item he hit p.isList (x:=u) (by simpa using hu) hne fun h1 ho hit1 hT hsz hk=>?_
  refine⟨_,rfl,?_⟩
  refine wpAny_letOwnedTupleGo_enum (s:={ s with heap:=h1,toks:=s.toks+1 }) ho fun h2 he2 hs2=>?_
  have hs2:Heap.SameBut e h1 h2:=hs2
  have le:e≠s.heap.objs.size:=z5 (h9 he)
  have li:it≠s.heap.objs.size:=by obtain⟨_,q,_⟩:=hit;exact z5 (h9 q)
  have fl:∀b∈[e,it],b≠s.heap.objs.size:=fun b hb=>by
   rcases c5.mp hb with rfl | hb
   ·exact le
   ·have:b=it:=by simpa using hb
    subst this;exact li
  have I2:=I.pairL (h':=h2) (t':=s.toks+1) (x:=.int i) (y:=x) (u:=.int i s.toks) (v:=u) hf fl ⟨_,rfl⟩ ru ((hs2.2 _ (Ne.symm le)).trans hT) fun b o hb q=>by
   have n1:b≠e:=fun z=>hb (by simp[z])
   have n2:b≠it:=fun z=>hb (by simp[z])
   exact(hs2.2 b n1).trans (hk b o n1 n2 q)
  refine⟨.ref s.heap.objs.size,_,I2,rfl,⟨_,x,I.fresh,rfl,rfl,fun ys hy=>by rw[I.list_inj hy hq];exact hx⟩,⟨⟨u,by simpa using he2⟩,hit1.at fun o q=>(hs2.2 it (Ne.symm hne)).trans q⟩,fun b hb=>?_⟩
  rw[g7 (fl b hb)];exact(hf b hb).1
 done:=by
  intro X hP hw hK hc i pins s σ H E I hf st hg
  subst hP hw hK
  obtain⟨⟨old,he⟩,hit⟩:=st
  obtain⟨xs,hq,hx⟩:=hg
  obtain⟨its,rv,p,hz⟩:=I.list hq
  obtain⟨f0,f1,f2,f3,f4,f5⟩:=hf it (by simp)
  have hl:=rv.length
  exact wpAny_pyNext_enum_end (I.ok.hd hc) he hit p.isList (by simp;omega) fun h' eb=>⟨rfl,I.turned (t':=s.toks) (fun b o hb e=>eb b o hb e) f0 f1 f3 f4 f5⟩
 self:=fun _ _ _ _ _ st h=>by
  obtain⟨⟨old,he⟩,_⟩:=st
  exact wpAny_pyIter_enum he h
def a9U(K:Fg)(ta:TA):TI:=fun σ H R=>ta σ H fun vs H1=>∃a,vs=[.ref a]/\(∃xs,SqL K H1 a xs)/\R (Ite K a) H1
theorem c6R{x1}{a:Expr}{ta:TA}(hg:Gl X "enumerate")(hm:X.mg "enumerate" = none)(ha:PA X [a] ta)(hs:g6 [a] X.env=[(false,eval a X.env)]:=by rfl) :
  PI X (.Tuple elts x1 tp) (.Call (.Name "enumerate" p) [a] [] pos) (a9U X.K ta):=by
 intro pins s σ H R I h
 refine Call_ (a7D I hg hm boot_enumerate (U2 (thn (ha pos pins s σ H _ I h) fun us s1 ⟨vs,H1,I1,r1,q1⟩=>?_) hs rfl))
 obtain⟨b,e,⟨xs,hq⟩,q⟩:=q1
 subst e
 cases r1 with
 | cons r rr=>
  cases rr
  cases r
  obtain⟨its,rv,pl,hz⟩:=I1.list hq
  refine call_enumerate_list pl.isList fun h' he hit hsz hk=>?_
  have I2:Inv X pins σ H1 { s1 with heap:=h' }:=I1.kept (t':=s1.toks) hk
  refine wpAny_pyIter_enum he ⟨_,[s1.heap.objs.size+1,s1.heap.objs.size],_,_,H1,rfl,I2,c0Z b (s1.heap.objs.size+1) s1.heap.objs.size (Nat.succ_ne_self _),⟨⟨_,he⟩,hit⟩,fun c hc=>?_,q⟩
  rcases c5.mp hc with rfl | hc
  ·exact I1.fpOk (by omega) (I1.hok.fresh (by omega))
  ·have:c=s1.heap.objs.size:=by simpa using hc
   subst this
   exact I1.fpOk (d9 _) (I1.hok.fresh (d9 _))
def Itz(K:Fg)(a b:Addr):It:=
 ⟨fun i H=>∃xs ys x y,SqL K H a xs/\SqL K H b ys/\xs[i]? = some x/\ys[i]? = some y,fun i H v H'=>∃p x y,H p=none/\v=.ref p/\H'=upd H p (.tup [x,y])/\(∀xs,SqL K H a xs->xs[i]? = some x)/\∀ys,SqL K H b ys->ys[i]? = some y,
  fun i H=>∃xs ys,SqL K H a xs/\SqL K H b ys/\(xs.length<=i\/ys.length<=i)⟩
theorem U5{h:Heap}{a b:Addr}{o o':Obj}(h1:h.get? a=some o)(h2:h.get? b=some o')(hc:o.cls≠o'.cls):a≠b:=fun z=>by
 subst z;rw[h1]at h2;cases h2;exact hc rfl
theorem c3f{P:v8}{K:Fg}{x1}(a b z TI TO i1 i2:Addr)(n1:TI≠z)(n2:TO≠z)(n3:i1≠z)(n4:i2≠z)(n5:TI≠TO)(n6:TI≠i1)(n7:TI≠i2)(n8:TO≠i1)(n9:TO≠i2)(n10:i1≠i2) :
  b4W P w K (.Tuple elts x1 tp) (Itz K a b) [z,TI,TO,i1,i2] z (fun i h=>IsZip h z TI TO .none/\IsPair h TI (.ref i1) (.ref i2)/\(∃u v,IsPair h TO u v)/\h.IsListIter i1 a i/\h.IsListIter i2 b i) where
 mem:=by simp
 obj:=fun i h st c hb=>by
  obtain⟨hz,hTI,⟨u,v,hTO⟩,⟨o1,e1,c1,d1⟩,⟨o2,e2,c2,d2⟩⟩:=st
  simp only[c5,p8,or_false]at hb
  rcases hb with rfl | rfl | rfl | rfl | rfl
  ·exact⟨_,hz,fun v z=>by
    have z':Data.fields _=Data.cell v:=z
    cases z'⟩
  ·exact⟨_,hTI,fun v z=>by
    have z':Data.seq _ _=Data.cell v:=z
    cases z'⟩
  ·exact⟨_,hTO,fun v z=>by
    have z':Data.seq _ _=Data.cell v:=z
    cases z'⟩
  ·exact⟨o1,e1,fun v z=>by rw[d1]at z;cases z⟩
  ·exact⟨o2,e2,fun v z=>by rw[d2]at z;cases z⟩
 keep:=fun i h h' st k=>by
  obtain⟨hz,hTI,⟨u,v,hTO⟩,h1,h2⟩:=st
  exact⟨k z (by simp) _ hz,k TI (by simp) _ hTI,⟨u,v,k TO (by simp) _ hTO⟩,h1.at fun o q=>k i1 (by simp) o q,h2.at fun o q=>k i2 (by simp) o q⟩
 item:=by
  intro X hP hw hK hc i pins s σ H E I hf st hg
  subst hP hw hK
  obtain⟨hz,hTI,⟨u,v,hTO⟩,h1,h2⟩:=st
  obtain⟨xs,ys,x,y,hqa,hqb,hx,hy⟩:=hg
  obtain⟨ia,ra,pa,za⟩:=I.list hqa
  obtain⟨ib,rb,pb,zb⟩:=I.list hqb
  obtain⟨ux,hux,rux⟩:=ra.get hx
  obtain⟨uy,huy,ruy⟩:=rb.get hy
  obtain⟨oa,la,ca,_⟩:=id pa.isList
  obtain⟨ob,lb,cb,_⟩:=id pb.isList
  obtain⟨o1,e1,c1,_⟩:=id h1
  obtain⟨o2,e2,c2,_⟩:=id h2
  have D:ZipApart z TI TO i1 i2 a b:=⟨n1,n2,n3,n4,n5,n6,n7,n8,n9,n10,
   U5 la hz (by rw[ca];intro z;injection z with z;revert z;decide),U5 la hTO (by rw[ca];intro z;injection z with z;revert z;decide),U5 la e1 (by rw[ca,c1];intro z;injection z with z;revert z;decide),U5 la e2 (by rw[ca,c2];intro z;injection z with z;revert z;decide),
   U5 lb hz (by rw[cb];intro z;injection z with z;revert z;decide),U5 lb hTO (by rw[cb];intro z;injection z with z;revert z;decide),U5 lb e1 (by rw[cb,c1];intro z;injection z with z;revert z;decide),U5 lb e2 (by rw[cb,c2];intro z;injection z with z;revert z;decide)⟩
  refine wpAny_pyNext_zip_item D hz hTI hTO h1 h2 pa.isList pb.isList (x:=ux) (y:=uy) (by simpa using hux) (by simpa using huy) fun h3 a1 a2 a3 a4 a5 a6 hk=>?_
  refine⟨_,rfl,?_⟩
  refine wpAny_letOwnedTupleGo_zip (s:={ s with heap:=h3 }) a1 fun h4 hz4 hs4=>?_
  have hs4:Heap.SameBut z h3 h4:=hs4
  have lz:z≠s.heap.objs.size:=z5 (h9 hz)
  have fl:∀c∈[z,TI,TO,i1,i2],c≠s.heap.objs.size:=fun c hc=>by
   simp only[c5,p8,or_false]at hc
   rcases hc with rfl | rfl | rfl | rfl | rfl
   ·exact lz
   ·exact z5 (h9 hTI)
   ·exact z5 (h9 hTO)
   ·exact z5 (h9 e1)
   ·exact z5 (h9 e2)
  have I2:=I.pairL (h':=h4) (t':=s.toks) (x:=x) (y:=y) (u:=ux) (v:=uy) hf fl rux ruy ((hs4.2 _ (Ne.symm lz)).trans a5) fun c o hc q=>by
   have m1:c≠z:=fun z=>hc (by simp[z])
   have m3:c≠TO:=fun z=>hc (by simp[z])
   have m4:c≠i1:=fun z=>hc (by simp[z])
   have m5:c≠i2:=fun z=>hc (by simp[z])
   exact(hs4.2 c m1).trans (hk c o m1 m3 m4 m5 q)
  refine⟨.ref s.heap.objs.size,_,I2,rfl,⟨_,x,y,I.fresh,rfl,rfl,fun zs hy=>by rw[I.list_inj hy hqa];exact hx,fun zs hy'=>by rw[I.list_inj hy' hqb];exact hy⟩,
   ⟨hz4,hs4.extBut _ _ n1 (hk _ _ n1 n5 n6 n7 hTI),⟨_,_,hs4.extBut _ _ n2 a2⟩,a3.extBut hs4.extBut n3,a4.extBut hs4.extBut n4⟩,fun c hc=>?_⟩
  rw[g7 (fl c hc)];exact(hf c hc).1
 done:=by
  intro X hP hw hK hc i pins s σ H E I hf st hg
  subst hP hw hK
  obtain⟨hz,hTI,⟨u,v,hTO⟩,h1,h2⟩:=st
  obtain⟨xs,ys,hqa,hqb,hx⟩:=hg
  obtain⟨ia,ra,pa,za⟩:=I.list hqa
  obtain⟨ib,rb,pb,zb⟩:=I.list hqb
  obtain⟨oa,la,ca,_⟩:=id pa.isList
  obtain⟨ob,lb,cb,_⟩:=id pb.isList
  obtain⟨o1,e1,c1,_⟩:=id h1
  obtain⟨o2,e2,c2,_⟩:=id h2
  have D:ZipApart z TI TO i1 i2 a b:=⟨n1,n2,n3,n4,n5,n6,n7,n8,n9,n10,
   U5 la hz (by rw[ca];intro z;injection z with z;revert z;decide),U5 la hTO (by rw[ca];intro z;injection z with z;revert z;decide),U5 la e1 (by rw[ca,c1];intro z;injection z with z;revert z;decide),U5 la e2 (by rw[ca,c2];intro z;injection z with z;revert z;decide),
   U5 lb hz (by rw[cb];intro z;injection z with z;revert z;decide),U5 lb hTO (by rw[cb];intro z;injection z with z;revert z;decide),U5 lb e1 (by rw[cb,c1];intro z;injection z with z;revert z;decide),U5 lb e2 (by rw[cb,c2];intro z;injection z with z;revert z;decide)⟩
  have la':=ra.length
  have lb':=rb.length
  have hend:ia.toArray[i]? = none\/ib.toArray[i]? = none:=by
   rcases hx with hx | hx
   ·left;simp;omega
   ·right;simp;omega
  refine wpAny_pyNext_zip_end (I.ok.hd hc) D hz hTI hTO h1 h2 pa.isList pb.isList hend fun h' hk=>⟨rfl,?_⟩
  refine I.turnedL (t':=s.toks) (fp:=[z,TI,TO,i1,i2]) (fun c o hc q=>?_) hf
  exact hk c o (fun z=>hc (by simp[z])) (fun z=>hc (by simp[z])) (fun z=>hc (by simp[z])) (fun z=>hc (by simp[z])) q
 self:=fun _ _ _ _ _ st h=>wpAny_pyIter_zip st.1 h
def c1X(K:Fg)(ta:TA):TI:=fun σ H R=>ta σ H fun vs H1=>∃a b,vs=[.ref a,.ref b]/\(∃xs,SqL K H1 a xs)/\(∃xs,SqL K H1 b xs)/\R (Itz K a b) H1
theorem c9L{x1}{a b:Expr}{ta:TA}(hg:Gl X "zip")(hm:X.mg "zip" = none)(ha:PA X [a,b] ta)(hs:g6 [a,b] X.env=[(false,eval a X.env),(false,eval b X.env)]:=by rfl)(hs2:g6 [b] X.env=[(false,eval b X.env)]:=by rfl) :
  PI X (.Tuple elts x1 tp) (.Call (.Name "zip" p) [a,b] [] pos) (c1X X.K ta):=by
 intro pins s σ H R I h
 refine Call_ (a7D I hg hm boot_zip (U2 (thn (ha pos pins s σ H _ I h) fun us s1 ⟨vs,H1,I1,r1,q1⟩=>?_) (by rw[hs,hs2]) (by rw[hs2];rfl)))
 obtain⟨c,d,e,⟨xs,hq⟩,⟨ys,hq'⟩,q⟩:=q1
 subst e
 cases r1 with
 | cons r rr=>
  cases rr with
  | cons r' rr=>
   cases rr
   cases r
   cases r'
   obtain⟨ia,ra,pa,za⟩:=I1.list hq
   obtain⟨ib,rb,pb,zb⟩:=I1.list hq'
   refine call_zip_2 pa.isList pb.isList fun h' hz hTI hTO h1 h2 hsz hk=>?_
   have I2:Inv X pins σ H1 { s1 with heap:=h' }:=I1.kept (t':=s1.toks) hk
   have N:∀n:Nat,n+2≠n+4/\n+3≠n+4/\n≠n+4/\n+1≠n+4/\n+2≠n+3/\n+2≠n/\n+2≠n+1/\n+3≠n/\n+3≠n+1/\n≠n+1:=fun n=>by omega
   obtain⟨m1,m2,m3,m4,m5,m6,m7,m8,m9,m10⟩:=N s1.heap.objs.size
   refine wpAny_pyIter_zip hz ⟨_,[s1.heap.objs.size+4,s1.heap.objs.size+2,s1.heap.objs.size+3,s1.heap.objs.size,s1.heap.objs.size+1],_,_,H1,rfl,I2,
    c3f c d (s1.heap.objs.size+4) (s1.heap.objs.size+2) (s1.heap.objs.size+3) s1.heap.objs.size (s1.heap.objs.size+1) m1 m2 m3 m4 m5 m6 m7 m8 m9 m10,⟨hz,hTI,⟨_,_,hTO⟩,h1,h2⟩,fun y hy=>?_,q⟩
   have:s1.heap.objs.size<=y:=by
    simp only[c5,p8,or_false]at hy
    rcases hy with rfl | rfl | rfl | rfl | rfl
    ·exact a6h _ _
    ·exact a6h _ _
    ·exact a6h _ _
    ·exact d9 _
    ·exact a6h _ _
   exact I1.fpOk this (I1.hok.fresh this)
end
def b4y(x y:Str)(N:List Str):List Str:=N.map fun z=>if z=x then ("." : Str)++x else if z=y then ("." : Str)++y else z
def U9(X:Cx)(scope:Scope)(cl:List (Str×Addr))(C:Addr)(x y:Str)(fp:List Addr)(s3:d4)(H3:Hp):Cx:=
 { X with N:=x::y::b4y x y X.N,s₀:=s3,H₀:=H3,env:=c2E scope cl C X.env,outer:=X.stack,stack:=X.stack,ex:=fp,fn:=fun _=>false,pn:=[],xe:=fun _ _=>False }
structure a3Q(N:List Str)(osc sc:Scope)(x y:Str):Prop where
 kind:sc.kind=.function
 cell:∀y∈sc.names,y.2≠.cell
 names:∀y∈sc.names,y.2=.local->sc.names.lookup y.1=some .local
 own:sc.names.lookup x=some .local
 own2:sc.names.lookup y=some .local
 fr:∀y∈sc.names,y.2=.free->osc.names.lookup y.1=some .cell\/osc.names.lookup y.1=some .free
 see:∀z∈b4y x y N,sc.names.lookup z≠some .local
 dot:sc.names.lookup (("." : Str)++x)=none
 dot2:sc.names.lookup (("." : Str)++y)=none
 nd:(x::y::b4y x y N).Nodup
def a7f(K:Fg)(wi:TI)(tt:TT)(te:TE):TE:=fun σ H Q=>wi σ H fun J H1=>∀D,H1 D=none->∃W:Nat->Nat->List V->Hp->Prop,
 (∃m,W 0 m [] (upd H1 D (.lst [])))/\∀i m ys H2,W i m ys H2->H2 D=some (.lst ys) /\
  ((J.stop i H2 /\ Q (.ref D) H2) \/ (J.go i H2 /\ ∀ x H3,J.yld i H2 x H3 -> ∃ a u v,x = .ref a /\ SqT K H3 a [u,v] /\ tt (some u :: some v :: σ) H3 fun ok H4 => if ok = true then
    te (some u::some v::σ) H4 (fun y H5=>H5 D=some (.lst ys)/\ys.length<j7/\∃m',m'<m/\W (i+1) m' (ys++[y]) (upd H5 D (.lst (ys++[y]))))
    else ∃m',m'<m/\W (i+1) m' ys H4))
section
variable {x x2:Str}{px py2 pt:Pos}{kt}
theorem c2d{s3:d4}{cl:List (Str×Addr)}{h4:Heap}{tk:Nat}(hc:a3Q X.N X.env.scope scope x x2)(I:Inv X pins σ H s3)
  (hcl:∀y c,cl.lookup y=some c->X.env.cells.lookup y=some c) (hcl2:∀y,(y,NameKind.free)∈scope.names->(cl.lookup y).isSome=true)
  (fpo:∀b∈fp,a1K X pins H b) (fpl:∀b∈fp,b<s3.heap.objs.size)
  (hn:h4.Ns s3.heap.objs.size (fun _=>none)) (k:∀b o,s3.heap.get? b=some o->h4.get? b=some o) :
  Inv (U9 X scope cl s3.heap.objs.size x x2 fp s3 H) [] (none::none::σ) H { s3 with heap:=h4,toks:=tk }:=by
 have low:∀x y,(U9 X scope cl s3.heap.objs.size x x2 fp s3 H).env.cells.lookup y=cl.lookup y:=fun _ _=>rfl
 have below:∀y c,cl.lookup y=some c->c<s3.heap.objs.size:=fun y c e=>by
  obtain⟨v,q⟩:=I.cell y c (hcl y c e)
  exact q.lt
 have kinds:∀y,((U9 X scope cl s3.heap.objs.size x x2 fp s3 H).env.kindOf y=some .cell\/(U9 X scope cl s3.heap.objs.size x x2 fp s3 H).env.kindOf y=some .free)->scope.names.lookup y=some .free:=by
  intro y hy
  rcases hy with hy | hy
  ·rcases P5 hy with q | ⟨q,_⟩
   ·exact absurd rfl (hc.cell _ (C9 q))
   ·exact q
  ·rcases P5 hy with q | ⟨q,z⟩
   ·exact q
   ·cases z
 refine⟨⟨I.ok.mod,?_,I.ok.glob,I.ok.blt,d9 _,fun y z c h1 h2=>?_,fun y hy=>?_,fun y c h=>?_,I.ok.hd,I.ok.frames,.inl rfl,fun b hb=>⟨?_,fun y c e z=>?_⟩,fun b o e=>I.bs b o e,t5 I.ok.bsz I.sz,fun b o e hb=>?_,fun b hb hf=>?_,I.stack,I.stkFree⟩,
  rfl,I.bare,Un.kept k,⟨_,hn,fun i y v h1 h2 h3=>?_⟩,fun y c e=>?_,I.fresh,fun y c e=>?_,fun p hp=>absurd (show p∈([]:List (Addr×Obj))from hp) (by simp),I.hok.kept k,?_⟩
 ·exact hc.kind
 ·exact I.ok.inj y z c (hcl _ _ h1) (hcl _ _ h2)
 ·have:=hcl2 y (C9 (kinds y hy))
  exact Z3.mp this
 ·cases h
 ·exact z5 (fpl b hb)
 ·exact(fpo b hb).2.2.2.2.1 y c (hcl y c e) z
 ·rcases(fpo b hb).2.2.2.1 with q | q
  ·exact I.ok.noex b o e q
  ·exact absurd (t8 (h9 (I.ok.bs b o e).1) q) (E8 _)
 ·rcases c5.mp (I.stkSub b hf)with e | e
  ·exact(fpo b hb).2.1 e
  ·exact(fpo b hb).2.2.1 e
 ·-- the names
  have h1:(x::x2::b4y x x2 X.N)[i]? = some y:=h1
  cases i with
  | zero=>cases h2
  | succ i=>
   cases i with
   | zero=>cases h2
   | succ i=>
   have h1:(b4y x x2 X.N)[i]? = some y:=h1
   have h2:σ[i]? = some (some v):=h2
   have my:y∈b4y x x2 X.N:=a1d h1
   have h3:(a8M scope X.env).names.lookup y=some .local\/(a8M scope X.env).names.lookup y=some .cell\/(a8M scope X.env).names.lookup y=some .free:=h3
   have hf:scope.names.lookup y=some .free:=by
    rcases h3 with q | q
    ·rcases P5 q with q | ⟨_,z⟩
     ·exact absurd q (hc.see y my)
     ·cases z
    ·exact kinds y q
   have hy:X.N[i]? = some y:=by
    unfold b4y at h1
    rw[c8]at h1
    cases e:X.N[i]? with
    | none=>rw[e]at h1;cases h1
    | some z=>
     rw[e]at h1
     by_cases ez:z=x
     ·rw[a6g,if_pos ez]at h1
      have h1:=Option.some.inj h1
      subst h1
      rw[hc.dot]at hf
      cases hf
     ·rw[a6g,if_neg ez]at h1
      by_cases ez2:z=x2
      ·rw[if_pos ez2]at h1
       have h1:=Option.some.inj h1
       subst h1
       rw[hc.dot2]at hf
       cases hf
      ·rw[if_neg ez2]at h1
       exact h1
   obtain⟨m,_,hl⟩:=I.loc
   obtain⟨c,hcc⟩:=Z3.mp (hcl2 y (C9 hf))
   have vis:Vis X.env.scope y:=by
    rcases hc.fr _ (C9 hf) rfl with q | q
    ·exact .inr (.inl q)
    ·exact .inr (.inr q)
   obtain⟨u,ru,lk⟩:=hl i y v hy h2 vis
   refine⟨u,ru,.inr ⟨?_,c,hcc,?_⟩⟩
   ·rcases h3 with q | q
    ·rcases P5 q with q | ⟨_,z⟩
     ·exact absurd q (hc.see y my)
     ·cases z
    ·exact q
   ·have hce:=hcl y c hcc
    rcases lk with ⟨q,_⟩ | ⟨_,c',e',z⟩
    ·rcases hc.fr _ (C9 hf) rfl with q' | q'
     ·have q:X.env.scope.names.lookup y=some .local:=q
      rw[show X.env.scope.names.lookup y=some NameKind.cell from q']at q
      cases q
     ·have q:X.env.scope.names.lookup y=some .local:=q
      rw[show X.env.scope.names.lookup y=some NameKind.free from q']at q
      cases q
    ·rw[e']at hce
     cases hce
     obtain⟨o,ho,hd⟩:=z
     exact⟨o,k _ _ ho,hd⟩
 ·obtain⟨v,o,ho,hd⟩:=I.cell y c (hcl y c e)
  exact⟨v,o,k _ _ ho,hd⟩
 ·exact I.freeC y c (hcl y c e)
 ·show(none::none::σ).length=(x::x2::b4y x x2 X.N).length
  have:=I.len
  simp[b4y,this]
theorem b6P{H1:Hp}{s2:d4}{cl:List (Str×Addr)}{it:Addr}{tn:Nat->Heap->Prop}{J:It}{Q:VK}{E:Value->d4->Prop}
  {RR:Value->Addr->b9n->d4->Prop} (hc:a3Q X.N X.env.scope scope x x2) (hcalm:X.calm=true)
  (hcl:∀y c,cl.lookup y=some c->X.env.cells.lookup y=some c) (hcl2:∀y,(y,NameKind.free)∈scope.names->(cl.lookup y).isSome=true)
  (ht:∀C fp s3 H3,PTs (U9 X scope cl C x x2 fp s3 H3) ifs tt) (he:∀C fp s3 H3,PE (U9 X scope cl C x x2 fp s3 H3) elt te)
  (I:Inv X pins σ H1 s2) (T:b4W X.prog X.w X.K (.Tuple [.Name x px,.Name x2 py2] kt pt) J fp it tn) (st:tn 0 s2.heap) (fpo:∀b∈fp,a1K X pins H1 b)
  (h:∀D,H1 D=none->∃W:Nat->Nat->List V->Hp->Prop,
   (∃m,W 0 m [] (upd H1 D (.lst [])))/\∀i m ys H2,W i m ys H2->H2 D=some (.lst ys) /\
   ((J.stop i H2 /\ Q (.ref D) H2) \/ (J.go i H2 /\ ∀ x H3,J.yld i H2 x H3 -> ∃ a u v,x = .ref a /\ SqT X.K H3 a [u,v] /\ tt (some u :: some v :: σ) H3 fun ok H4 => if ok = true then
     te (some u::some v::σ) H4 (fun y H5=>H5 D=some (.lst ys)/\ys.length<j7/\∃m',m'<m/\W (i+1) m' (ys++[y]) (upd H5 D (.lst (ys++[y]))))
     else ∃m',m'<m/\W (i+1) m' ys H4)))
  (hRR:∀D C s' H' m,Inv X pins σ H' s'->s'.heap.Ns C m->H' C=none->C≠X.env.locals->X.s₀.heap.objs.size<=C->(∀y c,X.env.cells.lookup y=some c->c≠C)->(∀p∈X.pn++pins,p.1≠C)->Q (.ref D) H'->RR (.ref D) C (.ok .next) s') :
  wpAny (model X.prog X.w) X.A (newList []) (fun acc s₃=>wpAny (model X.prog X.w) X.A (newFunctionEnv scope X.env.globals cl [] X.env.qual none .none (some X.env)) (fun cenv s₄=>
   a3U (model X.prog X.w) X.A (.compStart (.ListComp elt [⟨.Tuple [.Name x px,.Name x2 py2] kt pt,iter,ifs,0⟩] scope pos) 0 (.ref it) acc { cenv with scope:=a8M scope X.env }) (RR acc cenv.locals) s₄) E s₃) E s2:=by
 refine a0C (hd:=by size_fits) ?_
 have I3:=I.lnew (ys:=[]) (its:=[]) (t':=s2.toks) .nil (by show 0<=j7;exact K6 _)
 obtain⟨W,⟨m0,w0⟩,turn⟩:=h _ I.fresh
 generalize hD:s2.heap.objs.size=D at I3 w0 turn ⊢
 generalize hs3:({ s2 with heap:=s2.heap.push { cls:=.type "list",data:=.seq ([]:List Value).toArray } }:d4)=s3
 have hs3':({ s2 with heap:=s2.heap.push { cls:=.type "list",data:=.seq ([]:List Value).toArray },toks:=s2.toks }:d4)=s3:=hs3
 rw[hs3']at I3
 have keep3:∀b o,s2.heap.get? b=some o->s3.heap.get? b=some o:=fun b o e=>by rw[<-hs3];exact d7 _ e
 have fpl:∀b∈fp,b<s3.heap.objs.size:=fun b hb=>by
  obtain⟨o,e,_⟩:=T.obj _ _ st b hb
  exact h9 (keep3 b o e)
 have fpD:∀b∈fp,b≠D:=fun b hb z=>by
  obtain⟨o,e,_⟩:=T.obj _ _ st b hb
  exact absurd (h9 e) (by rw[z,hD];exact E8 _)
 have fpo3:∀b∈fp,a1K X pins (upd H1 D (.lst [])) b:=fun b hb=>⟨by rw[g7 (fpD b hb)];exact(fpo b hb).1,(fpo b hb).2⟩
 show wpAny _ _ _ _ _ s3
 refine d2Z hc.cell (by intro y hy;simp at hy) (fun h₁ hns₁ hsb₁=>?_) hc.kind
 dsimp only[newEnv]at hns₁ hsb₁ ⊢
 have keep4:∀b o,s3.heap.get? b=some o->h₁.get? b=some o:=fun b o e=>hsb₁.extBut b o (z5 (h9 e)) (d7 _ e)
 have I4:=c2d (tk:=s3.toks+([]:List (Str×Value)).length) hc I3 hcl hcl2 fpo3 fpl hns₁ keep4
 have st4:tn 0 h₁:=T.keep _ _ _ st fun b hb o e=>keep4 b o (keep3 b o e)
 have loop:∀s₄:d4,s₄={ s3 with heap:=h₁,toks:=s3.toks+([]:List (Str×Value)).length } ->
   a3U (model X.prog X.w) X.A (.compLoop (.ListComp elt [⟨.Tuple [.Name x px,.Name x2 py2] kt pt,iter,ifs,0⟩] scope pos) 0 (.ref it) (.ref D) (c2E scope cl s3.heap.objs.size X.env)) (RR (.ref D) s3.heap.objs.size) s₄:=by
  rintro s₄ rfl
  have stat:∀ {H':Hp},(∀b∈fp,H' b=none)->∀b∈fp,a1K (U9 X scope cl s3.heap.objs.size x x2 fp s3 (upd H1 D (.lst []))) [] H' b:=fun hn b hb=>
   ⟨hn b hb,z5 (fpl b hb),fun hf=>by
    rcases c5.mp (I3.stkSub b hf)with e | e
    ·exact(fpo b hb).2.1 e
    ·exact(fpo b hb).2.2.1 e,.inl hb,fun y c e=>(fpo b hb).2.2.2.2.1 y c (hcl y c e),fun p hp=>absurd (show p∈([]:List (Addr×Obj))from hp) (by simp)⟩
  refine b3r (env:=c2E scope cl s3.heap.objs.size X.env) (fun n s'=>∃i ys H',Inv (U9 X scope cl s3.heap.objs.size x x2 fp s3 (upd H1 D (.lst []))) [] (none::none::σ) H' s'/\tn i s'.heap/\(∀b∈fp,H' b=none)/\W i n ys H') ?_ m0
   ⟨0,[],_,I4,st4,fun b hb=>(fpo3 b hb).1,w0⟩
  rintro n s5 ⟨i,ys,H5,I5,st5,fr5,w5⟩
  obtain⟨hDy,alt⟩:=turn i n ys H5 w5
  rcases alt with ⟨stop,q⟩ | ⟨go,step⟩
  ·refine Q7 (T.done (U9 X scope cl s3.heap.objs.size x x2 fp s3 (upd H1 D (.lst []))) rfl rfl rfl hcalm i [] s5 _ H5 (fun _ _=>False) I5 (stat fr5) st5 stop) (fun r s6 ⟨hr,I6⟩=>?_) fun _ _ f=>f
   subst hr
   obtain⟨m6,n6,_⟩:=I6.loc
   have J6:Inv X pins σ H5 s6:=by
    refine I3.call' (ch:=fp) I6.os I6.base I6.hok I6.bare fun b hb=>?_
    obtain⟨_,f1,f2,f3,f4,f5⟩:=fpo3 b hb
    exact⟨f3,f1,f4,f5⟩
   refine hRR D _ s6 H5 m6 J6 n6 I6.free (a4f I3.lt) I3.sz (fun y c e z=>?_) (fun p hp z=>?_) q
   ·obtain⟨v,q⟩:=I3.cell y c e
    exact absurd q.lt (by rw[z];exact E8 _)
   ·exact absurd (h9 (I3.pin p hp).1) (by rw[z];exact E8 _)
  ·refine Q7 (T.item (U9 X scope cl s3.heap.objs.size x x2 fp s3 (upd H1 D (.lst []))) rfl rfl rfl hcalm i [] s5 _ H5 (fun _ _=>False) I5 (stat fr5) st5 go) (fun r s6 ⟨u,hr,h6⟩=>?_) fun _ _ f=>f
   subst hr
   refine thn h6 fun _ s6 ⟨xv,H6,I6,r6,y6,st6,fr6⟩=>?_
   have I6':=I6.pinned (stat fr6) (T.obj _ _ st6)
   obtain⟨pa,u1,u2,rfl,hsq,step⟩:=step xv H6 y6
   have hpg:PG (U9 X scope cl s3.heap.objs.size x x2 fp s3 (upd H1 D (.lst []))) (.Tuple [.Name x px,.Name x2 py2] kt pt) (b4A X.K 2 (a2V (v0 0) (a2V (v0 1) b4B))):=
    c4i (X:=U9 X scope cl s3.heap.objs.size x x2 fp s3 (upd H1 D (.lst []))) hcalm (b1u (b4h (i:=0) hc.nd rfl (.inl (a2o hc.own)) (.inr (a2o hc.own))) (b1u (b4h (i:=1) hc.nd rfl (.inl (a2o hc.own2)) (.inr (a2o hc.own2))) b9S))
   refine thn (hpg _ s6 (none::none::σ) H6 (.ref pa) u (fun σ' H'=>σ'=some u1::some u2::σ/\H'=H6) I6' r6 ⟨pa,[u1,u2],rfl,hsq,rfl,_,_,rfl,_,_,rfl,rfl,rfl,rfl⟩) fun _ s7 ⟨σ7,H7,I7,e7,e7'⟩=>?_
   subst e7 e7'
   have again:∀ {s8:d4} {H8:Hp} {ys8:List V},Inv (U9 X scope cl s3.heap.objs.size x x2 fp s3 (upd H1 D (.lst []))) ([]++a7s fp s6.heap) (some u1::some u2::σ) H8 s8->(∃m',m'<n/\W (i+1) m' ys8 H8) ->
     ∃m,m<n/\∃i ys H',Inv (U9 X scope cl s3.heap.objs.size x x2 fp s3 (upd H1 D (.lst []))) [] (none::none::σ) H' s8/\tn i s8.heap/\(∀b∈fp,H' b=none)/\W i m ys H':=by
    rintro s8 H8 ys8 I8 ⟨m',hm,w8⟩
    refine⟨m',hm,i+1,ys8,H8,(I8.unpinned (pins:=[])).weak rfl (fun j v e=>?_),T.keep _ _ _ st6 fun b hb o e=>(I8.pin (b,o) (t9 _ (t9 _ (a2t hb e)))).1,fun b hb=>?_,w8⟩
    ·cases j with
     | zero=>cases e
     | succ j=>
      cases j with
      | zero=>cases e
      | succ j=>exact e
    ·obtain⟨o,e,d⟩:=T.obj _ _ st6 b hb
     exact(I8.pin (b,o) (t9 _ (t9 _ (a2t hb e)))).2.1
   refine thn (ht _ fp s3 _ _ s7 _ _ _ I7 step) (fun ok s8 ⟨H8,I8,q8⟩=>?_)
   cases ok with
   | false=>exact again I8 (by simpa using q8)
   | true=>
    rw[if_pos rfl]at q8
    rw[if_pos rfl]
    refine thn (he _ fp s3 _ _ s8 _ H8 _ I8 q8) (fun v s9 ⟨y,H9,I9,r9,hD9,hz9,w9⟩=>?_)
    refine Q7 (a9s (X:=U9 X scope cl s3.heap.objs.size x x2 fp s3 (upd H1 D (.lst []))) _ s9 _ H9 (.ref D) [y] (.ref D) [v] (fun _ H'=>H'=upd H9 D (.lst (ys++[y]))) I9 rfl (.cons r9 .nil) ⟨D,ys,y,rfl,rfl,hD9,hz9,rfl⟩) (fun _ s10 ⟨_,H10,I10,_,e10⟩=>?_) fun _ _ f=>f
    subst e10
    exact again I10 w9
 exact d1s (loop _ rfl) (T.self X.A 0 _ _ _ st4 (loop _ rfl))
theorem b6O(hc:a3Q X.N X.env.scope scope x x2)(I:Inv X pins σ H s):∀y∈scope.names,y.2=.free->∃c,X.env.cells.lookup y.1=some c:=by
 intro y hy e
 rcases hc.fr y hy e with q | q
 ·exact I.ok.has y.1 (.inl q)
 ·exact I.ok.has y.1 (.inr q)
theorem c4n{wi:TI}(hc:a3Q X.N X.env.scope scope x x2)(hcalm:X.calm=true)(hi:PI X (.Tuple [.Name x px,.Name x2 py2] kt pt) iter wi)
  (ht:∀cl C fp s3 H3,PTs (U9 X scope cl C x x2 fp s3 H3) ifs tt) (he:∀cl C fp s3 H3,PE (U9 X scope cl C x x2 fp s3 H3) elt te)
  (hs:∀x,Y7 iter X.env x=pure x:=by intro _;rfl) :
  PE X (.ListComp elt [⟨.Tuple [.Name x px,.Name x2 py2] kt pt,iter,ifs,0⟩] scope pos) (a7f X.K wi tt te):=by
 intro pins s σ H Q I h
 obtain⟨cl,hclos,hcl,hcl2⟩:=a7F (b6O hc I)
 rw[eval_ListComp]
 refine a7L (use:=none) rfl hs hclos hc.kind hc.names (thn (hi pins s σ H _ I h) fun v s1 h1=>thn h1 fun itv s2 ⟨it,fp,tn,J,H2,e,I2,T,st,fpo,R⟩=>?_)
 subst e
 refine b6P (RR:=fun acc C=>compPost (model X.prog X.w) X.A X.xe none (EP X pins σ Q) acc C) (Q:=Q) hc hcalm hcl hcl2 (ht cl) (he cl) I2 T st fpo R ?_
 intro D C s' H' m I' n f1 f2 f3 f4 f5 q
 exact⟨m,n,fun h' sb=>⟨.ref D,H',I'.turned (t':=s'.toks) (fun b o hb e=>(sb.2 b hb).trans e) f1 f2 (.inr f3) f4 f5,rfl,q⟩⟩
end
section
variable {x x2:Str}{px py2 pt:Pos}{kt:Nat}
end
section
def c3W:List V->Hp->VK->Prop:=fun xs H Q=>match xs with
 | [.int i,.int j]=>Q (.int (if j<i then j else i)) H
 | _=>False
theorem c2h(hc:X.calm=true):W9 X (.builtin "min") c3W:=(c2n hc).imp fun xs H Q h=>by
 unfold c3W at h
 split at h
 ·exact⟨_,_,rfl,h⟩
 ·exact h.elim
theorem c2r:∀bs:List Bool,((l6 bs.length).any fun i=>(bs[i]?).getD false)=bs.any id:=by
 intro bs
 induction bs with
 | nil=>rfl
 | cons b r ih=>
  rw[j9,List.range_succ_eq_map,O7,List.any_map,O7]
  rw[<-ih]
  rfl
def b8c:List V->Hp->VK->Prop:=fun vs H Q=>match vs with
 | [.ref l]=>match H l with
  | some (.lst xs)=>∃bs,R7 xs=some bs/\Q (.bl (bs.any id)) H
  | _=>False
 | _=>False
theorem c2k(hc:X.calm=true):W9 X (.builtin "any") b8c:=fun pins s σ H xs us Q I r h=>by
 unfold b8c at h
 split at h
 ·split at h
  ·rename_i l _ ys hl
   obtain⟨bs,e,q⟩:=h
   obtain⟨u,rfl,ru⟩:=a4n r
   cases ru
   obtain⟨its,rv,pl,hz⟩:=I.list (SqL.of hl)
   have hlt:l<s.heap.objs.size:=by obtain⟨_,e,_⟩:=pl.isList;exact h9 e
   have hlen:=rv.length
   have hbl:=a9y e
   refine call_any_walk (b7q pl.isList ?_)
   refine⟨s.heap.objs.size,[s.heap.objs.size,l],[s.heap.objs.size],its.toArray.size,_,_,fun i=>(bs[i]?).getD false,rfl,Walks.list (A:=X.A.in1) (I.ok.hd hc) _ l (z5 hlt) its.toArray,
    ⟨⟨_,C0 _ rfl,rfl,rfl⟩,pl.isList.push _⟩,fun i v s' Q' E' hP hQ=>?_,fun h' tk hk=>?_⟩
   ·have hP:its[i]? = some v:=by simpa using hP
    have hi:i<ys.length:=by rw[hlen];exact(o7.mp hP).1
    have ey:ys[i]? = some ys[i]:=by simp[hi]
    obtain⟨b,eb,ez⟩:=a9z e ey
    obtain⟨u,eu,ru⟩:=rv.get ey
    rw[hP]at eu
    cases eu
    rw[ez]at ru
    cases ru
    simp only[eb,a2N]at hQ
    exact O4 hQ
   ·have e2:((l6 its.toArray.size).any fun i=>(bs[i]?).getD false)=bs.any id:=by
     rw[j6,<-hlen,hbl]
     exact c2r bs
    rw[e2]
    exact⟨.bl _,H,I.kept (t':=tk) fun b x e=>hk b x (fun hm=>by rw[g8.mp hm]at e;exact E8 _ (h9 e)) (d7 _ e),rfl,q⟩
  ·exact h.elim
 ·exact h.elim
def a2T:List V->Option (List Int)
 | []=>some []
 | .int i::r=>(a2T r).map (i :: ·)
 | _=>none
theorem b1Q(ns:List Int):a2T (ns.map V.int)=some ns:=by
 induction ns with
 | nil=>rfl
 | cons s r ih=>simp[a2T,ih]
theorem a5X:∀ {xs:List V} {us:List Value} {ss:List Int},J0 xs us->a2T xs=some ss->c8W us ss
 | _,_,ss,.nil,e=>by cases e;exact .nil
 | x::xs,_,ss,.cons r t,e=>by
  cases x with
  | int s=>
   obtain⟨k,rfl⟩:=r
   cases e2:a2T xs with
   | none=>simp[a2T,e2]at e
   | some ss2=>
    simp[a2T,e2]at e
    subst e
    exact .cons _ _ (a5X t e2)
  | _=>simp[a2T]at e
def a6t:List V->Hp->VK->Prop:=fun vs H Q=>match vs with
 | [.ref l]=>match H l with
  | some (.lst xs)=>∃ns,a2T xs=some ns/\ns.length<64/\∀(p:Addr) (ms:List Int),ms.Perm ns->ms.Pairwise (· <= ·)->H p=none->Q (.ref p) (upd H p (.lst (ms.map V.int)))
  | _=>False
 | _=>False
theorem b4K:W9 X (.builtin "sorted") a6t:=fun pins s σ H xs us Q I r h=>by
 unfold a6t at h
 split at h
 ·split at h
  ·rename_i l _ ys hl
   obtain⟨ns,e,hn,q⟩:=h
   obtain⟨u,rfl,ru⟩:=a4n r
   cases ru
   obtain⟨its,rv,pl,hz⟩:=I.list (SqL.of hl)
   have hi:=a5X rv e
   have hil:=hi.length
   refine sorted_ints pl.isList hi (by omega) fun out ns' a1 a2 a3=>?_
   obtain⟨c,he⟩:=sortedAll_at s.heap its out
   have hl':=a2.length_eq
   refine⟨.ref _,_,I.laid (t':=s.toks) (a:=s.heap.objs.size+1) (o:=.lst (ns'.map V.int)) (fun b ob q=>sortedAll_old q) (a1n _) ?_,rfl,q _ ns' a2 a3 (I.hok.fresh (a1n _))⟩
   refine⟨by rw[a9,sizeLine_eq];omega,out.toList,c,a8Q a1,?_⟩
   exact he
  ·exact h.elim
 ·exact h.elim
def a9h:V->List V->Hp->VK->Prop:=fun x vs H Q=>match x,vs with
 | .ref l,[.int k]=>match H l with
  | some (.lst xs)=>∃ns,a2T xs=some ns/\ns.length<10000/\k∈ns/\Q (.int (ns.idxOf k:Nat)) H
  | _=>False
 | _,_=>False
theorem c1K:MtR X "list.index" a9h:=fun pins s σ H x xs v us Q I rx rv h=>by
 unfold a9h at h
 split at h
 ·split at h
  ·rename_i l k _ ys hl
   obtain⟨ns,e,hn,hk,q⟩:=h
   cases rx
   obtain⟨u,rfl,⟨t,rfl⟩⟩:=rv.one
   obtain⟨its,r,pl,hz⟩:=I.list (SqL.of hl)
   have hi:=a5X r e
   obtain⟨⟨cls,dd,data,sl⟩,ho,hc,n,hd⟩:=id pl.isList
   simp only at hc hd
   subst hc hd
   have hlen:=hi.length
   have hj:ns.idxOf k<ns.length:=b7n.mpr hk
   refine a3V a1L ⟨_,ho,rfl⟩ b5a (b3x _ _)
    (b2m l its.toArray n dd sl (.int k t) (isInt k) (ns.idxOf k) (by simpa[hlen]using hj) (by omega) ?_ ?_) ⟨ho,fun y hy=>(eq_isInt k t hi y (by simpa using hy)).at _ _,⟨.int _,H,I.tok _,⟨_,rfl⟩,q⟩⟩
   ·show isInt k its[ns.idxOf k]=true
    rw[isInt_at k hi _ (by omega) hj]
    simpa using List.getElem_idxOf hj
   ·intro j hjs hlt
    show isInt k its[j]=false
    rw[isInt_at k hi j (by simpa using hjs) (by omega)]
    exact ne_of_lt_idxOf hlt _
  ·exact h.elim
 ·exact h.elim
def a3O:V->List V->Hp->VK->Prop:=fun x vs H Q=>match x,vs with
 | .ref l,[.ref b]=>match H l,H b with
  | some (.lst xs),some (.lst zs)=>xs.length+zs.length<=j7/\Q .non (upd H l (.lst (xs++zs)))
  | _,_=>False
 | _,_=>False
theorem b1J:MtR X "list.extend" a3O:=fun pins s σ H x xs v us Q I rx rv h=>by
 refine c1L pins s σ H x xs v us Q I rx rv ?_
 unfold a3O at h
 split at h
 ·split at h
  ·exact⟨_,_,_,_,rfl,rfl,by assumption,by assumption,h.1,h.2⟩
  ·exact h.elim
 ·exact h.elim
def c1q:V->List V->Hp->VK->Prop:=fun x vs H Q=>match x,vs with
 | .ref l,[]=>match H l with
  | some (.lst xs)=>∃y,xs[xs.length - 1]? = some y/\Q y (upd H l (.lst xs.dropLast))
  | _=>False
 | _,_=>False
theorem c7y:MtR X "list.pop" c1q:=fun pins s σ H x xs v us Q I rx rv h=>by
 refine d0C pins s σ H x xs v us Q I rx rv ?_
 unfold c1q at h
 split at h
 ·split at h
  ·obtain⟨y,e,q⟩:=h
   exact⟨_,_,y,rfl,rfl,by assumption,e,q⟩
  ·exact h.elim
 ·exact h.elim
def a9g:List V->Hp->VK->Prop:=fun xs H Q=>match xs with
 | [.ref p]=>match H p with
  | some (.dK kvs)=>∀l,H l=none->Q (.ref l) (upd H l (.lst (kvs.map fun kv=>kV kv.1)))
  | _=>False
 | _=>False
theorem d2A{P:v8}{k:Key}(r:(X7 P w).is k u=true):F1 (kV k) u:=by
 rcases V4 (show b1N k u=true from r)with ⟨i,t,rfl,rfl⟩ | ⟨x,t,rfl,rfl⟩
 ·exact⟨t,rfl⟩
 ·exact⟨t,rfl⟩
theorem b9q:∀ {xs:List V} {us:List Value},xs.length=us.length->(∀(i:Nat) x u,xs[i]? = some x->us[i]? = some u->F1 x u)->J0 xs us
 | [],[],_,_=>.nil
 | x::xs,u::us,hl,h=>.cons (h 0 x u rfl rfl) (b9q (by simpa using hl) fun i y v a b=>h (i+1) y v (by simpa using a) (by simpa using b))
 | [],u::us,hl,_=>by cases hl
 | x::xs,[],hl,_=>by cases hl
theorem c8L:∀ {l:List (Key×V)} {la:List (Key×Value)} {i:Nat} {k:Key} {x:Value},KV l la->la[i]? = some (k,x)->∃y,l[i]? = some (k,y)
 | p::l,q::la,0,k,x,h,e=>by
  have h:Paired _ _ _:=h
  cases h with
  | cons h t=>
   cases e
   exact⟨p.2,by rw[b9l];rw[show k=p.1 from h.1.symm]⟩
 | p::l,q::la,i+1,k,x,h,e=>by
  have h:Paired _ _ _:=h
  cases h with
  | cons h t => 
   obtain⟨y,hy⟩:=c8L (i:=i) (show KV l la from t) (by simpa using e)
   exact⟨y,by simpa using hy⟩
 | [],la,i,k,x,h,e=>by
  have h:Paired _ _ _:=h
  cases h
  cases e
 | p::l,[],i,k,x,h,e=>by
  have h:Paired _ _ _:=h
  cases h
theorem b6Y(hc:X.calm=true):W9 X (.type "list") a9g:=fun pins s σ H xs us Q I r h=>by
 unfold a9g at h
 split at h
 ·split at h
  ·rename_i p _ kvs hp
   obtain⟨u,rfl,ru⟩:=a4n r
   cases ru
   obtain⟨hz,hS,vs,rk,hD⟩:=c0j I.hok hp
   obtain⟨ep,hat⟩:=hD.dictAt
   have hl:=Paired.length rk
   refine PySem.W.kdl_call (PySem.W.kdl_dict (knd:=X7 X.prog X.w) (kvs:=vs) (ep:=ep) hS) (I.ok.hd hc) hat (by omega) fun h' tk acc c hk ha hit=>?_
   refine⟨.ref _,_,I.laid (t':=tk) (a:=s.heap.objs.size) (o:=.lst (kvs.map fun kv=>kV kv.1)) hk (d9 _) ?_,rfl,h _ (I.hok.fresh (d9 _))⟩
   refine⟨by rw[a9];exact hz,acc.toList,c,?_,by simpa using ha⟩
   refine b9q (by have:=hit.1;rw[a9];simp;omega) fun i x u a b=>?_
   obtain⟨k,y,e1,e2⟩:=hit.2 i u (by rw[<-O3];exact b)
   obtain⟨z,e3⟩:=c8L rk e1
   rw[c8,e3]at a
   cases a
   exact d2A e2
  ·exact h.elim
 ·exact h.elim
inductive Dq(K:Fg)(H:Hp):Nat->V->V->Prop
 | flat {n:Nat} {x:V}:K8 x=true->Dq K H n x x
 | tup {n:Nat} {a b:Addr} {xs ys:List V}:SqT K H a xs->SqT K H b ys->xs.length=ys.length->(∀(j:Nat) x y,xs[j]? = some x->ys[j]? = some y->Dq K H n x y)->Dq K H (n+1) (.ref a) (.ref b)
 | lst {n:Nat} {a b:Addr} {xs ys:List V}:SqL K H a xs->SqL K H b ys->xs.length=ys.length->(∀(j:Nat) x y,xs[j]? = some x->ys[j]? = some y->Dq K H n x y)->Dq K H (n+1) (.ref a) (.ref b)
theorem c5c{x:V}(h:K8 x=true):eqV x x=true:=by
 cases x with
 | non=>rfl
 | bl b=>simp[eqV]
 | int i=>simp[eqV]
 | str s=>simp[eqV]
 | byt b=>cases h
 | flt b=>cases h
 | ref a=>cases h
 | ty n=>cases h
theorem a8D{n:Nat}:(l6 n).all (fun _=>true)=true:=by simp
theorem Dq.both(I:Inv X pins σ H s){n:Nat}{x y:V}(d:Dq X.K H n x y):∀ {A:F3} {v u:Value},A.units+n<cLine->F1 x v->F1 y u ->
  SeqAt.EqAt A s v u true/\(∀a b,x=.ref a->y=.ref b->SeqAt.RcAt A s v u true/\SeqAt.RcNeAt A s v u false):=by
 induction d with
 | @flat n x hf=>
  intro A v u hu rv ru
  refine⟨?_,fun a b e=>by subst e;cases hf⟩
  have:=b8W (A:=A) (s:=s) rv ru hf hf
  rwa [c5c hf]at this
 | @tup n a b xs ys ha hb hl hq ih=>
  intro A v u hu rv ru
  cases rv
  cases ru
  obtain⟨us,r1,t1,_⟩:=I.tuple ha
  obtain⟨ws,r2,t2,_⟩:=I.tuple hb
  have l1:=r1.length
  have l2:=r2.length
  have el:∀j (h1:j<us.toArray.size) (h2:j<ws.toArray.size),SeqAt.EqAt A.in1 s us.toArray[j] ws.toArray[j] true:=by
   intro j h1 h2
   have h1':j<xs.length:=by simpa[l1]using h1
   have h2':j<ys.length:=by simpa[l2]using h2
   obtain⟨u1,e1,q1⟩:=r1.get (i:=j) (x:=xs[j]) (by simp)
   obtain⟨u2,e2,q2⟩:=r2.get (i:=j) (x:=ys[j]) (by simp)
   have z1:us.toArray[j]=u1:=by
    have:=(o7.mp e1).2
    simpa using this
   have z2:ws.toArray[j]=u2:=by
    have:=(o7.mp e2).2
    simpa using this
   rw[z1,z2]
   exact(ih j _ _ (by simp) (by simp) (A:=A.in1) (by show A.units+1+n<cLine;omega) q1 q2).1
  have c1:SeqAt.RcAt A s (.ref a) (.ref b) true:=by
   have q:=SeqAt.RcAt.tuples (A:=A) (e:=fun _=>true) t1 t2 (by omega) el
   have e:us.toArray.size=ws.toArray.size:=by simp[<-l1,<-l2,hl]
   rw[a8D,e,beq_self_eq_true]at q
   exact q
  have c2:SeqAt.RcNeAt A s (.ref a) (.ref b) false:=by
   have q:=SeqAt.RcNeAt.tuples (A:=A) (e:=fun _=>true) t1 t2 (by omega) el
   have e:us.toArray.size=ws.toArray.size:=by simp[<-l1,<-l2,hl]
   rw[a8D,e,beq_self_eq_true]at q
   exact q
  refine⟨?_,fun _ _ _ _=>⟨c1,c2⟩⟩
  by_cases e:a=b
  ·subst e;exact SeqAt.EqAt.same _
  ·exact SeqAt.EqAt.of_refs e c1
 | @lst n a b xs ys ha hb hl hq ih=>
  intro A v u hu rv ru
  cases rv
  cases ru
  obtain⟨us,r1,t1,_⟩:=I.list ha
  obtain⟨ws,r2,t2,_⟩:=I.list hb
  have l1:=r1.length
  have l2:=r2.length
  have el:∀j (h1:j<us.toArray.size) (h2:j<ws.toArray.size),SeqAt.EqAt A.in1 s us.toArray[j] ws.toArray[j] true:=by
   intro j h1 h2
   have h1':j<xs.length:=by simpa[l1]using h1
   have h2':j<ys.length:=by simpa[l2]using h2
   obtain⟨u1,e1,q1⟩:=r1.get (i:=j) (x:=xs[j]) (by simp)
   obtain⟨u2,e2,q2⟩:=r2.get (i:=j) (x:=ys[j]) (by simp)
   have z1:us.toArray[j]=u1:=by
    have:=(o7.mp e1).2
    simpa using this
   have z2:ws.toArray[j]=u2:=by
    have:=(o7.mp e2).2
    simpa using this
   rw[z1,z2]
   exact(ih j _ _ (by simp) (by simp) (A:=A.in1) (by show A.units+1+n<cLine;omega) q1 q2).1
  have e:us.toArray.size=ws.toArray.size:=by simp[<-l1,<-l2,hl]
  have c1:SeqAt.RcAt A s (.ref a) (.ref b) true:=by
   have q:=SeqAt.RcAt.lists (A:=A) (e:=fun _=>true) t1.isList t2.isList e (by omega) el
   rw[a8D]at q
   exact q
  have c2:SeqAt.RcNeAt A s (.ref a) (.ref b) false:=by
   have q:=SeqAt.RcNeAt.lists (A:=A) (e:=fun _=>true) t1.isList t2.isList e (by omega) el
   rw[a8D]at q
   exact q
  refine⟨?_,fun _ _ _ _=>⟨c1,c2⟩⟩
  by_cases e:a=b
  ·subst e;exact SeqAt.EqAt.same _
  ·exact SeqAt.EqAt.of_refs e c1
def c6z(K:Fg):R2:=fun x y H Q=>∃a b n,x=.ref a/\y=.ref b/\n<=20/\Dq K H n x y/\Q (.bl true) H
theorem c7h{k:Nat}(hr:R3 k X.A):OpR X (z8 .Eq) (c6z X.K):=by
 intro pins s σ H x y v u Q I rx ry ⟨a,b,n,e1,e2,hn,d,q⟩
 have hu:=hr.units
 exact((d.both I (A:=X.A) (by omega) rx ry).2 a b e1 e2).1 _ _ _ _ ⟨.bl true,H,I,rfl,q⟩
def c9B(K:Fg):R2:=fun x y H Q=>∃a b xs ys,x=.ref a/\y=.ref b/\SqT K H a xs/\SqT K H b ys/\xs.all K8=true/\ys.all K8=true/\Q (.bl (a2u xs ys)) H
theorem c7i{k:Nat}(hr:R3 k X.A):OpR X (z8 .Eq) (c9B X.K):=by
 intro pins s σ H x y v u Q I rx ry ⟨a,b,xs,ys,e1,e2,ha,hb,fx,fy,q⟩
 have hu:=hr.units
 subst e1 e2
 cases rx
 cases ry
 obtain⟨us,r1,t1,_⟩:=I.tuple ha
 obtain⟨ws,r2,t2,_⟩:=I.tuple hb
 have l1:=r1.length
 have l2:=r2.length
 have q1:=SeqAt.RcAt.tuples (A:=X.A) t1 t2 (by omega) (a8w r1 r2 fx fy)
 simp only[j6,<-l1,<-l2]at q1
 exact q1 _ _ _ _ ⟨.bl (a2u xs ys),H,I,rfl,q⟩
def c9A(K:Fg):R2:=fun x y H Q=>∃p xs,y=.ref p/\SqT K H p xs/\K8 x=true/\xs.all K8=true/\Q (.bl (inV x xs)) H
theorem c7g:OpR X (z8 .In) (c9A X.K):=b3f.imp fun x y H Q ⟨p,xs,e,h1,h2,h3,q⟩=>⟨p,xs,e,.inr h1,h2,h3,q⟩
theorem c4e{e c:Option Expr}:PS X (.Raise e c pos) (fun _ _ _=>False):=fun _ _ _ _ _ _ h=>h.elim
structure b7f(P:v8)(w:World)(K:Fg)(mg:Str->Option Value)(base:Heap)(k:Nat)(x:Str)(C:Addr)(ps:List Str)(sp:Sp):Prop where
 ex:∃f fd,F5 P w K mg base CX0 k f fd ps sp/\mg x=some (.ref C)/\Mk K C f/\a2d K fd ps []
theorem d2k{k j:Nat}{x:Str}{C:Addr}{e:Expr}{es:List Expr}{t:TA}{p:Pos}(M:b7f X.prog X.w X.K X.mg X.base k x C ps sp)(hr:R3 j X.A)(hk:k+1<=j)(hg:Gl X x)(ha:PA X (e::es) t)
  (hdb:(x == ("__debug__" : Str))=false:=by decide) (he:g6 (e::es) X.env=(false,eval e X.env)::g6 es X.env:=by rfl) (hpl:(X5 pos (g6 es X.env)).any (·.1)=false:=by rfl) :
  PE X (.Call (.Name x p) (e::es) [] pos) (b2X C sp [] E0 t):=by
 obtain⟨f,fd,F,hm,hM,hb⟩:=M.ex
 exact c6T hM F (hr.mono hk) hg hm hb .nil c4s ha hdb he hpl
structure b0y(P:v8)(w:World)(K:Fg)(mg:Str->Option Value)(base:Heap)(k:Nat)(m:Str)(C:Addr)(ps:List Str)(sp:Sp):Prop where
 ex:∃f fd,F5 P w K mg base CX0 k f fd ps sp/\Cls K C/\d1h K C m f/\a2d K fd ps []
theorem c9W{pl:Sem Bool}{k j:Nat}{m:Str}{C:Addr}{o e:Expr}{es:List Expr}{ta:TE}{t:TA}{apos:Pos}(M:b0y X.prog X.w X.K X.mg X.base k m C ps sp)(hr:R3 j X.A)(hk:k<=j)(ho:PE X o ta)(ha:PA X (e::es) t)
  (hst:g6 (e::es) X.env=(false,eval e X.env)::g6 es X.env:=by rfl) (hpl:(X5 pos (g6 es X.env)).any (·.1)=false:=by rfl)
  (ht:eval (.Call (.Attribute o m apos) (e::es) [] pos) X.env=(do
   let ov <-eval o X.env
   c2L apos.atName
   let(f,first) <-a4C [ov] (c2M ov m pl)
   callWith pos f first (X5 pos (g6 (e::es) X.env)) (b5f pos (a5B [] X.env))):=by rfl) :
  PE X (.Call (.Attribute o m apos) (e::es) [] pos) (b5C C m sp [] E0 ta t):=by
 obtain⟨f,fd,F,c,hm,hb⟩:=M.ex
 exact c6S (pl:=pl) ho c hm F (hr.mono hk) hb .nil c4s ha hst hpl ht
end
theorem a8l{env:Env}:∀ {names:List (Str×a6J)} {y:Str},names.lookup y=some .free ->
  (names.map fun(n,k)=>if(k == NameKind.free&&env.scope.kind == .function&&env.kindOf n == some .cell)then (n,NameKind.cell)else (n,k)).lookup y=some .cell \/
  (names.map fun(n,k)=>if(k == NameKind.free&&env.scope.kind == .function&&env.kindOf n == some .cell)then (n,NameKind.cell)else (n,k)).lookup y=some .free
 | [],_,h=>by cases h
 | (n,k0)::r,y,h=>by
  have ih := @a8l env r y
  rw[J3]at h
  rw[C6]
  dsimp only
  cases hx:y == n with
  | true=>
   rw[hx]at h
   cases h
   by_cases hc:(NameKind.free == NameKind.free&&env.scope.kind == .function&&env.kindOf n == some .cell)=true
   ·rw[if_pos hc,J3,hx];exact .inl rfl
   ·rw[if_neg hc,J3,hx];exact .inr rfl
  | false=>
   rw[hx]at h
   by_cases hc:(k0 == NameKind.free&&env.scope.kind == .function&&env.kindOf n == some .cell)=true
   ·rw[if_pos hc,J3,hx];exact ih h
   ·rw[if_neg hc,J3,hx];exact ih h
theorem c0f{sc1 sc:Scope}(h:∀y∈sc.names,y.2=.free->sc1.names.lookup y.1=some .free):∀y∈sc.names,y.2=.free->(a8M sc1 env).names.lookup y.1=some .cell\/(a8M sc1 env).names.lookup y.1=some .free:=
 fun y hy e=>a8l (h y hy e)
end L2
namespace PySem
open Sem (wp)
namespace F
end F
section
variable {prog:v8}{w:World}{A:F3}{E:Value->d4->Prop}{h:Heap}{g:Array GenState}{d:Drawn}{t:Nat}{os:OsState}{a:Addr}{xs:Array Value}{n:Nat}{sl:Array (Option Value)}
end
end PySem
namespace PySem
open Sem (wp)
namespace F
end F
section
variable {prog:v8}{w:World}{K:Type}[DecidableEq K]{knd:KeyKind prog w K}{A:F3}{s:d4}{R:b9n->d4->Prop}
end
section
variable {prog:v8}{w:World}{K:Type}[DecidableEq K]{knd:KeyKind prog w K}{A:F3}{E:Value->d4->Prop}{s:d4}
end
end PySem
namespace L2
open PySem PySem.Spec PyProof.Rows
section
variable {X:Cx}
end
section
variable {X:Cx}{tg:Expr}
end
section
variable {X:Cx}
end
section
variable {X:Cx}
def a2s:List V->Hp->VK->Prop:=fun xs H Q=>match xs with
 | [.ref p]=>match H p with
  | some (.lst ys)=>∀l,H l=none->Q (.ref l) (upd H l (.tup ys))
  | _=>False
 | _=>False
theorem b6X:W9 X (.type "tuple") a2s:=b2E.imp fun xs H Q h=>by
 unfold a2s at h
 split at h
 ·split at h
  ·exact⟨_,_,rfl,.inl ⟨SqL.of (by assumption),h⟩⟩
  ·exact h.elim
 ·exact h.elim
end
structure IsC(K:Fg)(C:Addr):Prop where
 cl:Cls K C
 ha:z6 K (.ref C) "__class__" = some (some (.builtin "object.__class__"))
 hn:a4g K (.builtin "object.__class__") "__get__" = some (some (.builtin "getset_descriptor.__get__"))
 htk:b2k K (.builtin "object.__class__")=some true
 hm:a2M K C (.type "object")=some true
section
variable {P:v8}{w:World}{K:Type}[DecidableEq K]{knd:HeapKind P w K}{A:F3}{E:Value->d4->Prop}{s:d4}
end
section
variable {X:Cx}
end
end L2
namespace PySem
open Sem (wp)
section
variable {prog:v8}{w:World}{A:F3}{E:Value->d4->Prop}{s:d4}
end
end PySem
namespace L2
open PySem PySem.Spec PyProof.Rows
section
variable {X:Cx}
end
end L2
namespace PySem
open Sem (wp)
section
variable {prog:v8}{w:World}{K:Type}[DecidableEq K]{knd:HeapKind prog w K}{A:F3}{s:d4}{R:b9n->d4->Prop}
end
section
variable {prog:v8}{w:World}{K:Type}[DecidableEq K]{knd:HeapKind prog w K}{A:F3}{E:Value->d4->Prop}{s:d4}
end
end PySem
namespace L2
open PySem PySem.Spec PyProof.Rows
variable{X:Cx}{pins:List (Addr×Obj)}{σ:St}{H:Hp}{s:d4}
section
end
section
variable {a:Addr}
end
abbrev XE:=List Key×Addr×V
section
variable {a b:Addr}{xs:List XE}{k:List Key}
end
section
variable {i o:Expr}{ti to:TE}
end
section
end
mutual
inductive RdP(H:Hp):V->PyData->Prop
 | non:RdP H .non .none
 | bl (b:Bool):RdP H (.bl b) (.bool b)
 | int (i:Int):RdP H (.int i) (.int i)
 | str (s:Str):RdP H (.str s) (.str s)
 | lst {a:Addr} {xs:List V} {ds:List PyData}:H a=some (.lst xs)->a9D H xs ds->RdP H (.ref a) (.list ds)
 | tup {a:Addr} {xs:List V} {ds:List PyData}:H a=some (.tup xs)->a9D H xs ds->RdP H (.ref a) (.tuple ds)
 | dct {a:Addr}:H a=some (.dK [])->RdP H (.ref a) (.dict [])
inductive a9D(H:Hp):List V->List PyData->Prop
 | nil:a9D H [] []
 | cons {x:V} {xs:List V} {d:PyData} {ds:List PyData}:RdP H x d->a9D H xs ds->a9D H (x::xs) (d::ds)
end
section
variable {H':Hp}{P:v8}{w:World}{h:Heap}
mutual
theorem RdP.same:∀ {x:V} {d:PyData},(∀a o,H a=some o->H' a=some o)->RdP H x d->RdP H' x d
 | _,_,_,.non=>.non
 | _,_,_,.bl b=>.bl b
 | _,_,_,.int i=>.int i
 | _,_,_,.str s=>.str s
 | _,_,k,.lst e r=>.lst (k _ _ e) (a9D.same k r)
 | _,_,k,.tup e r=>.tup (k _ _ e) (a9D.same k r)
 | _,_,k,.dct e=>.dct (k _ _ e)
theorem a9D.same:∀ {xs:List V} {ds:List PyData},(∀a o,H a=some o->H' a=some o)->a9D H xs ds->a9D H' xs ds
 | _,_,_,.nil=>.nil
 | _,_,k,.cons r rs=>.cons (RdP.same k r) (a9D.same k rs)
end
mutual
theorem c3Q:∀ {x:V} {d:PyData} {v:Value},HOk P w H h->RdP H x d->F1 x v->d.showable=true->d.shown.length<=j7->∃as bs,Reads h v d as/\ReadAtMost h d.depth bs/\ReprK P w bs h d.depth v d.shown
 | _,_,_,_,.non,r,_,_=>by cases r;exact⟨[],[],.none,(fun _ h=>nomatch h),by simp only[PyData.shown];exact .of_is ReprIs.none _ _ _⟩
 | _,_,_,_,.bl b,r,_,_=>by cases r;exact⟨[],[],.bool b,(fun _ h=>nomatch h),by simp only[PyData.shown];exact .of_is (ReprIs.bool b) _ _ _⟩
 | _,_,_,_,.int i,r,hs,_=>by
  obtain⟨t,rfl⟩:=r
  exact⟨[],[],.int i t,(fun _ h=>nomatch h),by simp only[PyData.shown];exact .of_is (ReprIs.int t (by simpa[PyData.showable]using hs)) _ _ _⟩
 | _,_,_,_,.str s,r,_,hz=>by
  obtain⟨t,rfl⟩:=r
  exact⟨[],[],.str s t,(fun _ h=>nomatch h),by simp only[PyData.shown];exact .of_is (ReprIs.str s t (by simpa only[PyData.shown]using hz)) _ _ _⟩
 | _,_,_,ok,.lst (a:=a) (xs:=xs) (ds:=ds) e rs,r,hs,hz=>by
  cases r
  have hz':(listText (PyData.shownAll ds)).length<=j7:=by simpa only[PyData.shown]using hz
  obtain⟨_,its,n,rv,hg⟩:=(show U6 P w H h a (.lst xs)from ok a _ e)
  obtain⟨as,bs,q1,hb,hk⟩:=b8b ok rs rv (by simpa[PyData.showable]using hs) (fun t ht=>t5 (listText_mem_le ht) hz')
  have rd:Reads h (.ref a) (.list ds) (a::as):=.list hg rfl rfl q1
  have hna:a∉bs:=not_mem_of_deeper rd (by simp only[PyData.depth];omega) hb
  refine⟨_,a::bs,rd,ReadAtMost.cons rd (by simp only[PyData.depth];omega) hb,?_⟩
  simp only[PyData.depth,PyData.shown]
  cases its with
  | nil=>
   cases q1
   simp only[PyData.shownAll,listText_nil]
   exact ReprK.listEmpty hg rfl rfl
  | cons y l=>exact ReprK.list hg rfl rfl hna (by simpa using hk.length_eq) (fun i y e=>hk.item i y (by simpa using e))
 | _,_,_,ok,.tup (a:=a) (xs:=xs) (ds:=ds) e rs,r,hs,hz=>by
  cases r
  have hz':(tupleText (PyData.shownAll ds)).length<=j7:=by simpa only[PyData.shown]using hz
  obtain⟨_,its,rv,o,hg,hc,n,hd⟩:=(show U6 P w H h a (.tup xs)from ok a _ e)
  obtain⟨as,bs,q1,hb,hk⟩:=b8b ok rs rv (by simpa[PyData.showable]using hs) (fun t ht=>t5 (tupleText_mem_le ht) hz')
  have rd:Reads h (.ref a) (.tuple ds) as:=.tuple hg hc hd q1
  have hna:a∉bs:=not_mem_of_deeper rd (by simp only[PyData.depth];omega) hb
  refine⟨_,a::bs,rd,ReadAtMost.cons rd (by simp only[PyData.depth];omega) hb,?_⟩
  simp only[PyData.depth,PyData.shown]
  exact ReprK.tuple hg hc hd hna hk
 | _,_,_,ok,.dct (a:=a) e,r,hs,hz=>by
  cases r
  obtain⟨_,hsys,vs,rel,dd⟩:=c0j ok e
  cases rel
  obtain⟨o,es,ep,ho,hc,hdat,hk,hp,hn⟩:=dd
  have hes:es.toList=[]:=P0.mp hp.length
  have z1:ReadsAll h (es.toList.map (·.key)) (([]:List (PyData×PyData)).map (·.1)) []:=by rw[hes];exact .nil
  have z2:ReadsAll h (es.toList.map (·.val)) (([]:List (PyData×PyData)).map (·.2)) []:=by rw[hes];exact .nil
  have rd:Reads h (.ref a) (.dict []) (a::[]++[]):=.dict ho hc.1 hdat z1 z2
  have am:ReadAtMost h (PyData.dict []).depth [a]:=fun b hb=>by
   obtain rfl:=g8.mp hb
   exact⟨_,_,rd,d9 _⟩
  refine⟨_,[a],rd,am,?_⟩
  simp only[PyData.depth,PyData.shown,PyData.shownKv_eq]
  exact ReprK.dict ho hc.1 hdat hsys (by simp) (ReprEntriesK.of_two es.toList _ _ (by rw[hes];exact .nil) (by rw[hes];exact .nil))
theorem b8b:∀ {xs:List V} {ds:List PyData} {vs:List Value},HOk P w H h->a9D H xs ds->J0 xs vs->PyData.showableAll ds=true->(∀t∈PyData.shownAll ds,t.length<=j7)->∃as bs,ReadsAll h vs ds as/\ReadAtMost h (PyData.depthAll ds) bs/\ReprAllK P w bs h (PyData.depthAll ds) vs (PyData.shownAll ds)
 | _,_,_,_,.nil,r,_,_=>by cases r;exact⟨[],[],.nil,(fun _ h=>nomatch h),by simp only[PyData.shownAll];exact .nil⟩
 | _,_,_,ok,.cons (d:=d) (ds:=ds) q qs,r,hs,hz=>by
  cases r with
  | cons r rs=>
  have hs':d.showable=true/\PyData.showableAll ds=true:=by simpa[PyData.showableAll]using hs
  obtain⟨a1,b1,r1,hb1,k1⟩:=c3Q ok q r hs'.1 (hz _ (by simp only[PyData.shownAll];exact A6 ..))
  obtain⟨a2,b2,r2,hb2,k2⟩:=b8b ok qs rs hs'.2 (fun t ht=>hz t (by simp only[PyData.shownAll];exact c9 _ ht))
  refine⟨a1++a2,b1++b2,.cons r1 r2,?_,?_⟩
  ·intro b hm
   simp only[PyData.depthAll]
   rcases j8.mp hm with hm | hm
   ·obtain⟨d',as',r',hd'⟩:=hb1 b hm
    exact⟨d',as',r',t5 hd' (d1v _ _)⟩
   ·obtain⟨d',as',r',hd'⟩:=hb2 b hm
    exact⟨d',as',r',t5 hd' (d1n _ _)⟩
  ·simp only[PyData.depthAll,PyData.shownAll]
   exact .cons ((k1.more fun b hb=>v9 _ hb).level_le (d1v _ _)) (k2.more_le (fun b hb=>t9 _ hb) (d1n _ _))
end
end
section
variable {k:Nat}
end
theorem b0M:∀(ss:List Str) (n:Nat),J0 (ss.map V.str) (strsFrom n ss)
 | [],_=>.nil
 | s::ss,n=>.cons ⟨n,rfl⟩ (b0M ss (n+1))
section
variable {k:Nat}
def a7r:V->List V->Hp->VK->Prop:=fun x vs H Q=>∃a y:Str,x=.str a/\vs=[.str y]/\a.length<=1000000/\y.length≠0/\∀p,H p=none->Q (.ref p) (upd H p (.lst ((Txt.split a y).map V.str)))
theorem a6l(a y:Str):(Txt.split a y).length<=a.length+2:=by
 unfold Txt.split
 split
 ·simp
 ·split
  ·simp
  ·rw[len_partsBetween]
   have:=StrLaws.occ_length_le a y 0 a.length (a.length+1)
   omega
theorem c1J:MtR X "str.split" a7r:=fun pins s σ H x xs v us Q I rx rv h=>by
 obtain⟨a,y,rfl,rfl,hl,hy,q⟩:=h
 obtain⟨t,rfl⟩:=rx
 obtain⟨u,rfl,⟨t',rfl⟩⟩:=rv.one
 have hy':(y.length == 0)=false:=by simpa using hy
 have hz:a.length<=j7:=t5 hl (by rw[sizeLine_eq];decide)
 have fin:∀(its:List Value) (tk:Nat),J0 ((Txt.split a y).map V.str) its->EP X pins σ Q (.ref s.heap.objs.size) { s with heap:=s.heap.push { cls:=.type "list",data:=.seq its.toArray },toks:=tk }:=fun its tk r=>by
  have hlen:=a6l a y
  refine⟨.ref s.heap.objs.size,_,I.laid (t':=tk) (o:=.lst ((Txt.split a y).map V.str)) (fun b ob e=>d7 _ e) (d9 _) ⟨?_,its,0,r,C0 _ rfl⟩,rfl,q _ I.fresh⟩
  rw[a9,sizeLine_eq]
  omega
 have one:Txt.split a y=[a]->J0 ((Txt.split a y).map V.str) [.str a t]:=fun e=>by rw[e];exact .cons ⟨t,rfl⟩ .nil
 cases h1:(decide (a.length<y.length)||decide (Builtin.Str.strKind a<Builtin.Str.strKind y))
 ·cases hf:(Builtin.Str.occurrences a y 0 a.length (a.length+1)).isEmpty
  ·have e:Txt.split a y=Builtin.Str.partsBetween a (Builtin.Str.occurrences a y 0 a.length (a.length+1)) y.length:=(if_neg (ne_true_of_eq_false h1)).trans (if_neg (ne_true_of_eq_false hf))
   have hn:(Builtin.Str.partsBetween a (Builtin.Str.occurrences a y 0 a.length (a.length+1)) y.length).length<=j7:=by
    rw[<-e,sizeLine_eq];have:=a6l a y;omega
   refine a3V V7 (typeIs_str _ _ _) a5g (a4z _ _) (meets_str_split_sep a y t t' h1 hy' hf hz hn) ?_
   exact fin _ _ (by rw[e];exact b0M _ _)
  ·have e:Txt.split a y=[a]:=(if_neg (ne_true_of_eq_false h1)).trans (if_pos hf)
   refine a3V V7 (typeIs_str _ _ _) a5g (a4z _ _) (meets_str_split_not_found a y t t' h1 hy' hf) ?_
   exact fin _ s.toks (one e)
 ·have e:Txt.split a y=[a]:=if_pos h1
  refine a3V V7 (typeIs_str _ _ _) a5g (a4z _ _) (meets_str_split_cannot_occur a y t t' h1) ?_
  exact fin _ s.toks (one e)
def c3Y:List V->Hp->VK->Prop:=fun xs H Q=>∃(z:Str) (n:Int),xs=[.str z]/\d1m z=some n/\z.length<=640/\Q (.int n) H
theorem b9c:W9 X (.type "int") c3Y:=fun pins s σ H xs us Q I r h=>by
 obtain⟨z,n,rfl,e,hl,q⟩:=h
 obtain⟨u,rfl,t,rfl⟩:=a4n r
 exact PySem.W.KIN.call_text e hl ⟨.int n,H,I.tok _,⟨_,rfl⟩,q⟩
def b1t:List V->Hp->VK->Prop:=fun xs H Q=>(∃z:Str,xs=[.str z]/\Q (.str z) H)\/(∃i:Int,xs=[.int i]/\i.natAbs<2 ^ 60/\Q (.str (toString i)) H) \/
 ∃p ys ds,xs=[.ref p]/\H p=some (.tup ys)/\a9D H ys ds/\PyData.showableAll ds=true/\PyData.hasDictAll ds=false/\(PyData.tuple ds).shown.length<=j7/\(PyData.tuple ds).depth<=40/\∀y:Str,Q (.str y) H
theorem b9a(hr:R3 k X.A):W9 X (.type "str") b1t:=fun pins s σ H xs us Q I r h=>by
 rcases h with ⟨z,rfl,q⟩ | ⟨i,rfl,hz,q⟩ | ⟨p,ys,ds,rfl,hp,rs,h1,h2,h3,h4,q⟩
 ·obtain⟨u,rfl,t,rfl⟩:=a4n r
  exact PySem.P.str_of_str ⟨.str z,H,I,⟨_,rfl⟩,q⟩
 ·refine b4J pins s σ H _ us Q I r ⟨i,rfl,?_,q⟩
  by_cases z:i.natAbs=0
  ·rw[z];decide +kernel
  ·exact c2z ((Nat.log2_lt z).mpr hz) (by decide)
 ·obtain⟨u,rfl,ru⟩:=a4n r
  cases ru
  have hu:=hr.units
  obtain⟨as,bs,rd,_,_⟩:=c3Q I.hok (.tup hp rs) (show F1 (.ref p) (.ref p)from rfl) (by simpa[PyData.showable]using h1) h3
  refine PySem.str_of_reads rd (by simpa[PyData.showable]using h1) (fun e=>by simp[PyData.hasDict,h2]at e) hr.gd (by omega) (fun _ _ e=>e) (fun h' u tk hk=>?_) h3
  exact⟨.str _,H,I.kept hk,⟨u,rfl⟩,q _⟩
theorem b0b(l:Addr)(items:Array Value)(n:Nat)(b:Addr)(items2:Array Value)(n2:Nat)(dd:Option Addr)(sl:Array (Option Value))(hs0:¬(!items.isEmpty&&Builtin.List.listTooLong (items.size+items2.size))=true)(hs1:items.size<=j7)(hs2:items.size+items2.size<=j7+1) :
  Meets (Builtin.«list.extend» ⟨[.ref l,.ref b],[]⟩) (fun _ R s=>s.heap.get? l=some { cls:=.type "list",dict:=none,data:=.seq items n,slots := #[] }/\s.heap.get? b=some { cls:=.type "tuple",dict:=dd,data:=.seq items2 n2,slots:=sl }/\R (.ok (.ret Value.none)) { s with heap:=s.heap.update l (Obj.mapSeq fun x=>x++items2),toks:=s.toks }):=
 .of_wp fun prog w A R s h=>by
  obtain⟨hp,g,d,tk,os⟩:=s
  obtain⟨hl,hb,h⟩:=h
  have f2:=AutoSeq1.sub_tuple_tuple
  have f5:=AutoSeq1.sub_tuple_list
  have hz':(items++items2).size<=j7+1:=by rw[c5R];exact hs2
  wp_walk using (wpAny_updateSeq hl rfl (hz:=hs1) (_hz':=hz')),AutoSeq1.wpAny_loadPart' hl,AutoSeq1.wpAny_loadPart' hb
  exact⟨_,rfl,h⟩
def b9Q:V->List V->Hp->VK->Prop:=fun x vs H Q=>a3O x vs H Q\/∃l b xs zs,x=.ref l/\vs=[.ref b]/\H l=some (.lst xs)/\H b=some (.tup zs)/\xs.length+zs.length<=100000/\Q .non (upd H l (.lst (xs++zs)))
theorem c4J:MtR X "list.extend" b9Q:=fun pins s σ H x xs v us Q I rx rv h=>by
 rcases h with h | ⟨l,b,xs,zs,rfl,rfl,hl,hb,hz,q⟩
 ·exact b1J pins s σ H x _ v us Q I rx rv h
 cases rx
 obtain⟨u,rfl,ru⟩:=rv.one
 cases ru
 obtain⟨z,its,n,r,_,e⟩:=I.lstM hl
 obtain⟨its2,r2,ht,_⟩:=I.tuple (SqT.of hb)
 obtain⟨⟨cls,dd,data,sl⟩,ho,hc,n2,hd⟩:=id ht
 simp only at hc hd
 subst hc hd
 have e1:=r.length
 have e2:=r2.length
 have big:(100000:Nat)<=j7:=by rw[sizeLine_eq];decide
 have hsz:its.toArray.size+its2.toArray.size<=j7:=by rw[j6,j6];omega
 have hlong:¬(!its.toArray.isEmpty&&Builtin.List.listTooLong (its.toArray.size+its2.toArray.size))=true:=by
  rw[b6r hsz,d1B]
  exact u5
 refine a3V Y9 ⟨_,e,rfl⟩ PySem.F.entry_list_extend (PySem.F.args_list_extend_2 _ _)
  (b0b l its.toArray n b its2.toArray n2 dd sl hlong (by omega) (by omega)) ⟨e,ho,?_⟩
 refine⟨.non,_,I.lset (its':=its++its2) hl e (by simp) (r.append r2) ?_,rfl,q⟩
 rw[j4]
 omega
def b4e:V->List V->Hp->VK->Prop:=fun x vs H Q=>∃l z xs j,x=.ref l/\vs=[.str z]/\H l=some (.lst xs)/\xs.all K8=true/\xs.length<=100000/\xs[j]? = some (.str z)/\(∀i y,i<j->xs[i]? = some y->eqV y (.str z)=false)/\Q (.int (j:Nat)) H
theorem b8y:MtR X "list.index" b4e:=fun pins s σ H x xs v us Q I rx rv h=>by
 obtain⟨l,z,xs,j,rfl,rfl,hl,hf,hz,hj,hno,q⟩:=h
 cases rx
 obtain⟨u,rfl,⟨t,rfl⟩⟩:=rv.one
 obtain⟨its,r,pl,_⟩:=I.list (SqL.of hl)
 obtain⟨⟨cls,dd,data,sl⟩,ho,hc,n,hd⟩:=id pl.isList
 simp only at hc hd
 subst hc hd
 have hlen:=r.length
 have hjl:j<xs.length:=(o7.mp hj).1
 have hat:∀(i:Nat) (hi:i<its.toArray.size),∃y,xs[i]? = some y/\eqU (.str z) its.toArray[i]=eqV y (.str z):=fun i hi=>by
  have hi':i<xs.length:=by simp at hi;omega
  have hy:xs[i]? = some xs[i]:=by simp[hi']
  obtain⟨w,hw,rw'⟩:=r.get hy
  have ew:its.toArray[i]=w:=by
   have:its[i]? = some (its[i]'(by simpa using hi)):=by simp
   rw[hw]at this
   cases this
   simp
  refine⟨_,hy,?_⟩
  rw[ew]
  exact b8V rw' (p9.mp hf _ (G0 hi'))
 refine a3V a1L ⟨_,ho,rfl⟩ b5a (b3x _ _)
  (b2m l its.toArray n dd sl (.str z t) (eqU (.str z)) j (by simp;omega) (by omega) ?_ ?_) ⟨ho,fun y hy=>a4v (x:=.str z) (v:=.str z t) ⟨t,rfl⟩ rfl r hf y (by simpa using hy),⟨.int _,H,I.tok _,⟨_,rfl⟩,q⟩⟩
 ·obtain⟨y,hy,e⟩:=hat j (by simp;omega)
  rw[hj]at hy
  cases hy
  rw[e]
  simp[eqV]
 ·intro i hi hlt
  obtain⟨y,hy,e⟩:=hat i hi
  rw[e]
  exact hno i y hlt hy
end
def Fly(h:Heap)(x T:Addr)(cls:Value)(dx:Option Addr)(fl:Value):Prop:=
 ∃oe vs oT ts,h.get? x=some oe/\(oe.cls=cls/\oe.dict=dx/\vs[2]? = some .none)/\oe.data=.fields vs/\vs[1]? = some (.ref T)/\T≠x/\h.get? T=some oT/\oT.data=.fields ts/\ts[3]? = some fl
def d2Q(h:Heap)(x:Addr)(cls:Value)(dx:Option Addr):Prop:=∃oe vs,h.get? x=some oe/\(oe.cls=cls/\oe.dict=dx/\vs[2]? = some .none)/\oe.data=.fields vs/\vs[1]? = some .none
def Chg(fs:List Addr)(x T:Addr)(h h':Heap):Prop:=∀b o,h.get? b=some o->b≠x->b≠T->(b∉fs->h'.get? b=some o)/\∃sl,h'.get? b=some { o with slots:=sl }
section
variable {M:Model}{A:F3}{E:Value->d4->Prop}{base:Heap}{env:Env}{outer:List Env}{L x T:Addr}{cls fl:Value}{dx:Option Addr}
theorem b6K{oe:Obj}{vs:Array Value}{head:Value}{had:Bool}{Q:Unit->d4->Prop}(hfr:A.frames=some (env::outer))(hl:s.heap.FunFrames base (env::outer))(hf:env.frame=some L)(hx:s.heap.get? x=some oe)(hd:oe.data=.fields vs)(hsz:1<vs.size)(h2:vs[2]? = some .none)
  (nf:x∉frs (env::outer)) (h:∀h' T,s.heap.objs.size<=T->Fly h' x T oe.cls oe.dict (rawInt L)->Chg (frs (env::outer)) x T s.heap h'->Q () { s with heap:=h' }) :
  wpAny M A (do let a <-frameOf env;let pl <-entryPlaceOf L had;let b <-EntryCells.newEntry head a .none (rawInt L) .none pl;setField (.ref x) 1 b) Q E s:=by
 refine d8 (wpAny_frameOf_fun hfr hl hf fun h1 k1=>?_)
 refine d8 (wpAny_entryPlaceOf fun pl hpl=>?_)
 unfold EntryCells.newEntry newFields
 refine d8 (a0C ?_ (hpl.sizeOk5 _ _ _ _ _))
 have x1:h1.get? x=some oe:=(k1.2.1 x nf).trans hx
 obtain⟨ob,hob⟩:∃ob:Obj,ob={ cls:=.type "traceback",dict:=none,data:=.fields ([head,.ref L,.none,rawInt L,.none]++(if pl.isEmpty then u6 6 Value.none else pl)).toArray }:=⟨_,rfl⟩
 rw[<-hob]
 have ho3:∃ts,ob.data=.fields ts/\ts[3]? = some (rawInt L):=by
  subst hob
  refine⟨_,rfl,?_⟩
  first | (simp;done) | (rcases hpl with rfl | ⟨_,_,_,_,_,_,_,rfl⟩ <;> simp)
 have hnf:ob.isFreed=false:=by subst hob;rfl
 have x2:=d7 (h:=h1) ob x1
 have nT:h1.objs.size≠x:=a4f (h9 x1)
 refine wpAny_setField x2 hd hsz (h _ h1.objs.size (a2J k1.1.symm) ?_ fun b o e n1 n2=>?_)
 ·have d3:=Obj.data_mapFields hd (·.setIfInBounds 1 (Value.ref h1.objs.size))
  obtain⟨ts,t1,t2⟩:=ho3
  exact⟨_,_,ob,ts,Y0 _ x2 (Obj.isFreed_of_fields d3),⟨Obj.cls_mapFields _ _,by obtain⟨c,d,dt,sl⟩:=oe;cases dt <;> rfl,by rw[Array.getElem?_setIfInBounds_ne (by decide)];exact h2⟩,d3,by simp[hsz],nT,by rw[Q6 _ _ nT.symm];exact C0 h1 hnf,t1,t2⟩
 ·have go:∀o',h1.get? b=some o'->((h1.push ob).update x (Obj.mapFields (·.setIfInBounds 1 (Value.ref h1.objs.size)))).get? b=some o':=fun o' e'=>by
   rw[Q6 _ _ (Ne.symm n1)];exact d7 _ e'
  refine⟨fun hb=>go o ((k1.2.1 b hb).trans e),?_⟩
  obtain⟨sl,e2⟩:=k1.2.2 b o e
  exact⟨sl,go _ e2⟩
theorem c7s{Q:Unit->d4->Prop}(hfr:A.frames=some (env::outer))(hl:s.heap.FunFrames base (env::outer))(hf:env.frame=some L)(nf:x∉frs (env::outer))
  (hx:d2Q s.heap x cls dx\/∃T,Fly s.heap x T cls dx .none/\T∉frs (env::outer))
  (h:∀h' T',s.heap.objs.size<=T'->Fly h' x T' cls dx (rawInt L)->(∀b o,s.heap.get? b=some o->b≠x->(∀T,Fly s.heap x T cls dx .none->b≠T)->(b∉frs (env::outer)->h'.get? b=some o)/\∃sl,h'.get? b=some { o with slots:=sl })->(∀b o,s.heap.get? b=some o->∃o',h'.get? b=some o')->Q () { s with heap:=h' }) :
  wpAny M A (noteFrame (.ref x) env) Q E s:=by
 rcases hx with ⟨oe,vs,he,⟨rfl,rfl,h2⟩,hd,h1⟩ | ⟨T,⟨oe,vs,oT,ts,he,⟨rfl,rfl,h2⟩,hd,h1,hTx,hT,hdT,h3⟩,nfT⟩
 ·unfold noteFrame
  simp only[hf]
  refine d8 (a8L he hd h1 ?_)
  rw[if_neg (by decide)]
  refine b6K hfr hl hf he hd (a1b.mp h1).1 h2 nf fun h' T' t1 t2 t3=>h h' T' t1 t2 (fun b o e n _=>t3 b o e n fun z=>E8 _ (t8 (h9 e) (by rw[z];exact t1))) fun b o e=>?_
  by_cases hb:b=x
  ·obtain⟨o',_,_,_,q,_⟩:=t2
   exact⟨o',by rw[hb];exact q⟩
  ·obtain⟨_,sl,q⟩:=t3 b o e hb fun z=>E8 _ (t8 (h9 e) (by rw[z];exact t1))
   exact⟨_,q⟩
 ·unfold noteFrame
  simp only[hf]
  refine d8 (a8L he hd h1 ?_)
  rw[if_pos (show(Value.ref T != Value.none)=true from by simp)]
  refine d8 (a8L hT hdT h3 ?_)
  rw[if_neg (show ¬((Value.none == rawInt L)=true)from by simp[rawInt])]
  refine d8 (wpAny_setField hT hdT (a1b.mp h3).1 ?_)
  have oth:∀b,b≠T->(s.heap.update T (Obj.mapFields (·.setIfInBounds 3 Value.none))).get? b=s.heap.get? b:=fun b hb=>Q6 _ _ (Ne.symm hb)
  have tT:∃o',(s.heap.update T (Obj.mapFields (·.setIfInBounds 3 Value.none))).get? T=some o':=⟨_,Y0 _ hT (Obj.isFreed_of_fields (Obj.data_mapFields hdT _))⟩
  have isT:∀T2,Fly s.heap x T2 oe.cls oe.dict .none->T2=T:=fun T2 ⟨oe',vs',_,_,a1,_,a2,a3,_⟩=>by
   rw[he]at a1;cases a1
   rw[hd]at a2;cases a2
   rw[h1]at a3;cases a3
   rfl
  have hsz:(s.heap.update T (Obj.mapFields (·.setIfInBounds 3 Value.none))).objs.size=s.heap.objs.size:=c8R ..
  refine b6K hfr (hl.of_keeps fun b o hb hnf=>⟨o,(oth b fun q=>by rw[q,hT]at hb;cases hb;exact hnf ts hdT).trans hb,rfl⟩) hf ((oth x (Ne.symm hTx)).trans he) hd (a1b.mp h1).1 h2 nf fun h' T' t1 t2 t3=>h h' T' (by rw[<-hsz];exact t1) t2 (fun b o e n n2=>?_) fun b o e=>?_
  ·have nb:b≠T:=n2 T ⟨oe,vs,oT,ts,he,⟨rfl,rfl,h2⟩,hd,h1,hTx,hT,hdT,h3⟩
   exact t3 b o ((oth b nb).trans e) n fun z=>E8 _ (t8 (h9 e) (by rw[z,<-hsz];exact t1))
  ·by_cases hb:b=x
   ·obtain⟨o',_,_,_,q,_⟩:=t2
    exact⟨o',by rw[hb];exact q⟩
   ·by_cases hbT:b=T
    ·obtain⟨o',q⟩:=tT
     rw[hbT]
     obtain⟨_,sl,q2⟩:=t3 T o' q hTx fun z=>E8 _ (t8 (h9 q) (t5 t1 (a2J z.symm)))
     exact⟨_,q2⟩
    ·obtain⟨_,sl,q2⟩:=t3 b o ((oth b hbT).trans e) hb fun z=>E8 _ (t8 (h9 e) (by rw[z,<-hsz];exact t1))
     exact⟨_,q2⟩
theorem c2b{Q:Unit->d4->Prop}(hx:Fly s.heap x T cls dx fl)(h:∀h',Fly h' x T cls dx .none->(∀b,b≠T->h'.get? b=s.heap.get? b)->h'.objs.size=s.heap.objs.size->Q () { s with heap:=h' }):wpAny M A (setFlight (.ref x) none) Q E s:=by
 obtain⟨oe,vs,oT,ts,he,hc,hd,h1,hTx,hT,hdT,h3⟩:=hx
 have hsz:3<ts.size:=(a1b.mp h3).1
 have oth:∀b,b≠T->(s.heap.update T (Obj.mapFields (·.setIfInBounds 3 Value.none))).get? b=s.heap.get? b:=fun b hb=>Q6 _ _ (Ne.symm hb)
 refine wpAny_setFlight_none he hd h1 hT hdT hsz (h _ ⟨oe,vs,_,_,(oth x (Ne.symm hTx)).trans he,hc,hd,h1,hTx,Y0 _ hT (Obj.isFreed_of_fields (Obj.data_mapFields hdT _)),Obj.data_mapFields hdT _,by simp[hsz]⟩ oth (c8R ..))
end
section
variable {x T:Addr}{cls fl:Value}{dx:Option Addr}
theorem Inv.flown{h':Heap}{ch:List Addr}(I:Inv X pins σ H s)(hch:∀b∈ch,a1K X pins H b)
  (k:∀b o,s.heap.get? b=some o->b∉ch->(b∉frs X.stack->h'.get? b=some o)/\∃sl,h'.get? b=some { o with slots:=sl }):Inv X pins σ H { s with heap:=h' }:=by
 have nc:∀c u,H c=some u->c∉ch:=fun c u e z=>by
  have:=(hch c z).1
  rw[e]at this;cases this
 have nf:∀c u,H c=some u->c∉frs X.stack:=fun c u e z=>by
  have:=I.stkFree c z
  rw[e]at this;cases this
 refine I.call (H':=H) (g':=s.gens) (t':=s.toks) (d':=s.drawn) (ch:=ch) ⟨fun b o e n hb hc=>(k b o e hc).1 hb,fun b o e n hb hc=>(k b o e hc).2,fun b o e n hc=>n,fun b o e hc=>let⟨_,q⟩:=(k b o e hc).2; ⟨_,q⟩,fun _ _ e=>e,fun _ _ _ e=>e,fun b ps e=>⟨#[],by rw[e];simp⟩⟩ (fun b u e=>?_) I.bare fun b hb=>?_
 ·refine(I.hok b u e).stay (fun c v hc q=>?_) (fun _ q=>q) fun _ _ q=>q
  rcases hc with z | z
  ·subst z
   exact(k c v q (nc c u e)).1 (nf c u e)
  ·exact(k c v q (nc c _ z)).1 (nf c _ z)
 ·obtain⟨_,n1,_,n3,n4,n5⟩:=hch b hb
  exact⟨n3,n1,n4,n5⟩
theorem a1K.nst(I:Inv X pins σ H s)(f:a1K X pins H x):x∉frs X.stack:=fun z=>by
 rcases c5.mp (I.stkSub x z)with e | e
 ·exact f.2.1 e
 ·exact f.2.2.1 e
structure Out(X:Cx)(pins:List (Addr×Obj))(σ:St)(H:Hp)(s:d4)(x:Addr)(cls:Value)(dx:Option Addr):Prop where
 inv:Inv X pins σ H s
 fx:a1K X pins H x
 fl:d2Q s.heap x cls dx\/∃T,a1K X pins H T/\Fly s.heap x T cls dx .none
structure d1k(X:Cx)(pins:List (Addr×Obj))(σ:St)(H:Hp)(s:d4)(x:Addr)(cls:Value)(dx:Option Addr)(fl:Value):Prop where
 inv:Inv X pins σ H s
 fx:a1K X pins H x
 fl:∃T,a1K X pins H T/\Fly s.heap x T cls dx fl
theorem b1F{M:Model}{E:Value->d4->Prop}{Q:Unit->d4->Prop}(hst:X.stack=X.env::X.outer)(hf:X.env.frame=some X.env.locals)(o:Out X pins σ H s x cls dx)(h:∀s',d1k X pins σ H s' x cls dx (rawInt X.env.locals)->Q () s'):wpAny M X.A (noteFrame (.ref x) X.env) Q E s:=by
 have I:=o.inv
 have hl:=I.stack
 have hfr:=I.ok.frames
 have nx:=o.fx.nst I
 rw[hst]at hl hfr nx
 refine c7s hfr hl hf nx (o.fl.imp id fun⟨T,f1,f2⟩=>⟨T,f2,by rw[<-hst];exact f1.nst I⟩) fun h' T' t1 t2 t3 t4=>?_
 have nT:H T'=none:=I.hok.fresh t1
 rcases o.fl with f | ⟨T,f1,f2⟩
 ·have J:Inv X pins σ H { s with heap:=h' }:=I.flown (ch:=[x]) (fun b hb=>by rw[g8.mp hb];exact o.fx) fun b ob e n=>by
   rw[hst]
   refine t3 b ob e (fun z=>n (by simp[z])) fun T g z=>?_
   obtain⟨oe,vs,a1,_,a2,a3⟩:=f
   obtain⟨oe',vs',_,_,b1,_,b2,b3,_⟩:=g
   rw[a1]at b1;cases b1
   rw[a2]at b2;cases b2
   rw[a3]at b3;cases b3
  exact h _ ⟨J,o.fx,T',I.fpOk t1 nT,t2⟩
 ·have J:Inv X pins σ H { s with heap:=h' }:=I.flown (ch:=[x,T]) (fun b hb=>by
   simp only[c5,p8,or_false]at hb
   rcases hb with rfl | rfl
   ·exact o.fx
   ·exact f1) fun b ob e n=>by
   rw[hst]
   refine t3 b ob e (fun z=>n (by simp[z])) fun T2 f z=>n ?_
   obtain⟨oe,vs,_,_,a1,_,a2,a3,_⟩:=f2
   obtain⟨oe',vs',_,_,b1,_,b2,b3,_⟩:=f
   rw[a1]at b1;cases b1
   rw[a2]at b2;cases b2
   rw[a3]at b3;cases b3
   simp[z]
  exact h _ ⟨J,o.fx,T',I.fpOk t1 nT,t2⟩
theorem a3F{M:Model}{A:F3}{E:Value->d4->Prop}{Q:Unit->d4->Prop}(o:d1k X pins σ H s x cls dx fl)(h:∀s',d1k X pins σ H s' x cls dx .none->Q () s'):wpAny M A (setFlight (.ref x) none) Q E s:=by
 obtain⟨T,f1,f2⟩:=o.fl
 refine c2b f2 fun h' g1 g2 g3=>h _ ⟨o.inv.flown (ch:=[T]) (fun b hb=>by rw[g8.mp hb];exact f1) fun b ob e n=>?_,o.fx,T,f1,g1⟩
 have q:=(g2 b fun z=>n (by simp[z])).trans e
 exact⟨fun _=>q,ob.slots,q⟩
end
def CX1(P:v8)(w:World):CXT:=fun outer H s E e s'=>∃x T cls dx H',e=.ref x/\s'.os=s.os/\b0C s'.gens/\Un (frs outer) [] H H' s.heap s'.heap/\HOk P w H' s'.heap/\(s.heap.objs.size<=x/\s.heap.objs.size<=T)/\(H' x=none/\H' T=none)/\Fly s'.heap x T cls dx .none/\E cls dx H'
def Wi(X:Cx)(E:St->XK):Prop:=∀(pins:List (Addr×Obj)) (σ:St) (H:Hp) (s:d4) (x:Addr) (cls:Value) (dx:Option Addr),Out X pins σ H s x cls dx->E σ cls dx H->X.xe (.ref x) s
theorem c4w{s':d4}{E:XK}{e:Value}(I:Inv X pins σ H s)(c:CX1 X.prog X.w X.stack H s E e s'):∃x cls dx H',e=.ref x/\Out X pins σ H' s' x cls dx/\E cls dx H':=by
 obtain⟨x,T,cls,dx,H',rfl,os,bare,un,hok,⟨n1,n2⟩,⟨m1,m2⟩,f,e⟩:=c
 have J:Inv X pins σ H' s':=I.call' os un hok bare (ch:=[]) fun b z=>absurd z (by simp)
 exact⟨x,cls,dx,H',rfl,⟨J,I.fpOk n1 m1,.inr ⟨T,I.fpOk n2 m2,f⟩⟩,e⟩
theorem a2O{P:v8}{w:World}{K:Fg}{mg:Str->Option Value}{base:Heap}{N:List Str}{qual:Str}{scope:Scope}{f:Addr}{cd:Value}{A:F3}{outer:List Env}{s₀:d4}{H₀:Hp}{E:XK} :
  Wi (a8x (CX1 P w) P w K mg base N qual scope f cd A outer s₀ H₀ E) fun _=>E:=by
 intro pins σ H s x cls dx o q
 show wpAny _ _ (leaving _ _) _ _ _
 unfold leaving
 refine d8 (b1F (X:=a8x (CX1 P w) P w K mg base N qual scope f cd A outer s₀ H₀ E) rfl rfl o fun s1 h1=>?_)
 refine a3F h1 fun s2 h2=>?_
 obtain⟨T,g1,g2⟩:=h2.fl
 have old:∀b,a1K (a8x (CX1 P w) P w K mg base N qual scope f cd A outer s₀ H₀ E) pins H b->s₀.heap.objs.size<=b:=fun b h=>h.2.2.2.1.elim (fun z=>absurd z (by simp[a8x])) id
 exact⟨x,T,cls,dx,H,rfl,h2.inv.os,h2.inv.bare,h2.inv.base,h2.inv.hok,⟨old _ h2.fx,old _ g1⟩,⟨h2.fx.1,g1.1⟩,g2,q⟩
end L2
namespace L2
open PySem PySem.Spec PyProof.Rows PySem.W
def VEs:List Value:=[.type "ValueError",.type "Exception",.type "BaseException",.type "object"]
def b8o:List Value->Bool
 | .ref _::r=>b8o r
 | l=>l == VEs
theorem b3e(self:Value):∀ {l:List Value},b8o l=true->refuseLoop self "__setattr__" l=pure ()
 | .ref c::r,e=>by rw[refuseLoop_ref];exact b3e self (l:=r) e
 | [],e=>by cases (beq_iff_eq.mp (show(([]:List Value) == VEs)=true from e))
 | .none::r,e=>by have:=beq_iff_eq.mp (show((Value.none::r) == VEs)=true from e);cases this
 | .type n::r,e=>by
  have:=beq_iff_eq.mp (show((Value.type n::r) == VEs)=true from e)
  rw[this]
  exact PySem.F.store_ValueError.passes self
 | .bool n::r,e=>by have:=beq_iff_eq.mp (show((Value.bool n::r) == VEs)=true from e);cases this
 | .int n t::r,e=>by have:=beq_iff_eq.mp (show((Value.int n t::r) == VEs)=true from e);cases this
 | .float n t::r,e=>by have:=beq_iff_eq.mp (show((Value.float n t::r) == VEs)=true from e);cases this
 | .str n t::r,e=>by have:=beq_iff_eq.mp (show((Value.str n t::r) == VEs)=true from e);cases this
 | .bytes n t::r,e=>by have:=beq_iff_eq.mp (show((Value.bytes n t::r) == VEs)=true from e);cases this
 | .builtin n::r,e=>by have:=beq_iff_eq.mp (show((Value.builtin n::r) == VEs)=true from e);cases this
 | .ellipsis::r,e=>by have:=beq_iff_eq.mp (show((Value.ellipsis::r) == VEs)=true from e);cases this
 | .notImplemented::r,e=>by have:=beq_iff_eq.mp (show((Value.notImplemented::r) == VEs)=true from e);cases this
def b3G(K:Frag)(C:Addr):Bool:=(clsIn K C).any fun cd=>b8o cd.mro&&cd.mro.contains (.type "object") && !cd.mro.isEmpty
section
variable {prog:v8}{w:World}{A:F3}{E:Value->d4->Prop}{R:b9n->d4->Prop}{s:d4}{K:Frag}{x C:Addr}{name:Str}{v:Value}
theorem c7b{ox:Obj}{od:Option Obj}{tk:Tok}(X:K.In s.heap)(I:InstAt s.heap x ox C od)(hp:b3G K C=true)(ht:findIn K (.ref C) name=some none)
  (h:wpAny (model prog w) A.in1 (Builtin.ObjectAttr.storeInOwnDict (.ref x) (.ref C) (.str name tk) name v false)
   (fun fin s'=>match fin with | .done f=>R (.ok f) s' | .again c'=>c'.quiet=true/\a3U (model prog w) A c' R s') (fun e s'=>R (.error e) s') s) :
  a3U (model prog w) A (.call (.builtin "object.__setattr__") ⟨[.ref x,.str name tk,v],[]⟩) R s:=by
 have SF:=PySem.F.store_object
 obtain⟨cd,hc,ho⟩:=any_some hp
 simp only[l9,a0V]at ho
 obtain⟨⟨ho,hob⟩,ne⟩:=ho
 have sub:Looks (model prog w) s.heap (isInstance (.ref x) (.type "object")) true:=I.type.andThen (looks_mroIn X (by unfold mroIn;rw[hc,b0z,if_neg (by rw[ne];decide),hob]))
 refine codeAny_call_builtin SF.slot.plain SF.entry (@check_slot (model prog w) _ _ s "object.__setattr__" "object" "__setattr__" (.ref x) [.str name tk,v] [] _ SF.kind SF.split sub (SF.args (.ref x) (.str name tk) v) ?_)
 have hm:Looks (model prog w) s.heap (mroOf (.ref C)) cd.mro:=(looks_clsIn X hc).andThen .now
 rw[osa_eq,refuse_eq]
 refine d8 (d8 (I.type.here (d8 (hm.here ?_))))
 rw[b3e _ ho]
 refine A0 (d8 (I.type.here (d8 ((looks_findIn X ht).here (d8 (A0 ?_))))))
 exact h
end
end L2
namespace L2
open PySem PySem.Spec PyProof.Rows PySem.W
section
variable {prog:v8}{w:World}{A:F3}{E:Value->d4->Prop}{R:b9n->d4->Prop}{s:d4}{K:Frag}{x C:Addr}{name:Str}{v:Value}
theorem c6m{vs:Array Value}{sl:Array (Option Value)}{Q:Unit->d4->Prop}(X:K.In s.heap)(hx:s.heap.get? x=some ⟨.ref C,none,.fields vs,sl⟩)
  (hs:findIn K (.ref C) "__setattr__" = some (some (.builtin "object.__setattr__"))) (hp:b3G K C=true) (ht:findIn K (.ref C) name=some none) (hh:hasDictIn K C=true)
  (h:∀h' tk,h'.get? x=some ⟨.ref C,some s.heap.objs.size,.fields vs,sl⟩->h'.Ns1 s.heap.objs.size (fun y=>if y=name then some v else none)->(∀b o,b≠x->s.heap.get? b=some o->h'.get? b=some o)->Q () { s with heap:=h',toks:=tk }) :
  wpAny (model prog w) A (setAttr (.ref x) name v) Q E s:=by
 have J:InstAt s.heap x ⟨.ref C,none,.fields vs,sl⟩ C none:=⟨hx,rfl,rfl,trivial⟩
 refine set_plain X J hs (c7b (s:={ s with toks:=s.toks+1 }) X J hp ht ?_)
 obtain⟨cd,hc,hd'⟩:=any_some hh
 refine d8 (A0 (d8 (d8 (wpAny_loadPart hx (d8 (Looks.here (s:={ s with toks:=s.toks+1 }) (looks_clsIn X hc) ?_))))))
 rw[hd']
 have hxs:x≠s.heap.objs.size:=z5 (h9 hx)
 have hx1:(s.heap.push { cls:=.type "dict",data:=.dict #[] }).get? x=some ⟨.ref C,none,.fields vs,sl⟩:=d7 _ hx
 refine d8 (wpAny_alloc ?_)
 refine d8 (wpAny_update hx1 ?_)
 refine A0 ?_
 have hgd:((s.heap.push { cls:=.type "dict",data:=.dict #[] }).update x fun o=>{ o with dict:=some s.heap.objs.size }).get? s.heap.objs.size=some { cls:=.type "dict",data:=.dict #[] }:=
  (c5J _ _ _ _ hxs.symm).trans (Heap.get?_push_at rfl rfl)
 have hnd:((s.heap.push { cls:=.type "dict",data:=.dict #[] }).update x fun o=>{ o with dict:=some s.heap.objs.size }).Ns s.heap.objs.size (fun _=>none):=
  ⟨_,#[],_,hgd,rfl,fun e he=>absurd he (by simp),fun _=>rfl⟩
 unfold Builtin.ObjectAttr.storeInDict Builtin.ObjectAttr.newKeyGuard
 refine d8 (A0 (d8 (wpAny_nsSet1 (c2B hnd) fun h' hn' hs'=>?_)))
 obtain⟨oD,esD,epD,hoD,hdD,hcD⟩:=hn'.count (Within.cons name v Within.nil)
 refine d8 (wpAny_lookBehind hoD (by rw[hdD];exact pastItsLine_dict (t5 hcD (by rw[j9,a0B,sizeLine_eq];omega))) ?_)
 refine A0 ?_
 refine h h' _ ((hs'.2 x hxs).trans (Y0 _ hx1 rfl)) hn' fun b o nb hb=>?_
 exact(hs'.2 b (z5 (h9 hb))).trans ((c5J _ _ _ _ nb).trans (d7 _ hb))
end
end L2
namespace L2
open PySem PySem.Spec PyProof.Rows PySem.W
variable{h:Heap}
def a5I(K:Frag)(C:Addr):Bool:=match K.lookup C with
 | some ⟨.type "type",_,.cls cd,sl⟩=>(match cd.mro,sl.toList with
  | .ref C'::bm,[_,_,_,_,some (.builtin n),_]=>C' == C&&n == "ValueError.__new__" && !cd.hasDel&&tailIn K VEs bm
  | _,_=>false)
 | _=>false
theorem b2P{K:Frag}{C:Addr}(X:K.In h)(e:a5I K C=true):∃bm N nm q bs hd sn sub ab col dd k0 k1 k2 k3 k5,h.get? C=some (excClassObj nm q C N bs bm hd sn sub ab col dd k0 k1 k2 k3 k5 "ValueError.__new__")/\OwnTail h VEs bm:=by
 unfold a5I at e
 split at e
 ·rename_i dd cd sl ho
  split at e
  ·rename_i C' bm k0 k1 k2 k3 n k5 hm hs
   simp only[l9,beq_iff_eq,a0V]at e
   obtain⟨⟨⟨rfl,rfl⟩,hdel⟩,ht⟩:=e
   obtain⟨nm,bs,mro,ns,qn,hd,sn,sub,ab,col,del⟩:=cd
   dsimp only at hm hdel
   subst hm hdel
   have hsl:sl = #[k0,k1,k2,k3,some (.builtin "ValueError.__new__"),k5]:=by
    obtain⟨l⟩:=sl
    simp only at hs
    rw[hs]
   subst hsl
   exact⟨bm,ns,nm,qn,bs,hd,sn,sub,ab,col,dd,k0,k1,k2,k3,k5,X _ _ ho,tail_of_in X ht⟩
  ·cases e
 ·cases e
section
variable {prog:v8}{w:World}{A:F3}{E:Value->d4->Prop}{s:d4}{K:Frag}{C:Addr}
def U8(h:Heap)(C:Addr)(rest:List Value):Heap:=(h.push { cls:=.type "tuple",data:=.seq rest.toArray }).push { cls:=.ref C,data:=.fields #[.ref h.objs.size,.none,.none,.none,.bool false,.none] }
theorem a0i{rest:List Value}{b:Addr}{o:Obj}(e:h.get? b=some o):(U8 h C rest).get? b=some o:=d7 _ (d7 _ e)
theorem a7E{rest:List Value}:(U8 h C rest).get? (h.objs.size+1)=some ⟨.ref C,none,.fields #[.ref h.objs.size,.none,.none,.none,.bool false,.none],#[]⟩:=by
 unfold U8;heap_get
variable {g:Array GenState}{d:Drawn}{t:Nat}{os:OsState}
theorem b2r{fI:Addr}{rest:List Value}{Q:Fin->d4->Prop}(X:K.In h)(hx:a5I K C=true)(hi:findIn K (.ref C) "__init__" = some (some (.ref fI)))(hf:typeIn K (.ref fI)=some (.type "function"))(hrest:rest.length<=j7)
  (hq:wpAny (model prog w) A (call (.ref fI) (.ref (h.objs.size+1)::rest)) (fun r s'=>r=.none/\Q (.done (.ret (.ref (h.objs.size+1)))) s') E ⟨U8 h C rest,g,d,t,os⟩) :
  wpAny (model prog w) A (Builtin.«type.__call__» ⟨.ref C::rest,[]⟩) Q E ⟨h,g,d,t,os⟩:=by
 obtain⟨bm,N,nm,q,bs,hd,sn,sub,ab,col,dd,k0,k1,k2,k3,k5,hC,T⟩:=b2P X hx
 have F:=b2J
 have hBn:VEs.contains (.type "ValueError")=true:=by decide +kernel
 have X1:K.In (U8 h C rest):=X.keeps fun b o e=>a0i e
 repeat (first | with_reducible refine wpAny_loadPart_at hC ?_ | with_reducible refine wpAny_madeBy_exc hC ?_ | wp_step)
 refine codeAny_call_builtin_code (Code.quiet_builtin _ F.quiet) (wpAny_check_new_subU F hBn T hC ?_)
 refine codeAny_exc_new_subU F hBn F T hC ?_ hrest
 show wpAny _ _ _ _ _ ⟨U8 h C rest,g,d,t,os⟩
 have hC1:(U8 h C rest).get? C=some (excClassObj nm q C N bs bm hd sn sub ab col dd k0 k1 k2 k3 k5 "ValueError.__new__"):=a0i hC
 have hget:(U8 h C rest).get? (h.objs.size+1)=some ⟨.ref C,none,.fields #[.ref h.objs.size,.none,.none,.none,.bool false,.none],#[]⟩:=a7E
 have hcC:(Value.ref C::bm).contains (.ref C)=true:=by simp
 unfold isInstance
 repeat (first | with_reducible refine wpAny_loadPart_at hget ?_ | (with_reducible refine wpAny_isSubtype_exc hC1 ?_;rw[hcC]) | wp_step)
 show wpAny _ _ (typeLookup (.ref C) _) _ _ _
 refine(looks_findIn X1 hi).at ?_
 refine a0Y (d8 ((bind_fn X1 _ hf).at ?_))
 refine d8 (Q7 hq (fun r s' hr=>?_) fun _ _ x=>x)
 obtain⟨rfl,hQ⟩:=hr
 wp_walk
 exact hQ
theorem b4O{fI:Addr}{rest:List Value}{Q:Value->d4->Prop}(X:K.In h)(hx:a5I K C=true)(hi:findIn K (.ref C) "__init__" = some (some (.ref fI)))(hf:typeIn K (.ref fI)=some (.type "function"))(hrest:rest.length<=j7)
  (hq:wpAny (model prog w) (A.under (.builtin "type.__call__" ⟨.ref C::rest,[]⟩)) (call (.ref fI) (.ref (h.objs.size+1)::rest)) (fun r s'=>r=.none/\Q (.ref (h.objs.size+1)) s') E ⟨U8 h C rest,g,d,t,os⟩) :
  wpAny (model prog w) A (call (.ref C) rest) Q E ⟨h,g,d,t,os⟩:=by
 obtain⟨bm,N,nm,q,bs,hd,sn,sub,ab,col,dd,k0,k1,k2,k3,k5,hC,T⟩:=b2P X hx
 have f1:=tc_lookup
 have f2:=tc_bind (.ref C)
 have hT:(⟨h,g,d,t,os⟩:d4).TypeIs (.ref C) "type" := ⟨_,hC,rfl⟩
 refine wpAny_call (codeAny_of_tree ?_)
 show wpAny _ _ (callAny (.ref C) _) _ _ _
 repeat (any_goals (first | assumption | with_reducible refine wpAny_loadPart_at hC ?_ | wp_step))
 refine⟨rfl,?_⟩
 exact codeAny_call_builtin_at (Code.quiet_builtin _ (by decide +kernel)) entry_typeCall (wpAny_check_type_call_sub hC (b2r X hx hi hf hrest hq))
theorem b0P{rest:List Value}{Q:Fin->d4->Prop}(X:K.In h)(hx:a5I K C=true)(hi:findIn K (.ref C) "__init__" = some (some (.builtin "ValueError.__init__")))(hrest:rest.length<=j7)
  (hq:∀h',(∀b o,h.get? b=some o->h'.get? b=some o)->(∃tu,h'.get? (h.objs.size+1)=some ⟨.ref C,none,.fields #[.ref tu,.none,.none,.none,.bool false,.none],#[]⟩)->Q (.done (.ret (.ref (h.objs.size+1)))) ⟨h',g,d,t,os⟩) :
  wpAny (model prog w) A (Builtin.«type.__call__» ⟨.ref C::rest,[]⟩) Q E ⟨h,g,d,t,os⟩:=by
 obtain⟨bm,N,nm,q,bs,hd,sn,sub,ab,col,dd,k0,k1,k2,k3,k5,hC,T⟩:=b2P X hx
 have F:=b2J
 have hBn:VEs.contains (.type "ValueError")=true:=by decide +kernel
 have X1:K.In (U8 h C rest):=X.keeps fun b o e=>a0i e
 repeat (first | with_reducible refine wpAny_loadPart_at hC ?_ | with_reducible refine wpAny_madeBy_exc hC ?_ | wp_step)
 refine codeAny_call_builtin_code (Code.quiet_builtin _ F.quiet) (wpAny_check_new_subU F hBn T hC ?_)
 refine codeAny_exc_new_subU F hBn F T hC ?_ hrest
 show wpAny _ _ _ _ _ ⟨U8 h C rest,g,d,t,os⟩
 have hC1:(U8 h C rest).get? C=some (excClassObj nm q C N bs bm hd sn sub ab col dd k0 k1 k2 k3 k5 "ValueError.__new__"):=a0i hC
 have hget:(U8 h C rest).get? (h.objs.size+1)=some ⟨.ref C,none,.fields #[.ref h.objs.size,.none,.none,.none,.bool false,.none],#[]⟩:=a7E
 have hcC:(Value.ref C::bm).contains (.ref C)=true:=by simp
 have T1:OwnTail (U8 h C rest) VEs bm:=T.keeps fun b o e=>a0i e
 unfold isInstance
 repeat (first | with_reducible refine wpAny_loadPart_at hget ?_ | (with_reducible refine wpAny_isSubtype_exc hC1 ?_;rw[hcC]) | wp_step)
 show wpAny _ _ (typeLookup (.ref C) _) _ _ _
 refine(looks_findIn X1 hi).at ?_
 refine a0Y (d8 (wpAny_of_eq (F.init.bind _) ?_))
 refine d8 (wpAny_call (codeAny_call_builtin F.init.plain F.initEntry (wpAny_check_init_subU F T1 hC1 hget rfl ?_)))
 wp_walk
 have sz:(U8 h C rest).objs.size=h.objs.size+2:=by unfold U8;rw[a7K,a7K]
 refine hq _ (fun b o hb=>?_) ⟨h.objs.size+2,?_⟩
 ·rw[Q6 _ _ (a4f (Nat.lt_succ_of_lt (h9 hb)))]
  exact d7 _ (a0i hb)
 ·rw[Y0 _ (d7 _ hget) rfl,sz]
  rfl
theorem b2F{rest:List Value}{Q:Value->d4->Prop}(X:K.In h)(hx:a5I K C=true)(hi:findIn K (.ref C) "__init__" = some (some (.builtin "ValueError.__init__")))(hrest:rest.length<=j7)
  (hq:∀h',(∀b o,h.get? b=some o->h'.get? b=some o)->(∃tu,h'.get? (h.objs.size+1)=some ⟨.ref C,none,.fields #[.ref tu,.none,.none,.none,.bool false,.none],#[]⟩)->Q (.ref (h.objs.size+1)) ⟨h',g,d,t,os⟩) :
  wpAny (model prog w) A (call (.ref C) rest) Q E ⟨h,g,d,t,os⟩:=by
 obtain⟨bm,N,nm,q,bs,hd,sn,sub,ab,col,dd,k0,k1,k2,k3,k5,hC,T⟩:=b2P X hx
 have f1:=tc_lookup
 have f2:=tc_bind (.ref C)
 have hT:(⟨h,g,d,t,os⟩:d4).TypeIs (.ref C) "type" := ⟨_,hC,rfl⟩
 refine wpAny_call (codeAny_of_tree ?_)
 show wpAny _ _ (callAny (.ref C) _) _ _ _
 repeat (any_goals (first | assumption | with_reducible refine wpAny_loadPart_at hC ?_ | wp_step))
 refine⟨rfl,?_⟩
 exact codeAny_call_builtin_at (Code.quiet_builtin _ (by decide +kernel)) entry_typeCall (wpAny_check_type_call_sub hC (b0P X hx hi hrest hq))
end
end L2
namespace L2
open PySem PySem.Spec PyProof.Rows PySem.W
def xo(x C:Addr)(dx:Option Addr):HO:=.ext fun h=>∃tu,h.get? x=some ⟨.ref C,dx,.fields #[.ref tu,.none,.none,.none,.bool false,.none],#[]⟩
structure b4V(K:Frag)(C:Addr):Prop where
 xc:a5I K C=true
 sa:findIn K (.ref C) "__setattr__" = some (some (.builtin "object.__setattr__"))
 ve:b3G K C=true
 hd:hasDictIn K C=true
 kp:keepIn K (.ref C)=true
section
variable {P:v8}{w:World}{X:Cx}{pins:List (Addr×Obj)}{σ:St}{H:Hp}{s:d4}{a C:Addr}{f:Str}
theorem c8x{h:Heap}{dx:Option Addr}(e:∃tu,h.get? a=some ⟨.ref C,dx,.fields #[.ref tu,.none,.none,.none,.bool false,.none],#[]⟩):U6 P w H h a (xo a C dx):=
 ⟨e,let⟨_,q⟩:=e; ⟨_,q⟩,fun _ _ ⟨tu,q⟩ k=>⟨tu,k _ q⟩⟩
theorem c6k{A:F3}{E:Value->d4->Prop}{y:V}{u:Value}{Q:Unit->d4->Prop}(I:Inv X pins σ H s)(e:H a=some (xo a C none))(c:b4V X.K C)(n:findIn X.K (.ref C) f=some none)(ry:F1 y u)
  (h:∀s' d,H d=none->d≠a->Inv X pins σ (upd (upd H d (.xd [(f,y)])) a (xo a C (some d))) s'->Q () s'):wpAny (model X.prog X.w) A (setAttr (.ref a) f u) Q E s:=by
 obtain⟨⟨tu,hx⟩,_⟩:U6 X.prog X.w H s.heap a (xo a C none):=I.hok a _ e
 refine c6m I.kIn hx c.sa c.ve n c.hd fun h' tk e1 e2 e3=>?_
 have hd:H s.heap.objs.size=none:=I.hok.fresh (d9 _)
 have nd:s.heap.objs.size≠a:=a4f (h9 hx)
 have na:∀b u,H b=some u->(∀φ,u≠.ext φ)->b≠a:=fun b u q z1 z2=>by
  subst z2
  rw[e]at q
  cases q
  exact z1 _ rfl
 refine h _ s.heap.objs.size hd nd (I.un (h':=h') (t':=tk) ⟨fun b o q z _ _=>e3 b o (fun z2=>by rw[z2,e]at z;cases z) q,fun b o q z _ _=>⟨o.slots,e3 b o (fun z2=>by rw[z2,e]at z;cases z) q⟩,fun b o q z _=>?_,fun b o q _=>?_,fun b xs q=>?_,fun b o u q=>?_,fun b ps q=>⟨#[],?_⟩⟩ fun b o q=>?_)
 ·rw[g7 (fun z2=>by rw[z2,e]at z;cases z),g7 (z5 (h9 q))];exact z
 ·by_cases hb:b=a
  ·subst hb;exact⟨_,e1⟩
  ·exact⟨o,e3 b o hb q⟩
 ·rw[g7 (na b _ q fun φ z=>by cases z),g7 (c6 q hd)];exact q
 ·rw[g7 (na b _ q fun φ z=>by cases z),g7 (c6 q hd)];exact q
 ·rw[g7 (na b _ q fun φ z=>by cases z),g7 (c6 q hd),q];simp
 ·by_cases hb:b=a
  ·subst hb
   rw[c7]at q
   cases q
   exact c8x ⟨tu,e1⟩
  ·rw[g7 hb]at q
   by_cases hbd:b=s.heap.objs.size
   ·subst hbd
    rw[c7]at q
    cases q
    refine⟨_,e2,fun g=>?_⟩
    by_cases hg:g=f
    ·subst hg
     simp only[if_true]
     show a5v (X0 g [(g,y)]) (some u)
     simp[X0,a5v]
     exact ry
    ·simp only[hg,if_false]
     show a5v (X0 g [(f,y)]) none
     have:(g == f)=false:=beq_eq_false_iff_ne.mpr hg
     simp[X0,this,a5v]
   ·rw[g7 hbd]at q
    refine(I.hok b o q).stay (fun c v hc z=>e3 c v ?_ z) (fun c z=>?_) fun c xs z=>?_
    ·rcases hc with rfl | hc
     ·exact hb
     ·exact na c _ hc fun φ z=>by cases z
    ·rw[g7 (na c _ z fun φ z=>by cases z),g7 (c6 z hd)];exact z
    ·rw[g7 (na c _ z fun φ z=>by cases z),g7 (c6 z hd)];exact z
end
end L2
namespace L2
open PySem PySem.Spec PyProof.Rows PySem.W
def del(H:Hp)(a:Addr):Hp:=fun b=>if b=a then none else H b
theorem b1W{H:Hp}{a:Addr}:del H a a=none:=by unfold del;rw[if_pos rfl]
theorem a4Z{H:Hp}{a b:Addr}(h:b≠a):del H a b=H b:=by unfold del;rw[if_neg h]
def b3d(K:Frag)(ta tv:TE)(f:Str):TS:=fun D σ H=>tv σ H fun y H1=>ta σ H1 fun x H2=>∃a C,x=.ref a/\H2 a=some (xo a C none)/\b4V K C/\findIn K (.ref C) f=some none /\
 ∀d,H2 d=none->d≠a->D.nx σ (upd (upd H2 d (.xd [(f,y)])) a (xo a C (some d)))
section
variable {X:Cx}{pins:List (Addr×Obj)}{σ:St}{H:Hp}{s:d4}{a C:Addr}{f:Str}{o value:Expr}{ta tv:TE}{pos pos':Pos}
theorem c6H(ha:PE X o ta)(hv:PE X value tv)(hs:a1O value (some (.Attribute o f pos')) pos.line X.env=pure false):PS X (.Assign [.Attribute o f pos'] value pos) (b3d X.K ta tv f):=by
 intro pins s σ H D I h
 refine plainObj_wpAny_Assign_Attribute (thn (hv pins s σ H _ I h) fun u s1 ⟨y,H1,I1,ry,q⟩=>thn (ha pins s1 σ H1 _ I1 q) fun ov s2 ⟨x,H2,I2,rx,a,C,ex,ea,c,n,q2⟩=>?_) hs
 subst ex
 obtain rfl:ov=Value.ref a:=rx
 exact c6k I2 ea c n ry fun s3 d d1 d2 I3=>⟨σ,_,I3,q2 d d1 d2⟩
theorem Inv.del{dx:Option Addr}(I:Inv X pins σ H s)(e:H a=some (xo a C dx)):Inv X pins σ (del H a) s:=by
 have na:∀b u,H b=some u->(∀φ,u≠.ext φ)->b≠a:=fun b u q z1 z2=>by
  subst z2
  rw[e]at q
  cases q
  exact z1 _ rfl
 have no:∀b,H b=none->L2.del H a b=none:=fun b q=>by
  by_cases hb:b=a
  ·rw[hb];exact b1W
  ·rw[a4Z hb];exact q
 refine⟨I.ok,I.os,I.bare,⟨I.base.keep,I.base.slot,fun b o q z hx=>no b (I.base.free b o q z hx),I.base.there,fun b xs q=>?_,fun b o u q=>?_,fun b ps q=>?_⟩,I.loc,I.cell,no _ I.free,fun x c q=>no _ (I.freeC x c q),fun p hp=>?_,fun b u q=>?_,I.len⟩
 ·have:=I.base.tups b xs q
  rw[a4Z (na b _ this fun φ z=>by cases z)];exact this
 ·have:=I.base.frzs b o u q
  rw[a4Z (na b _ this fun φ z=>by cases z)];exact this
 ·obtain⟨m,this⟩:=I.base.tbls b ps q
  exact⟨m,by rw[a4Z (na b _ this fun φ z=>by cases z)];exact this⟩
 ·obtain⟨p1,p2,p3⟩:=I.pin p hp
  exact⟨p1,no _ p2,p3⟩
 ·have hb:b≠a:=fun z=>by rw[z,b1W]at q;cases q
  rw[a4Z hb]at q
  refine(I.hok b u q).stay (fun c v _ z=>z) (fun c z=>?_) fun c xs z=>?_
  ·rw[a4Z (na c _ z fun φ z=>by cases z)];exact z
  ·rw[a4Z (na c _ z fun φ z=>by cases z)];exact z
end
section
variable {M:Model}{A:F3}{E:Value->d4->Prop}{env:Env}{K:Frag}{C:Addr}
theorem b1o{s:d4}{x:Sem Value}{Q:Flow->d4->Prop}(hh:A.handled=none)(hx:a5I K C=true)
  (h:wpAny M A x (fun v s1=>∃e tu dx,v=.ref e/\K.In s1.heap/\s1.heap.get? e=some ⟨.ref C,dx,.fields #[.ref tu,.none,.none,.none,.bool false,.none],#[]⟩/\E (.ref e) s1) E s):wpAny M A (raiseStmt env (some x) none) Q E s:=by
 unfold raiseStmt
 refine d8 (Q7 h (fun v s1 h1=>?_) fun _ _ x=>x)
 obtain⟨e,tu,dx,rfl,X,he,hE⟩:=h1
 obtain⟨hp,g,d,tk,os⟩:=s1
 obtain⟨bm,N,nm,q,bs,hd,sn,sub,ab,col,dd,k0,k1,k2,k3,k5,hC,T⟩:=b2P X hx
 have hcB:(Value.ref C::bm).contains (.type "BaseException")=true:=by rw[c5Q,T.hasType (b:=true) (by decide +kernel),c0G]
 repeat (first | with_reducible refine wpAny_loadPart_at he ?_ | with_reducible refine wpAny_loadPart_at hC ?_ | (with_reducible refine wpAny_isSubtype_exc hC ?_;rw[hcB]) | wp_step)
 exact wpAny_raiseNew_none hh hE
end
end L2
namespace L2
open PySem PySem.Spec PyProof.Rows PySem.W
def a3W(C:Addr)(sp:Sp)(E:St->XK)(t:TA):TS:=fun _ σ H=>t σ H fun vs H1=>vs.length<=j7/\∀a,H1 a=none->sp (.ref a::vs) (upd H1 a (xo a C none)) (fun v H2=>v=.non/\∃dx,H2 a=some (xo a C dx)/\E σ (.ref C) dx (del H2 a)) E0
def b0h(C:Addr)(E:St->XK):TS:=fun _ σ H=>E σ (.ref C) none H
section
variable {X:Cx}{k:Nat}{f C:Addr}{fd:U1}{ps:List Str}{sp:Sp}{E:St->XK}{x:Str}{np cpos pos:Pos}{e:Expr}{es:List Expr}{t:TA}
theorem c1s(hc:X.calm=true)(W:Wi X E)(c:b4V X.K C)(hi:findIn X.K (.ref C) "__init__" = some (some (.ref f)))(hf:typeIn X.K (.ref f)=some (.type "function"))(F:F5 X.prog X.w X.K X.mg X.base CX0 k f fd ps sp)(hr:R3 (k+1) X.A)(hg:Gl X x)
  (hm:X.mg x=some (.ref C)) (hb:a2d X.K fd ps []) (ha:PA X (e::es) t) (hdb:(x == ("__debug__" : Str))=false:=by decide) (he:g6 (e::es) X.env=(false,eval e X.env)::g6 es X.env:=by rfl) (hpl:(X5 cpos (g6 es X.env)).any (·.1)=false:=by rfl) :
  PS X (.Raise (some (.Call (.Name x np) (e::es) [] cpos)) none pos) (a3W C sp E t):=by
 intro pins s σ H D I h
 have go:wpAny (model X.prog X.w) X.A (eval (.Call (.Name x np) (e::es) [] cpos) X.env) (fun v s1=>∃e tu dx,v=.ref e/\X.K.In s1.heap/\s1.heap.get? e=some ⟨.ref C,dx,.fields #[.ref tu,.none,.none,.none,.bool false,.none],#[]⟩/\X.xe (.ref e) s1) X.xe s:=by
  refine X2 (a3d I hg hm ?_ hdb)
  refine a0p (h₀:=X.base) I.ok.mod.kin c.kp (thn (ha cpos pins s σ H _ I h) fun us s1 ⟨vs,H1,I1,r,hz,q⟩=>⟨I1.kIn,?_⟩) he hpl
  have I2:Inv X pins σ (upd H1 (s1.heap.objs.size+1) (xo (s1.heap.objs.size+1) C none)) { s1 with heap:=U8 s1.heap C us }:=
   I1.laid (a:=s1.heap.objs.size+1) (h':=U8 s1.heap C us) (t':=s1.toks) (fun b u q=>a0i q) (a1n _) (c8x ⟨_,a7E⟩)
  have hq:=q (s1.heap.objs.size+1) (I1.hok.fresh (a1n _))
  have r2:J0 (V.ref (s1.heap.objs.size+1)::vs) (Value.ref (s1.heap.objs.size+1)::us):=.cons rfl r
  have hl:(Value.ref (s1.heap.objs.size+1)::us++[]).length=ps.length:=by
   have e:=r2.length
   rw[F.len _ _ _ _ hq]at e
   rw[F0]
   exact e.symm
  have hbi:=hb { s1 with heap:=U8 s1.heap C us } (Value.ref (s1.heap.objs.size+1)::us) I2.kIn hl
  rw[F0]at hbi
  obtain⟨h1,g1,d1,t1,os1⟩:=s1
  refine b4O (rest:=us) I1.kIn c.xc hi hf (by rw[<-r.length];exact hz) ?_
  refine wpAny_call (a2U (F.run _ X.stack _ _ ⟨Value.ref (h1.objs.size+1)::us,[]⟩ (Value.ref (h1.objs.size+1)::us) _ _ E0 (hr.make C us []) (I2.env0.make C us []) hbi r2 hq) fun r s' hq'=>?_)
  cases r with
  | error e=>exact False.elim hq'
  | ok fl=>
   cases fl with
   | ret u=>
    obtain⟨v,H',I3,rv,ev,dx,e3,q3⟩:=I2.after hq'
    subst ev
    obtain⟨⟨tu,ho⟩,_⟩:U6 X.prog X.w H' s'.heap _ (xo _ C dx):=I3.hok _ _ e3
    refine⟨rv,_,tu,dx,rfl,I3.kIn,ho,W pins σ _ s' _ _ dx ⟨I3.del e3,I1.fpOk (a1n _) b1W,.inl ⟨_,_,ho,⟨rfl,rfl,rfl⟩,rfl,rfl⟩⟩ q3⟩
   | next=>exact False.elim hq'
   | brk=>exact False.elim hq'
   | cont=>exact False.elim hq'
 rw[arm_exec_Raise]
 exact d8 (a3k (b1o (I.ok.hd hc) c.xc (d8 (Q7 go (fun v s3 h3=>d8 (a3k (A0 h3))) fun _ _ z=>z))))
theorem b8d(hc:X.calm=true)(W:Wi X E)(c:b4V X.K C)(hi:findIn X.K (.ref C) "__init__" = some (some (.builtin "ValueError.__init__")))(hg:Gl X x)(hm:X.mg x=some (.ref C))(hdb:(x == ("__debug__" : Str))=false:=by decide) :
  PS X (.Raise (some (.Call (.Name x np) [] [] cpos)) none pos) (b0h C E):=by
 intro pins s σ H D I h
 have go:wpAny (model X.prog X.w) X.A (eval (.Call (.Name x np) [] [] cpos) X.env) (fun v s1=>∃e tu dx,v=.ref e/\X.K.In s1.heap/\s1.heap.get? e=some ⟨.ref C,dx,.fields #[.ref tu,.none,.none,.none,.bool false,.none],#[]⟩/\X.xe (.ref e) s1) X.xe s:=by
  refine X2 (a3d I hg hm ?_ hdb)
  refine PySem.W.callWith_K0 I.kIn c.kp ?_
  obtain⟨h1,g1,d1,t1,os1⟩:=s
  refine b2F (rest:=[]) I.kIn c.xc hi (by rw[sizeLine_eq];decide) fun h' k1 ⟨tu,k2⟩=>?_
  have I2:Inv X pins σ H ⟨h',g1,d1,t1,os1⟩:=I.kept (h':=h') (t':=t1) k1
  exact⟨_,tu,none,rfl,I2.kIn,k2,W pins σ H _ _ _ none ⟨I2,I.fpOk (a1n _) (I.hok.fresh (a1n _)),.inl ⟨_,_,k2,⟨rfl,rfl,rfl⟩,rfl,rfl⟩⟩ h⟩
 rw[arm_exec_Raise]
 exact d8 (a3k (b1o (I.ok.hd hc) c.xc (d8 (Q7 go (fun v s3 h3=>d8 (a3k (A0 h3))) fun _ _ z=>z))))
end
end L2
namespace L2
open PySem PySem.Spec PyProof.Rows PySem.W
section
variable {X:Cx}{pins:List (Addr×Obj)}{σ:St}{H:Hp}{s:d4}{i:Nat}{n:Str}
theorem c0W{M:Model}{A:F3}{E:Value->d4->Prop}{v:V}{Q:Unit->d4->Prop}(I:Inv X pins σ H s)(hN:X.N.Nodup)(hi:X.N[i]? = some n)(hl:X.env.scope.names.lookup n=some .local)(hv:σ[i]? = some (some v))
  (k:∀s',Inv X pins (σ.set i none) H s'->Q () s'):wpAny M A (unbindName X.env n) Q E s:=by
 obtain⟨m,hm,hL⟩:=I.loc
 have hk:X.env.kindOf n=some .local:=hl
 obtain⟨u,_,q⟩:=hL i n v hi hv (.inl hl)
 have hmn:m n=some u:=by
  rcases q with q | ⟨q,_⟩
  ·exact q.2
  ·rcases q with q | q <;> (rw[hk]at q;cases q)
 refine wpAny_unbindName_local hk hm hmn (by simp[I.ok.kind]) fun h' u' hn' hs=>k _ ?_
 have nl:∀b o,X.s₀.heap.get? b=some o->b≠X.env.locals:=fun b o e=>z5 (t8 (h9 e) I.ok.above)
 refine⟨I.ok,I.os,I.bare,⟨fun b o e z hb hx=>(hs.2 b (nl b o e)).trans (I.base.keep b o e z hb hx),fun b o e z hb hx=>?_,I.base.free,fun b o e hx=>?_,I.base.tups,I.base.frzs,I.base.tbls⟩,⟨_,hn',fun j y v' e1 e2 e3=>?_⟩,fun y c e=>?_,I.free,I.freeC,fun p hp=>?_,fun b o q=>?_,by simpa using I.len⟩
 ·obtain⟨sl,q⟩:=I.base.slot b o e z hb hx
  exact⟨sl,(hs.2 b (nl b o e)).trans q⟩
 ·obtain⟨o',q⟩:=I.base.there b o e hx
  exact⟨o',(hs.2 b (nl b o e)).trans q⟩
 ·have hj:j≠i:=fun z=>by
   subst z
   rw[List.getElem?_set]at e2
   simp only[if_true]at e2
   split at e2 <;> cases e2
  rw[L8 (Ne.symm hj)]at e2
  obtain⟨u2,r,q⟩:=hL j y v' e1 e2 e3
  refine⟨u2,r,?_⟩
  rcases q with ⟨q1,q2⟩ | ⟨q1,c,q2,q3⟩
  ·refine .inl ⟨q1,?_⟩
   have:y≠n:=fun z=>by
    subst z
    exact hj (b1H hN e1 hi)
   simp only[this,if_false]
   exact q2
  ·exact .inr ⟨q1,c,q2,q3.sameBut hs (I.cne y c q2)⟩
 ·obtain⟨w',z⟩:=I.cell y c e
  exact⟨w',z.sameBut hs (I.cne y c e)⟩
 ·obtain⟨e,z,ne,nf,d⟩:=I.pin p hp
  exact⟨(hs.2 p.1 ne).trans e,z,ne,nf,d⟩
 ·refine(I.hok b o q).stay (fun c v' hc z=>(hs.2 c fun z2=>?_).trans z) (fun _ z=>z) fun _ _ z=>z
  rcases hc with rfl | hc
  ·rw[z2,I.free]at q;cases q
  ·rw[z2,I.free]at hc;cases hc
theorem a6y{M:Model}{A:F3}{E:Value->d4->Prop}{pos:Pos}{Q:Unit->d4->Prop}(I:Inv X pins σ H s)(hN:X.N.Nodup)(hi:X.N[i]? = some n)(hl:X.env.scope.names.lookup n=some .local)
  (k:∀s',Inv X pins (σ.set i none) H s'->Q () s'):wpAny M A (do bindName X.env n .none;unbindBehindTheSuite X.env n pos) Q E s:=by
 have hlt:i<σ.length:=by rw[I.len];exact(o7.mp hi).1
 refine d8 (wpAny_bindName (a5N (v:=.non) I hN hi (.inl hl) rfl (fun s1 I1=>?_) (.inr hl)))
 unfold unbindBehindTheSuite
 refine wpAny_onRaise (c0W I1 hN hi hl (K7 hlt) fun s2 I2=>?_)
 rw[List.set_set]at I2
 exact k s2 I2
end
end L2
namespace L2
open PySem PySem.Spec PyProof.Rows PySem.W
theorem b1L{M:Model}{A:F3}{E:Value->d4->Prop}{K:Frag}{h:Heap}{g:Array GenState}{d:Drawn}{t:Nat}{os:OsState}{C C1 e:Addr}{oe:Obj}{Q:Bool->d4->Prop}(X:K.In h)(h1:a5I K C1=true)(hsub:mroIn K C (.ref C1)=some true)
  (he:h.get? e=some oe) (hcls:oe.cls=.ref C) (hq:Q true ⟨h,g,d,t,os⟩):wpAny M A (excMatches (.ref e) (.ref C1)) Q E ⟨h,g,d,t,os⟩:=by
 obtain⟨bm,N,nm,q,bs,hd,sn,sub,ab,col,dd,k0,k1,k2,k3,k5,hC1,T⟩:=b2P X h1
 have hcB:(Value.ref C1::bm).contains (.type "BaseException")=true:=by rw[c5Q,T.hasType (b:=true) (by decide +kernel),c0G]
 have L:=looks_mroIn (M:=M) X hsub
 have f:=tc_notTuple
 unfold excMatches
 repeat (first | (with_reducible refine wpAny_loadPart_at he ?_;rw[hcls]) | with_reducible refine wpAny_loadPart_at hC1 ?_ | (with_reducible refine wpAny_isSubtype_exc hC1 ?_;rw[hcB]) | with_reducible refine L.at ?_ | wp_step)
 exact hq
abbrev Cx.tryB(X:Cx)(pins:List (Addr×Obj))(E:Value->d4->Prop):Cx:={ X with pn:=X.pn++pins,xe:=E }
abbrev Cx.suite(X:Cx)(pins:List (Addr×Obj))(x:Addr)(oe:Obj):Cx:={ X with A:=X.A.mark (some (.ref x)),calm:=false,pn:=X.pn++(pins++[(x,oe)]),xe:=fun _ _=>False }
section
variable {X:Cx}{pins pins':List (Addr×Obj)}{σ:St}{H:Hp}{s:d4}{x:Addr}{oe:Obj}{E:Value->d4->Prop}
theorem Inv.tryB(I:Inv X pins σ H s)(E:Value->d4->Prop):Inv (X.tryB pins E) [] σ H s:=
 ⟨⟨I.ok.mod,I.ok.kind,I.ok.glob,I.ok.blt,I.ok.above,I.ok.inj,I.ok.has,I.ok.cab,I.ok.hd,I.ok.frames,I.ok.stk,I.ok.exf,I.ok.bs,I.ok.bsz,I.ok.noex,I.ok.exfs,I.ok.funs,I.ok.frf⟩,I.os,I.bare,I.base,I.loc,I.cell,I.free,I.freeC,fun p hp=>I.pin p (by simpa using hp),I.hok,I.len⟩
theorem Inv.untryB(I:Inv (X.tryB pins E) pins' σ H s):Inv X pins σ H s:=
 ⟨⟨I.ok.mod,I.ok.kind,I.ok.glob,I.ok.blt,I.ok.above,I.ok.inj,I.ok.has,I.ok.cab,I.ok.hd,I.ok.frames,I.ok.stk,I.ok.exf,I.ok.bs,I.ok.bsz,I.ok.noex,I.ok.exfs,I.ok.funs,I.ok.frf⟩,I.os,I.bare,I.base,I.loc,I.cell,I.free,I.freeC,fun p hp=>I.pin p (v9 _ hp),I.hok,I.len⟩
theorem a1K.untryB{b:Addr}(f:a1K (X.tryB pins E) pins' H b):a1K X pins H b:=⟨f.1,f.2.1,f.2.2.1,f.2.2.2.1,f.2.2.2.2.1,fun p hp=>f.2.2.2.2.2 p (v9 _ hp)⟩
theorem Out.untryB{cls:Value}{dx:Option Addr}(o:Out (X.tryB pins E) pins' σ H s x cls dx):Out X pins σ H s x cls dx:=⟨o.inv.untryB,o.fx.untryB,o.fl.imp id fun⟨T,f1,f2⟩=>⟨T,f1.untryB,f2⟩⟩
theorem Inv.suite(I:Inv X pins σ H s)(f:a1K X pins H x)(he:s.heap.get? x=some oe)(hd:∀v,oe.data≠.cell v):Inv (X.suite pins x oe) [] σ H s:=
 ⟨⟨I.ok.mod,I.ok.kind,I.ok.glob,I.ok.blt,I.ok.above,I.ok.inj,I.ok.has,I.ok.cab,(fun z=>by cases z),I.ok.frames,I.ok.stk,I.ok.exf,I.ok.bs,I.ok.bsz,I.ok.noex,I.ok.exfs,I.ok.funs,I.ok.frf⟩,I.os,I.bare,I.base,I.loc,I.cell,I.free,I.freeC,fun p hp=>by
  have hp:p∈(X.pn++(pins++[(x,oe)]))++[]:=hp
  rw[F0,<-C8]at hp
  rcases j8.mp hp with z | z
  ·exact I.pin p z
  ·rw[g8.mp z]
   exact⟨he,f.1,f.2.1,f.2.2.1,hd⟩,I.hok,I.len⟩
theorem Inv.unsuite(hh:X.calm=true->X.A.handled=none)(I:Inv (X.suite pins x oe) pins' σ H s):Inv X pins σ H s:=
 ⟨⟨I.ok.mod,I.ok.kind,I.ok.glob,I.ok.blt,I.ok.above,I.ok.inj,I.ok.has,I.ok.cab,hh,I.ok.frames,I.ok.stk,I.ok.exf,I.ok.bs,I.ok.bsz,I.ok.noex,I.ok.exfs,I.ok.funs,I.ok.frf⟩,I.os,I.bare,I.base,I.loc,I.cell,I.free,I.freeC,fun p hp=>I.pin p (by
  show p∈(X.pn++(pins++[(x,oe)]))++pins'
  rw[<-C8]
  exact v9 _ (v9 _ hp)),I.hok,I.len⟩
end
def b9x(K:Frag)(C1:Addr)(i:Nat)(tb:(St->XK)->TS)(th:Addr->Addr->Option Addr->TS):TS:=fun D σ H=>tb (fun σ' cls dx H'=>∃C,cls=.ref C/\mroIn K C (.ref C1)=some true/\∀x,H' x=none ->
 th x C dx { nx:=fun σ2 H2=>D.nx (σ2.set i none) H2,rt:=D.rt,bk:=fun σ2 H2=>D.bk (σ2.set i none) H2,ct:=fun σ2 H2=>D.ct (σ2.set i none) H2 } (σ'.set i (some (.ref x))) H') D σ H
section
variable {X:Cx}{C1:Addr}{i:Nat}{n c1:Str}{np hpos pos:Pos}{body:List Stmt}{b0:Stmt}{suite:List Stmt}{tb:(St->XK)->TS}{th:Addr->Addr->Option Addr->TS}
theorem c6I(hc:X.calm=true)(hst:X.stack=X.env::X.outer)(hf:X.env.frame=some X.env.locals)(hN:X.N.Nodup)(hi:X.N[i]? = some n)(hl:X.env.scope.names.lookup n=some .local)(hg:Gl X c1)(hm:X.mg c1=some (.ref C1))(h1:a5I X.K C1=true)
  (hb:∀(E:St->XK) (pins:List (Addr×Obj)) (xe:Value->d4->Prop),Wi (X.tryB pins xe) E->PSs (X.tryB pins xe) body (tb E))
  (hs:∀(pins:List (Addr×Obj)) (x C:Addr) (dx:Option Addr) (oe:Obj) (vs:Array Value),oe.cls=.ref C->oe.dict=dx->oe.data=.fields vs->vs[2]? = some .none->PSs (X.suite pins x oe) (b0::suite) (th x C dx))
  (hdb:(c1 == ("__debug__" : Str))=false:=by decide) :
  PS X (.Try body [.ExceptHandler (some (.Name c1 np)) (some n) (b0::suite) hpos] [] [] pos) (b9x X.K C1 i tb th):=by
 intro pins s σ H D I h
 have hh:=I.ok.hd
 obtain⟨XE,hXE⟩:∃XE:Value->d4->Prop,XE=fun e s1=>wpAny (model X.prog X.w) X.A (noteFrame e X.env) (fun _ s2=>wpAny (model X.prog X.w) X.A (setFlight e none) (fun _ s3=>wpAny (model X.prog X.w) X.A (handleBy e X.env [.ExceptHandler (some (.Name c1 np)) (some n) (b0::suite) hpos]) (SP X pins D) X.xe s3) X.xe s2) X.xe s1:=⟨_,rfl⟩
 refine wpAny_Try_except ?_
 rw[<-hXE]
 have W:Wi (X.tryB pins XE) fun σ' cls dx H'=>∃C,cls=.ref C/\mroIn X.K C (.ref C1)=some true/\∀x,H' x=none ->
   th x C dx { nx:=fun σ2 H2=>D.nx (σ2.set i none) H2,rt:=D.rt,bk:=fun σ2 H2=>D.bk (σ2.set i none) H2,ct:=fun σ2 H2=>D.ct (σ2.set i none) H2 } (σ'.set i (some (.ref x))) H':=by
  rintro pins' σ' H' s' x cls dx o ⟨C,rfl,hsub,hth⟩
  show XE (.ref x) s'
  rw[hXE]
  have o:=o.untryB
  refine b1F hst hf o fun s2 o2=>a3F o2 fun s3 o3=>?_
  refine wpAny_handleBy_cons (codeAny_handlers_test ?_) (by intro q;cases q)
  obtain⟨T,f1,oe,vs,oT,ts,he,⟨hcls,hdx,h2⟩,hd,hr⟩:=o3.fl
  have I3:Inv (X.suite pins x oe) [] σ' H' s3:=o3.inv.suite o3.fx he fun v z=>by rw[hd]at z;cases z
  refine a3d (X:=X.suite pins x oe) I3 hg hm ?_ hdb
  obtain⟨hp3,g3,d3,t3,os3⟩:=s3
  refine b1L I3.kIn h1 hsub he hcls ?_
  refine codeAny_handlers_suite_as ?_
  refine a3F o3 fun s4 o4=>?_
  obtain⟨T4,f4,oe4,vs4,oT4,ts4,he4,⟨hcls4,hdx4,h24⟩,hd4,hr4⟩:=o4.fl
  have I4:Inv (X.suite pins x oe4) [] σ' H' s4:=o4.inv.suite o4.fx he4 fun v z=>by rw[hd4]at z;cases z
  refine a5N (X:=X.suite pins x oe4) (v:=.ref x) I4 hN hi (.inl hl) rfl (fun s5 I5=>?_) (.inr hl)
  refine Q7 (hs pins x C dx oe4 vs4 hcls4 hdx4 hd4 h24 [] s5 _ H' _ I5 (hth x o4.fx.1)) (fun f s6 q=>?_) fun _ _ z=>False.elim z
  show wpAny _ _ _ _ _ _
  cases f with
  | next=>
   obtain⟨σ2,H2,I6,q⟩:=q
   exact a6y (I6.unsuite hh) hN hi hl fun s7 I7=>⟨_,_,I7,q⟩
  | brk=>
   obtain⟨σ2,H2,I6,q⟩:=q
   exact a6y (I6.unsuite hh) hN hi hl fun s7 I7=>⟨_,_,I7,q⟩
  | cont=>
   obtain⟨σ2,H2,I6,q⟩:=q
   exact a6y (I6.unsuite hh) hN hi hl fun s7 I7=>⟨_,_,I7,q⟩
  | ret u=>
   obtain⟨v,σ2,H2,I6,r,q⟩:=q
   exact a6y (I6.unsuite hh) hN hi hl fun s7 I7=>⟨v,_,_,I7,r,q⟩
 refine Q7 (hb _ pins XE W [] s σ H D (I.tryB XE) h) (fun f s1 q=>?_) fun _ _ z=>z
 cases f with
 | next=>
  obtain⟨σ2,H2,I6,q⟩:=q
  exact a3l ⟨σ2,H2,I6.untryB,q⟩
 | brk=>
  obtain⟨σ2,H2,I6,q⟩:=q
  exact⟨σ2,H2,I6.untryB,q⟩
 | cont=>
  obtain⟨σ2,H2,I6,q⟩:=q
  exact⟨σ2,H2,I6.untryB,q⟩
 | ret u=>
  obtain⟨v,σ2,H2,I6,r,q⟩:=q
  exact⟨v,σ2,H2,I6.untryB,r,q⟩
end
end L2
namespace L2
open PySem PySem.Spec PyProof.Rows PySem.W
section
variable {prog:v8}{w:World}{A:F3}{E:Value->d4->Prop}{s:d4}{K:Frag}{x C:Addr}{ox:Obj}{od:Option Obj}{name:Str}{v:Value}
variable {h:Heap}{g:Array GenState}{d:Drawn}{t:Nat}{os:OsState}
structure d3y(K:Frag)(C:Addr):Prop where
 ga:findIn K (.ref C) "__getattribute__" = some (some (.builtin "BaseException.__getattribute__"))
 gg:findIn K (.ref C) "__getattr__" = some none
 be:mroIn K C (.type "BaseException")=some true
end
end L2
namespace L2
open PySem PySem.Spec PyProof.Rows PySem.W
structure XIs(K:Frag)(C:Addr):Prop extends d3y K C where
 hd:hasDictIn K C=true
 ha:findIn K (.ref C) "__class__" = some (some (.builtin "object.__class__"))
 hn:specialIn K (.builtin "object.__class__") "__get__" = some (some (.builtin "getset_descriptor.__get__"))
 tk:takesIn K (.builtin "object.__class__")=some true
 ob:mroIn K C (.type "object")=some true
section
variable {prog:v8}{w:World}{A:F3}{E:Value->d4->Prop}{s:d4}{K:Frag}{x C:Addr}{ox:Obj}{od:Option Obj}{name:Str}{v:Value}
variable {h:Heap}{g:Array GenState}{d:Drawn}{t:Nat}{os:OsState}
theorem b5t{tk:Tok}{R:b9n->d4->Prop}(X:K.In h)(I:InstAt h x ox C od)(c:XIs K C)(hq:R (.ok (.ret (.ref C))) ⟨h,g,d,t,os⟩) :
  a3U (model prog w) A (.call (.builtin "BaseException.__getattribute__") ⟨[.ref x,.str "__class__" tk],[]⟩) R ⟨h,g,d,t,os⟩:=by
 have hk:builtinKind "BaseException.__getattribute__" = some .slot:=by decide +kernel
 have hs:splitId "BaseException.__getattribute__" = some ("BaseException","__getattribute__"):=by decide +kernel
 have hf:findObj K C od "__class__" = some (.bind (.builtin "getset_descriptor.__get__") (.builtin "object.__class__")):=by
  obtain⟨cd,hc,_⟩:=any_some c.hd
  unfold findObj
  rw[hc,b0z,c.ha,b0z]
  simp[c.hn,c.tk]
 have L0:=I.type (M:=model prog w)
 have L1:=looks_find (M:=model prog w) X I hf
 have sub:Looks (model prog w) h (isInstance (.ref x) (.type "BaseException")) true:=L0.andThen (looks_mroIn X c.be)
 refine codeAny_call_builtin b5d.ga.plain PySem.F.entry_bexc_ga (@check_slot (model prog w) _ _ ⟨h,g,d,t,os⟩ "BaseException.__getattribute__" "BaseException" "__getattribute__" (.ref x) [.str "__class__" tk] [] _ hk hs sub (PySem.F.args_bexc_ga _ _) ?_)
 refine d8 (A0 (d8 (A0 (d8 (L0.at (d8 (L1.at ?_)))))))
 show wpAny _ _ (a4C [Value.builtin "object.__class__"] (call (.builtin "getset_descriptor.__get__") [.builtin "object.__class__",.ref x,.ref C]) >>= ret) _ _ _
 refine d8 (a0Y (wpAny_call (class_get (s:=⟨h,g,d,t,os⟩) (ox:=ox) (od:=od) X I c.ob ?_)))
 exact A0 hq
theorem c0U{tk:Tok}{fill expr:Bool}{Q:Value->d4->Prop}(X:K.In h)(I:InstAt h x ox C od)(c:XIs K C)(hq:Q (.ref C) ⟨h,g,d,t,os⟩) :
  wpAny (model prog w) A (getAttrBy (.ref x) (.str "__class__" tk) fill expr) Q E ⟨h,g,d,t,os⟩:=by
 have L0:=I.type (M:=model prog w)
 have L1:=looks_findIn (M:=model prog w) X c.ga
 have L2:=looks_findIn (M:=model prog w) X c.gg
 have f3:=b5d.ga.bind (.ref x)
 have hx0:(expr&&onTheHeap (Value.builtin "BaseException.__getattribute__"))=false:=by cases expr <;> rfl
 have hx2:(Value.builtin "BaseException.__getattribute__" == Value.builtin "object.__getattribute__")=false:=by decide +kernel
 have hx1:(onTheHeap (Value.ref C)&&Value.builtin "BaseException.__getattribute__" == Value.builtin "object.__getattribute__")=false:=by rw[hx2];rfl
 unfold getAttrBy
 refine a0Y (d8 (L0.at (d8 (L1.at ?_))))
 show wpAny _ _ (if(onTheHeap (Value.ref C)&&Value.builtin "BaseException.__getattribute__" == Value.builtin "object.__getattribute__")=true then _ else _) _ _ _
 rw[if_neg (by rw[hx1];decide)]
 unfold getAttrByItsOwn hookBefore
 refine d8 (L2.at ?_)
 refine d8 (wpAny_attempt (a0Y ?_))
 unfold callGetattribute
 rw[hx0,if_neg (by decide)]
 unfold boundAndCalled
 refine d8 (wpAny_of_eq f3 (wpAny_call (b5t X I c ?_)))
 show wpAny _ _ (handedOut (.ref C)) _ _ _
 rw[handedOut_of rfl]
 exact A0 hq
theorem b6D(c:XIs K C):KitX K (.ref x) (.ref C) (fun h=>InstAt h x ox C od) where
 ty:=fun _ _ _ I=>I.type
 it:=fun _ _ X _=>by
  obtain⟨cdD,hcD,_⟩:=any_some c.hd
  unfold clsIn at hcD
  split at hcD
  ·rename_i c' d' cd' sl' ho
   intro A' Q' E' s' k q
   unfold isType loadHead
   exact d8 (wpAny_loadPart (k _ _ (X _ _ ho)) (A0 q))
  ·cases hcD
 ne:=fun h tp dd its n sl X htp=>by
  obtain⟨cdD,hcD,_⟩:=any_some c.hd
  refine a2A.mpr fun q=>?_
  have e:C=tp:=Value.ref.inj (beq_iff_eq.mp q)
  subst e
  unfold clsIn at hcD
  split at hcD
  ·rename_i c' d' cd' sl' ho
   have z:=(X _ _ ho).symm.trans htp
   cases z
  ·cases hcD
 ca:=fun {prog w A E Q s} X I k=>by
  obtain⟨h,g,d,t,os⟩:=s
  unfold getAttr? getAttrBy?
  exact d8 (wpAny_mkText (d8 (wpAny_attempt (c0U X I c (A0 k)))))
end
structure b7h(X:Cx)(x C:Addr)(dx:Option Addr):Prop where
 ex:∃oe vs,(x,oe)∈X.pn/\oe.cls=.ref C/\oe.dict=dx/\oe.data=.fields vs/\vs[2]? = some .none
theorem b2Y{X:Cx}{pins:List (Addr×Obj)}{x C:Addr}{dx:Option Addr}{oe:Obj}{vs:Array Value}(h1:oe.cls=.ref C)(h2:oe.dict=dx)(h3:oe.data=.fields vs)(h4:vs[2]? = some .none):b7h (X.suite pins x oe) x C dx:=
 ⟨oe,vs,by simp,h1,h2,h3,h4⟩
def c9z(K:Frag)(x C:Addr):List V->Hp->VK->Prop:=fun vs H Q=>∃c u b,vs=[.ref x,c]/\F1 c u/\kitOne K (.ref C) u=some b/\(∀u',F1 c u'->u'=u)/\XIs K C/\Q (.bl b) H
section
variable {X:Cx}{x C:Addr}{dx:Option Addr}{f:Str}{pos:Pos}{e:Expr}{ta:TE}
theorem b6J{pins:List (Addr×Obj)}{σ:St}{H:Hp}{s:d4}(I:Inv X pins σ H s)(hx:b7h X x C dx)(hd:∀d,dx=some d->∃fs,H d=some (.xd fs)):∃oe od,InstAt s.heap x oe C od/\∀d,dx=some d->∃o,od=some o/\s.heap.get? d=some o:=by
 obtain⟨oe,vs,hm,h1,h2,h3,_⟩:=hx.ex
 have ho:=(I.pin (x,oe) (v9 _ hm)).1
 have hn:notCls oe=true:=by unfold notCls;rw[h3]
 cases hdx:dx with
 | none=>exact⟨oe,none,⟨ho,h1,hn,by rw[h2,hdx];trivial⟩,fun d z=>by cases z⟩
 | some d=>
  obtain⟨fs,hf⟩:=hd d hdx
  obtain⟨mA,⟨o,es,ep,e1,r⟩,_⟩:U6 X.prog X.w H s.heap d (.xd fs):=I.hok d _ hf
  exact⟨oe,some o,⟨ho,h1,hn,by rw[h2,hdx];exact e1⟩,fun d' z=>by cases z;exact⟨o,rfl,e1⟩⟩
def b4U(dx:Option Addr)(H:Hp):Prop:=∀d,dx=some d->∃fs,H d=some (.xd fs)
theorem c5q(hx:b7h X x C dx):W9 X (.builtin "isinstance") (fun vs H Q=>b4U dx H/\c9z X.K x C vs H Q):=by
 rintro pins s σ H vs us Q I r ⟨hd,c,u,b,rfl,rc,e,un,xi,q⟩
 obtain⟨u1,u2,rfl,r1,r2⟩:=b9r r
 obtain rfl:u1=Value.ref x:=r1
 obtain rfl:=un _ r2
 obtain⟨oe,od,J,_⟩:=b6J I hx hd
 exact kia_one (b6D xi) I.kIn J e (fun z=>nomatch z) fun tk=>⟨.bl b,H,I.tok tk,rfl,q⟩
end
end L2
namespace L2
open PySem PySem.Spec PyProof.Rows PySem.W
section
variable {prog:v8}{w:World}{A:F3}{E:Value->d4->Prop}{s:d4}
end
structure d3E(P:v8)(w:World)(fp:List Addr)(it:Addr)(tn:Nat->Heap->Prop):Prop where
 obj:∀i h,tn i h->∀b∈fp,∃o,h.get? b=some o/\∀v,o.data≠.cell v
 keep:∀i h h',tn i h->(∀b∈fp,∀o,h.get? b=some o->h'.get? b=some o)->tn i h'
 self:∀(A:F3) (i:Nat) (s:d4) (Q:Value->d4->Prop) (E:Value->d4->Prop),tn i s.heap->Q (.ref it) s->wpAny (model P w) A (pyIter (.ref it)) Q E s
structure d3D(X:Cx)(tg:Expr)(J:It)(fp:List Addr)(it:Addr)(tn:Nat->Heap->Prop):Prop where
 item:∀(i:Nat) (pins:List (Addr×Obj)) (s:d4) (σ:St) (H:Hp) (E:Value->d4->Prop),Inv X pins σ H s->(∀b∈fp,a1K X pins H b)->tn i s.heap->J.go i H ->
  wpAny (model X.prog X.w) X.A (pyNext (.ref it)) (fun r s1=>∃u,r=some u /\
   wpAny (model X.prog X.w) X.A (a3m tg (.ref it) u) (fun _ s2=>∃x H',Inv X pins σ H' s2/\F1 x u/\J.yld i H x H'/\tn (i+1) s2.heap/\∀b∈fp,H' b=none) E s1) E s
 done:∀(i:Nat) (pins:List (Addr×Obj)) (s:d4) (σ:St) (H:Hp) (E:Value->d4->Prop),Inv X pins σ H s->(∀b∈fp,a1K X pins H b)->tn i s.heap->J.stop i H ->
  wpAny (model X.prog X.w) X.A (pyNext (.ref it)) (fun r s1=>r=none/\Inv X pins σ H s1) E s
section
variable {X:Cx}{elt iter:Expr}{x:Str}{px pos:Pos}{ifs:List Expr}{scope:Scope}
end
section
variable {X:Cx}{elt:Expr}{x:Str}{px pos:Pos}{ifs:List Expr}{scope:Scope}{y C:Addr}{dx:Option Addr}
end
section
variable {X:Cx}
end
end L2
namespace L2
open PySem PySem.Spec PyProof.Rows PySem.W
section
variable {prog:v8}{w:World}{A:F3}{E:Value->d4->Prop}{s:d4}
end
section
variable {X:Cx}{elt:Expr}{x:Str}{px pos:Pos}{ifs:List Expr}{scope:Scope}{y C:Addr}{dx:Option Addr}
end
end L2
namespace L2
open PySem PySem.Spec PyProof.Rows PySem.W
def b0X(C:Addr)(sp:Sp)(E:St->XK)(t:TA):TE:=fun σ H Q=>t σ H fun vs H1=>∀x dx,H1 x=none->H1 dx=none->dx≠x->sp (.ref x::vs) (upd (upd H1 dx (.own x)) x (.ins C dx [])) (fun v H2=>v=.non/\Q (.ref x) H2) (E σ)
structure d2M(k:Nat)(A:F3):Prop where
 dp:A.depth+3 * k+5<recursionLimit
 un:A.units+16 * k+200<cLine
 gd:A.guards=some []
structure d2P(P:v8)(w:World)(K:Frag)(mg:Str->Option Value)(base:Heap)(k:Nat)(f:Addr)(fd:U1)(ps:List Str)(sp:Sp):Prop where
 len:∀vs H Q E,sp vs H Q E->vs.length=ps.length
 run:∀(A:F3) (outer:List Env) (s:d4) (H:Hp) (args:Args) (us:List Value) (vs:List V) (Q:VK),d2M k A->b7i P w K mg base A outer s H->b7s s fd args (ps.zip us)->J0 vs us->sp vs H Q E0 ->
  a3U (model P w) A (.call (.ref f) args) (CR CX0 outer P w H s Q E0) s
structure d3a(P:v8)(w:World)(K:Frag)(mg:Str->Option Value)(base:Heap)(k:Nat)(x:Str)(ps:List Str)(sp:Sp):Prop where
 ex:∃f fd,d2P P w K mg base k f fd ps sp/\mg x=some (.ref f)/\keepIn K (.ref f)=true/\a2d K fd ps []
section
variable {P:v8}{w:World}{K:Frag}{mg:Str->Option Value}{base:Heap}
end
section
variable {X:Cx}{k j:Nat}{C f:Addr}{fd:U1}{ps:List Str}{sp:Sp}{E:St->XK}{x:Str}{p pos:Pos}{e:Expr}{es:List Expr}{t:TA}
theorem c4k(W:Wi X E)(M:Mk X.K C f)(F:F5 X.prog X.w X.K X.mg X.base (CX1 X.prog X.w) k f fd ps sp)(hr:R3 (k+1) X.A)(hg:Gl X x)(hm:X.mg x=some (.ref C))(hb:a2d X.K fd ps [])(ha:PA X (e::es) t)
  (hdb:(x == ("__debug__" : Str))=false:=by decide) (he:g6 (e::es) X.env=(false,eval e X.env)::g6 es X.env:=by rfl) (hpl:(X5 pos (g6 es X.env)).any (·.1)=false:=by rfl) :
  PE X (.Call (.Name x p) (e::es) [] pos) (b0X C sp E t):=by
 intro pins s σ H Q I h
 refine X2 (a3d I hg hm ?_ hdb)
 refine a0p (h₀:=X.base) I.ok.mod.kin M.kp (thn (ha pos pins s σ H _ I h) fun us s1 ⟨vs,H1,I1,r,q⟩=>⟨I1.kIn,?_⟩) he hpl
 have hq:=q (s1.heap.objs.size+1) s1.heap.objs.size (I1.hok.fresh (a1n _)) (I1.hok.fresh (d9 _)) (z5 (b2L _))
 have I2:=Inv.made (C:=C) I1
 have r2:J0 (V.ref (s1.heap.objs.size+1)::vs) (Value.ref (s1.heap.objs.size+1)::us):=.cons rfl r
 have hl:(Value.ref (s1.heap.objs.size+1)::us++[]).length=ps.length:=by
  have e:=r2.length
  rw[F.len _ _ _ _ hq]at e
  rw[F0]
  exact e.symm
 have hbi:=hb { s1 with heap:=(s1.heap.push M9).push (U7 C s1.heap.objs.size) } (Value.ref (s1.heap.objs.size+1)::us) I2.kIn hl
 rw[F0]at hbi
 refine wpAny_call (b6x (f:=f) I1.kIn M.makes M.init (beq_iff_eq.mp M.fn) (a2U (F.run _ X.stack _ _ ⟨Value.ref (s1.heap.objs.size+1)::us,[]⟩ (Value.ref (s1.heap.objs.size+1)::us) _ _ (E σ) (hr.make C us [])
  (I2.env0.make C us []) hbi r2 hq) fun r s' hq'=>?_))
 cases r with
 | error e=>
  obtain⟨y,cls,dx,H',rfl,o,q'⟩:=c4w I2 hq'
  exact W pins σ H' s' y cls dx o q'
 | ok fl=>
  cases fl with
  | ret u=>
   obtain⟨v,H',I3,rv,ev,q3⟩:=I2.after hq'
   subst ev
   exact⟨rv,⟨V.ref (s1.heap.objs.size+1),H',I3,rfl,q3⟩⟩
  | next=>exact False.elim hq'
  | brk=>exact False.elim hq'
  | cont=>exact False.elim hq'
end
end L2
namespace Y
open PySem PySem.Spec PyProof.Rows L2
structure y'E(X:Cx)(e:Expr)(t:TE):Prop where h:PE X e t
structure y'A(X:Cx)(e:List Expr)(t:TA):Prop where h:PA X e t
structure y'S(X:Cx)(e:Stmt)(t:TS):Prop where h:PS X e t
structure a5H(X:Cx)(e:List Stmt)(t:TS):Prop where h:PSs X e t
structure y'T(X:Cx)(e:Expr)(t:TT):Prop where h:PT X e t
structure y'W(X:Cx)(e:Expr)(t:TT):Prop where h:PW X e t
structure c2Y(X:Cx)(e:List Expr)(t:TT):Prop where h:PTs X e t
structure b0L(X:Cx)(tg e:Expr)(t:TI):Prop where h:PI X tg e t
structure y'G(X:Cx)(e:Expr)(t:TG):Prop where h:PG X e t
structure c5Y(X:Cx)(e:List Expr)(t:TGs):Prop where h:PGs X e t
structure y'O(X:Cx)(e:Option Expr)(t:TO):Prop where h:PO X e t
structure Y5(X:Cx)(f:Value->Value->Sem Value)(r:R2):Prop where h:OpR X f r
structure d3C(X:Cx)(f:Value->Sem Value)(r:V->Hp->VK->Prop):Prop where h:UnR X f r
structure Z2(X:Cx)(f:Value)(r:List V->Hp->VK->Prop):Prop where h:W9 X f r
structure a6M(X:Cx)(id:String)(r:V->List V->Hp->VK->Prop):Prop where h:MtR X id r
structure c8v(X:Cx)(r:R2):Prop where h:IxR X r
structure b9o(X:Cx)(r:V->Option Int->Option Int->Hp->VK->Prop):Prop where h:SlR X r
structure b7w(X:Cx)(t:b2G):Prop where h:c5B X t
structure c2Z(X:Cx)(t:V->V->Hp->VK->Prop):Prop where h:d1g X t
structure c8w(X:Cx)(op:c2F)(t:TIp):Prop where h:PIp X op t
section
variable {X:Cx}{st:Stmt}{rest:List Stmt}{t u:TS}{e a b c o i:Expr}{es more:List Expr}{te ta tb tc to ti:TE}{tt tu:TT}{tr:TA}{pos p pos':Pos}{x:Str}
theorem o5:a5H X [] E6:=⟨L2.c6G⟩
theorem b4(h1:y'S X st t)(h2:a5H X rest u):a5H X (st::rest) (z4 t u):=⟨L2.c4c h1.h h2.h⟩
theorem b8(h1:y'S X st t):a5H X [st] t:=⟨L2.c6F h1.h⟩
theorem c2P{n:Nat}(hN:X.N.Nodup)(hi:X.N[n]? = some x)(hx:Loc X.env.scope x)(he:y'E X e te)(hs:a1O e (some (.Name x pos')) pos.line X.env=pure false:=by rfl)(hf:X.fn x=true\/X.env.scope.names.lookup x=some .local:=by first | exact .inl rfl | exact .inr rfl) :
  y'S X (.Assign [.Name x pos'] e pos) (G5 te (v0 n)):=⟨L2.c9G hN hi hx he.h hs hf⟩
theorem a7N{tg:Expr}{g:TG}(he:y'E X e te)(hg:y'G X tg g)(hs:swapsWithSole [tg] e pos.line X.env=pure false:=by rfl)(hw:swappedStores [tg] e X.env=pure none:=by rfl)
  (h1:(a2l [tg] X.env).map (·.2)=[b2M tg X.env]:=by rfl):y'S X (.Assign [tg] e pos) (G5 te g):=⟨L2.c9K he.h hg.h hs hw h1⟩
theorem c0L{tget:V->V->Hp->VK->Prop}{tip:TIp}{tset:b2G}{op:c2F}(ho:y'E X o to)(hi:y'E X i ti)(hg:c2Z X tget)(he:y'E X e te)(hp:c8w X op tip)(hs:b7w X tset)
  (ha:∀ov iv new,augStore i ov iv new=(do a4C [new,ov,iv] (c8U ov iv new);release [new,ov,iv] [];pure .next):=by intros;rfl):y'S X (.AugAssign (.Subscript o i p) op e pos) (b9y to ti te tget tip tset):=⟨L2.c6M ho.h hi.h hg.h he.h hp.h hs.h ha⟩
theorem w4{la lb:List Stmt}(hc:y'T X c tt)(ha:a5H X la t)(hb:a5H X lb u):y'S X (.If c la lb pos) (M0 tt t u):=⟨L2.d2g hc.h ha.h hb.h⟩
theorem o8(he:y'E X e te):y'S X (.Return (some e) pos) (L5 te):=⟨L2.c9H he.h⟩
theorem J7(he:y'E X e te)(hs:a1O e none pos.line X.env=pure false:=by rfl):y'S X (.Expr e pos) (a0a te):=⟨L2.c6K he.h hs⟩
theorem S0{tg:Expr}{wi:TI}{g:TG}{body:List Stmt}(hp:d1F (model X.prog X.w) X.A X.env X.xe)(hc:X.calm=true)(hi:b0L X tg e wi)(hg:y'G X tg g)(hb:a5H X body t)
  (hs:∀x,Y7 e X.env x=pure x:=by intro _;rfl):y'S X (.For tg e body [] pos) (a3X wi g t):=⟨L2.c9I hp hc hi.h hg.h hb.h hs⟩
theorem c0N{n:Nat}(hN:X.N.Nodup)(hi:X.N[n]? = some x)(hx:Loc X.env.scope x)(hf:X.fn x=true\/X.env.scope.names.lookup x=some .local:=by first | exact .inl rfl | exact .inr rfl):y'G X (.Name x pos) (v0 n):=⟨L2.b4h hN hi hx hf⟩
theorem a4l:c5Y X [] b4B:=⟨L2.b9S⟩
theorem Y1{g:TG}{gs:TGs}(h1:y'G X e g)(h2:c5Y X es gs)(h:(a2l (e::es) X.env).map (·.2)=b2M e X.env::(a2l es X.env).map (·.2):=by rfl):c5Y X (e::es) (a2V g gs):=⟨L2.b1u h1.h h2.h h⟩
theorem a5C{k n:Nat}{gs:TGs}(hc:X.calm=true)(h:c5Y X es gs)(hn:(a2l es X.env).length=n:=by rfl)(hst:(a2l es X.env).findIdx? (·.1)=none:=by rfl):y'G X (.Tuple es k pos) (b4A X.K n gs):=⟨L2.c4i hc h.h hn hst⟩
theorem b0G{ts:b2G}(ho:y'E X o to)(hi:y'E X i ti)(hs:b7w X ts)
  (ha:∀v,b2M (.Subscript o i pos) X.env v=(do
   let ov <-a4C [v] (eval o X.env)
   let iv <-a4C [v,ov] (eval i X.env)
   c2L pos
   a4C [v,ov,iv] (c8U ov iv v)
   release [v,ov,iv] []):=by intro _;rfl):y'G X (.Subscript o i pos) (c2a to ti ts):=⟨L2.c9O ho.h hi.h hs.h ha⟩
theorem M3{tg:Expr}(hg:Gl X "range")(hm:X.mg "range" = none)(ha:y'A X [a] tr)(hs:g6 [a] X.env=[(false,eval a X.env)]:=by rfl):b0L X tg (.Call (.Name "range" p) [a] [] pos) (a2H tr):=⟨L2.c1w hg hm ha.h hs⟩
theorem b5k{tg:Expr}(hg:Gl X "range")(hm:X.mg "range" = none)(ha:y'A X [a,b] tr)(hs:g6 [a,b] X.env=[(false,eval a X.env),(false,eval b X.env)]:=by rfl)(hs2:g6 [b] X.env=[(false,eval b X.env)]:=by rfl):b0L X tg (.Call (.Name "range" p) [a,b] [] pos) (c0c tr):=⟨L2.c1v hg hm ha.h hs hs2⟩
theorem O8{tg:Expr}(h:y'E X e te):b0L X tg e (a0b X.K te):=⟨L2.c6Q h.h⟩
theorem c2Q{tg:Expr}(h:y'E X e te):b0L X tg e (c7K X.K te):=⟨L2.c9M h.h⟩
theorem W5:y'A X [] d6:=⟨L2.d0d⟩
theorem C4(ha:y'E X e te)(hr:y'A X es tr)(hs:g6 (e::es) X.env=(false,eval e X.env)::g6 es X.env:=by rfl):y'A X (e::es) (a8 te tr):=⟨L2.c7a ha.h hr.h hs⟩
theorem I0:c2Y X [] U4:=⟨L2.c6D⟩
theorem a8N(h:y'T X e tt):c2Y X [e] tt:=⟨L2.c6C h.h⟩
theorem M8{elt iter:Expr}{px:Pos}{ifs:List Expr}{scope:Scope}{wi:TI}(hc:Q1 X.N X.env.scope scope x)(hcalm:X.calm=true)(hi:b0L X (.Name x px) iter wi)
  (ht:∀cl C fp s3 H3,c2Y (X4 X scope cl C x fp s3 H3) ifs tt) (he:∀cl C fp s3 H3,y'E (X4 X scope cl C x fp s3 H3) elt te)
  (hs:∀x,Y7 iter X.env x=pure x:=by intro _;rfl):y'E X (.ListComp elt [⟨.Name x px,iter,ifs,0⟩] scope pos) (T5 wi tt te):=
 ⟨L2.c6W hc hcalm hi.h (fun cl C fp s3 H3=>(ht cl C fp s3 H3).h) (fun cl C fp s3 H3=>(he cl C fp s3 H3).h) hs⟩
theorem a2X{elt iter:Expr}{px py spos:Pos}{ifs:List Expr}{scope:Scope}{wi:TI}{n:Nat}{y:Str}(hN:X.N.Nodup)(hiy:X.N[n]? = some y)(hy:X.env.scope.names.lookup y=some .local)(hc:Q1 X.N X.env.scope scope x)(hcalm:X.calm=true)(hi:b0L X (.Name x px) iter wi)
  (ht:∀cl C fp s3 H3,c2Y (X4 X scope cl C x fp s3 H3) ifs tt) (he:∀cl C fp s3 H3,y'E (X4 X scope cl C x fp s3 H3) elt te)
  (hsw:a1O (.ListComp elt [⟨.Name x px,iter,ifs,0⟩] scope pos) (some (.Name y py)) spos.line X.env=pure true:=by rfl)
  (hs:∀x,Y7 iter X.env x=pure x:=by intro _;rfl) :
  y'S X (.Assign [.Name y py] (.ListComp elt [⟨.Name x px,iter,ifs,0⟩] scope pos) spos) (fun D σ H=>T5 wi tt te σ H fun v H1=>D.nx (σ.set n (some v)) H1):=
 ⟨L2.b8e hN hiy hy hc hcalm hi.h (fun cl C fp s3 H3=>(ht cl C fp s3 H3).h) (fun cl C fp s3 H3=>(he cl C fp s3 H3).h) hsw hs⟩
theorem b6{n:Int}{j}:y'E X (.Constant (.int n) j pos) (tC (.int n)):=⟨L2.c9Y⟩
theorem a0O{v:Bool}{j}:y'E X (.Constant (.bool v) j pos) (tC (.bl v)):=⟨L2.d2n⟩
theorem a7O{j}:y'E X (.Constant .none j pos) (tC .non):=⟨L2.c9V⟩
theorem d5{j}:y'E X (.Constant (.str x) j pos) (tC (.str x)):=⟨L2.c9R⟩
theorem b7(n:Nat)(hN:X.N[n]? = some x:=by rfl)(hv:Vis X.env.scope x:=by first | exact Or.inl rfl | exact Or.inr (Or.inl rfl) | exact Or.inr (Or.inr rfl))(hd:(x == ("__debug__" : Str))=false:=by decide)
  (hcd:(x == ("__classdict__" : Str))=false:=by decide):y'E X (.Name x pos) (b5 n):=⟨L2.c9P hN hv hd hcd⟩
theorem T3{v:V}{u:Value}(hg:Gl X x)(hm:X.mg x=none)(hv:a0W x=some u)(r:F1 v u)(hn:x ≠ "__name__" := by decide)(hd:(x == ("__debug__" : Str))=false:=by decide):y'E X (.Name x pos) (tC v):=⟨L2.c6Z hg hm hv r hn hd⟩
theorem L3{v:V}(hm:∃u,X.mg x=some u/\F1 v u)(hg:Gl X x)(hd:(x == ("__debug__" : Str))=false:=by decide):y'E X (.Name x pos) (tC v):=by
 obtain⟨u,h1,h2⟩:=hm
 exact⟨L2.c6U hg h1 h2 hd⟩
theorem u9{op:c2F}{r:R2}(ho:Y5 X (V6 op) r)(ha:y'E X a ta)(hb:y'E X b tb):y'E X (.BinOp a op b pos) (tOp r ta tb):=⟨L2.d2j ho.h ha.h hb.h⟩
theorem c2S(ha:y'E X a ta):y'E X (.UnaryOp .Not a pos) (b5B ta):=⟨L2.c9U ha.h⟩
theorem a1C{op:CmpOp}{r:R2}(ho:Y5 X (z8 op) r)(ha:y'E X a ta)(hb:y'E X b tb)(hm:R9 op b=false):y'E X (.Compare a [op] [b] pos) (tOp r ta tb):=⟨L2.c6X ho.h ha.h hb.h hm⟩
theorem a0N{op:CmpOp}{r:R2}(ho:Y5 X (z8 op) r)(ha:y'E X a ta)(hb:y'E X b tb)(hm:R9 op b=false):y'T X (.Compare a [op] [b] pos) (D7 (tOp r ta tb)):=⟨L2.c6E ho.h ha.h hb.h hm⟩
theorem b0H{op op':CmpOp}{r r':R2}(ho:Y5 X (z8 op) r)(ho':Y5 X (z8 op') r')(ha:y'E X a ta)(hb:y'E X b tb)(hc:y'E X c tc)
  (hm:d1E [op,op'] [b,c]=false:=by with_unfolding_all rfl):y'E X (.Compare a [op,op'] [b,c] pos) (a3Y r r' ta tb tc):=⟨L2.c4o ho.h ho'.h ha.h hb.h hc.h hm⟩
theorem b0D{op op':CmpOp}{r r':R2}(ho:Y5 X (z8 op) r)(ho':Y5 X (z8 op') r')(ha:y'E X a ta)(hb:y'E X b tb)(hc:y'E X c tc)
  (hm:d1E [op,op'] [b,c]=false:=by with_unfolding_all rfl):y'T X (.Compare a [op,op'] [b,c] pos) (D7 (a3Y r r' ta tb tc)):=⟨L2.c4b ho.h ho'.h ha.h hb.h hc.h hm⟩
theorem X6{op}(h:y'E X a te):y'E X (.BoolOp op [a] pos) te:=⟨L2.c9T h.h⟩
theorem U3(ha:y'E X a ta)(hb:y'E X (.BoolOp .And (b::more) pos) tb):y'E X (.BoolOp .And (a::b::more) pos) (a1g ta tb):=⟨L2.d0c ha.h hb.h⟩
theorem c5S(ha:y'E X a ta)(hb:y'E X (.BoolOp .Or (b::more) pos) tb):y'E X (.BoolOp .Or (a::b::more) pos) (c6c ta tb):=⟨L2.d2i ha.h hb.h⟩
theorem a4D(hc:y'T X c tt)(ha:y'E X a ta)(hb:y'E X b tb):y'E X (.IfExp c a b pos) (tIf tt ta tb):=⟨L2.c4l hc.h ha.h hb.h⟩
theorem W4{k}(h:y'A X es tr):y'E X (.Tuple es k pos) (a5s tr):=⟨L2.c9Q h.h⟩
theorem C2(h:y'A X es tr):y'E X (.List es pos) (Y2 tr):=⟨L2.c9X h.h⟩
theorem M7:y'O X none R6:=⟨L2.c6P⟩
theorem M6(h:y'E X e te):y'O X (some e) (a1f te):=⟨L2.c6O h.h⟩
theorem K9{lo hi:Option Expr}{tl th:TO}{r:V->Option Int->Option Int->Hp->VK->Prop}(hr:b9o X r)(he:y'E X e te)(hl:y'O X lo tl)(hu:y'O X hi th):y'E X (.Subscript e (.Slice lo hi none p) pos) (tSl r te tl th):=⟨L2.c4j hr.h he.h hl.h hu.h⟩
theorem c5V{r:R2}(hr:c8v X r)(ha:y'E X a ta)(hb:y'E X b tb)(hs:b4Y b):y'E X (.Subscript a b pos) (tOp r ta tb):=⟨L2.d2l hr.h ha.h hb.h hs⟩
theorem c2R{k j:Nat}{ps:List Str}{sp:Sp}(C:F6 X.prog X.w X.K X.mg X.base k x ps sp)(hr:R3 j X.A)(hk:k<=j)(hg:Gl X x)(ha:y'A X (e::es) tr)
  (hdb:(x == ("__debug__" : Str))=false:=by decide) (he:g6 (e::es) X.env=(false,eval e X.env)::g6 es X.env:=by rfl) (hpl:(X5 pos (g6 es X.env)).any (·.1)=false:=by rfl) :
  y'E X (.Call (.Name x p) (e::es) [] pos) (u8 sp [] E0 tr):=⟨L2.c9S C hr hk hg ha.h hdb he hpl⟩
theorem g9{id:String}{r:List V->Hp->VK->Prop}(hc:Z2 X (.builtin id) r)(hg:Gl X x)(hm:X.mg x=none)(hv:a0W x=some (.builtin id))(ha:y'A X (e::es) tr)(hn:x ≠ "__name__" := by decide)(hdb:(x == ("__debug__" : Str))=false:=by decide)
  (he:g6 (e::es) X.env=(false,eval e X.env)::g6 es X.env:=by rfl) (hpl:(X5 pos (g6 es X.env)).any (·.1)=false:=by rfl):y'E X (.Call (.Name x p) (e::es) [] pos) (tCB r tr):=⟨L2.c4q hc.h hg hm hv ha.h hn hdb he hpl⟩
theorem V1{id:String}{r:List V->Hp->VK->Prop}(hc:Z2 X (.type id) r)(hg:Gl X x)(hm:X.mg x=none)(hv:a0W x=some (.type id))(ha:y'A X (e::es) tr)(hn:x ≠ "__name__" := by decide)(hdb:(x == ("__debug__" : Str))=false:=by decide)
  (he:g6 (e::es) X.env=(false,eval e X.env)::g6 es X.env:=by rfl) (hpl:(X5 pos (g6 es X.env)).any (·.1)=false:=by rfl):y'E X (.Call (.Name x p) (e::es) [] pos) (tCB r tr):=⟨L2.c1x hc.h hg hm hv ha.h hn hdb he hpl⟩
theorem R5{ty id:String}{name:Str}{r:V->List V->Hp->VK->Prop}{apos:Pos}(pa:c8u ty)(slot:Slot ty name id)(hty:typeOf (.builtin id)=pure (.type "method_descriptor"))(hm:a6M X id r)(ho:y'E X o to)(ha:y'A X (e::es) tr)
  (hbase:a0Z o name X.env (eval o X.env)=eval o X.env:=by rfl)
  (hfew:((X5 pos (g6 (e::es) X.env)).all (fun x => !x.1)&&(b5f pos (a5B [] X.env)).all (fun x=>x.1.isSome)
   && decide ((e::es).length+([]:List b3D).length+(if([]:List b3D).isEmpty then 0 else 1)<30))=true:=by rfl)
  (hline:(apos.endLine == pos.line)=true:=by rfl) (hs:g6 (e::es) X.env=(false,eval e X.env)::g6 es X.env:=by rfl) (hplain:(X5 pos (g6 es X.env)).any (·.1)=false:=by rfl) :
  y'E X (.Call (.Attribute o name apos) (e::es) [] pos) (tBM X.K ty r to tr):=⟨L2.d2m pa slot hty hm.h ho.h ha.h hbase hfew hline hs hplain⟩
theorem W0(ha:y'T X a tt):y'T X (.UnaryOp .Not a pos) (a5t tt):=⟨L2.c9F ha.h⟩
theorem a2p(ha:y'T X a tt):y'W X (.BoolOp .And [a] pos) tt:=⟨L2.c6B ha.h⟩
theorem V9(ha:y'T X a tt):y'W X (.BoolOp .Or [a] pos) tt:=⟨L2.c9C ha.h⟩
theorem a3o(ha:y'T X a tt)(hb:y'W X (.BoolOp .And (b::more) pos) tu):y'W X (.BoolOp .And (a::b::more) pos) (b2t tt tu):=⟨L2.c9D ha.h hb.h⟩
theorem a0d(ha:y'T X a tt)(hb:y'W X (.BoolOp .Or (b::more) pos) tu):y'W X (.BoolOp .Or (a::b::more) pos) (tOr tt tu):=⟨L2.d2f ha.h hb.h⟩
theorem Q3(h:y'W X e tt):y'T X e tt:=⟨PW.pt h.h⟩
theorem Q8(h:y'E X e te)(he:∀whole,isTrue e X.env whole=(do let v <-whole;c2L e.pos;a4C [v] (truthy v)):=by intro _;rfl):y'T X e (tB te):=⟨L2.c9E h.h he⟩
theorem y9:Y5 X (V6 .Add) T9:=⟨L2.c7k⟩
theorem a3h:Y5 X (V6 .Sub) b6a:=⟨L2.c7c⟩
theorem a3i:Y5 X (V6 .Mult) b6b:=⟨L2.c7e⟩
theorem a1D:Y5 X (V6 .Mod) b2w:=⟨L2.c7f⟩
theorem b2O:Y5 X (V6 .FloorDiv) c6A:=⟨L2.c7j⟩
theorem c0P:Y5 X (V6 .Pow) c9y:=⟨L2.c7d⟩
theorem C3{k:Nat}(hr:R3 k X.A):Y5 X (z8 .Eq) qEq:=⟨L2.d0m hr.units0⟩
theorem a3q{k:Nat}(hr:R3 k X.A):Y5 X (z8 .NotEq) qNe:=⟨L2.d0f hr.units0⟩
theorem a4G:Z2 X (.type "list") a9Q:=⟨L2.b9b⟩
theorem a1P:Y5 X (z8 .Lt) qLt:=⟨L2.d0g⟩
theorem a5E:Y5 X (z8 .LtE) qLe:=⟨L2.d0h⟩
theorem a2C:Y5 X (z8 .Gt) qGt:=⟨L2.d0k⟩
theorem c2W:Y5 X (z8 .GtE) qGe:=⟨L2.d0l⟩
theorem a1e:Y5 X (z8 .In) (qIn false):=⟨L2.d0j⟩
theorem b5m:Y5 X (z8 .NotIn) (qIn true):=⟨L2.c1z⟩
theorem b5n:Y5 X (z8 .Is) qIs:=⟨L2.d0i⟩
theorem a7b:y'E X (.Dict [] [] pos) a8S:=⟨L2.c4m⟩
theorem c2U{k:Nat}(hr:R3 k X.A)(hi:y'E X i ti)(ho:y'E X o to)(h1:R9 .In o=false):y'E X (.Compare i [.In] [o] pos) (b3I ti to):=⟨L2.d0a (L2.c4r (c0d hr) hi.h ho.h) h1⟩
theorem b5g{k:Nat}(hr:R3 k X.A)(hi:y'E X i ti)(ho:y'E X o to)(h1:R9 .In o=false):y'T X (.Compare i [.In] [o] pos) (tB (b3I ti to)):=⟨L2.c4a (L2.c4r (c0d hr) hi.h ho.h) h1⟩
theorem a8O{k:Nat}(hr:R3 k X.A)(ho:y'E X o to)(hi:y'E X i ti)(hv:y'E X e te)(hs:a1O e (some (.Subscript o i pos')) pos.line X.env=pure false:=by rfl):y'S X (.Assign [.Subscript o i pos'] e pos) (a8j to ti te):=⟨L2.c6L (c0d hr) ho.h hi.h hv.h hs⟩
theorem b5j{tg:Expr}(h:y'E X e te):b0L X tg e (c4X te):=⟨L2.c9N h.h⟩
theorem a5G(hc:X.calm=true):Z2 X (.builtin "all") a8n:=⟨L2.c2l hc⟩
theorem c8Y:c8v X qIx:=⟨L2.d3t⟩
theorem a7a:b9o X qSl:=⟨L2.d3d⟩
theorem c0I:b9o X (c9u X.K):=⟨L2.b9B⟩
theorem b0f:b7w X b4d:=⟨L2.d1K⟩
theorem c5W:c2Z X c1r:=⟨L2.d2C⟩
theorem c2X:c8w X .Add (ipI fun i j=>i+j):=⟨L2.d0T⟩
theorem o6:Z2 X (.builtin "len") R0:=⟨L2.c2i⟩
theorem b5r:Z2 X (.builtin "abs") c3Z:=⟨L2.c2m⟩
theorem O9:Z2 X (.builtin "isinstance") a4V:=⟨L2.c2j⟩
theorem a0e:a6M X "list.append" a1q:=⟨L2.b8z⟩
theorem a3r:a6M X "str.join" a5n:=⟨L2.c4I⟩
end
theorem a4m{P:v8}{w:World}{K:Fg}{mg:Str->Option Value}{base:Heap}{x qual:Str}{st:Stmt}{f:Addr}{fd:U1}{N ps:List Str}{k:Nat}{sp:Sp}(F:Fun K x qual st f fd)(y'S:A4 N ps (i9 st))(len:∀vs H Q y'E,sp vs H Q y'E->vs.length=ps.length)
  (hbody:∀(cdv:Value) (y'A:F3) (outer:List Env) (s:d4) (H:Hp) (vs:List V) (Q:VK) (y'E:XK),R3 k (y'A.deeper (b0B qual (i9 st) s.heap.objs.size f cdv))->sp vs H Q y'E ->
   ∃t,a5H (a8x CX0 P w K mg base N qual (i9 st) f cdv y'A outer s H y'E).nox (a1r st) t/\t { nx:=fun _ H'=>Q .non H',rt:=Q } (a6R N vs) H):F5 P w K mg base CX0 (k+1) f fd ps sp:=
 F.ok y'S len fun cdv y'A outer s H vs Q y'E hr h=>let⟨t,a,b⟩:=hbody cdv y'A outer s H vs Q y'E hr h; ⟨t,a.h,b⟩
end Y
namespace Y
open PySem PySem.Spec PyProof.Rows L2
section
variable {X:Cx}{st:Stmt}{rest:List Stmt}{t u:TS}{e a b c o i:Expr}{es more:List Expr}{te ta tb tc to ti:TE}{tt tu:TT}{tr:TA}{pos p pos':Pos}{x y:Str}
theorem a4k{elts:List Expr}{x1}{tp:Pos}(hg:Gl X "enumerate")(hm:X.mg "enumerate" = none)(ha:y'A X [a] tr)(hs:g6 [a] X.env=[(false,eval a X.env)]:=by rfl) :
  b0L X (.Tuple elts x1 tp) (.Call (.Name "enumerate" p) [a] [] pos) (a9U X.K tr):=⟨L2.c6R hg hm ha.h hs⟩
theorem b0F{elts:List Expr}{x1}{tp:Pos}(hg:Gl X "zip")(hm:X.mg "zip" = none)(ha:y'A X [a,b] tr)(hs:g6 [a,b] X.env=[(false,eval a X.env),(false,eval b X.env)]:=by rfl)(hs2:g6 [b] X.env=[(false,eval b X.env)]:=by rfl) :
  b0L X (.Tuple elts x1 tp) (.Call (.Name "zip" p) [a,b] [] pos) (c1X X.K tr):=⟨L2.c9L hg hm ha.h hs hs2⟩
theorem a4E{elt iter:Expr}{px py pt:Pos}{kt}{ifs:List Expr}{scope:Scope}{wi:TI}(hc:a3Q X.N X.env.scope scope x y)(hcalm:X.calm=true)(hi:b0L X (.Tuple [.Name x px,.Name y py] kt pt) iter wi)
  (ht:∀cl C fp s3 H3,c2Y (U9 X scope cl C x y fp s3 H3) ifs tt) (he:∀cl C fp s3 H3,y'E (U9 X scope cl C x y fp s3 H3) elt te)
  (hs:∀x,Y7 iter X.env x=pure x:=by intro _;rfl):y'E X (.ListComp elt [⟨.Tuple [.Name x px,.Name y py] kt pt,iter,ifs,0⟩] scope pos) (a7f X.K wi tt te):=
 ⟨L2.c4n hc hcalm hi.h (fun cl C fp s3 H3=>(ht cl C fp s3 H3).h) (fun cl C fp s3 H3=>(he cl C fp s3 H3).h) hs⟩
theorem b7t{body:List Stmt}(hp:d1F (model X.prog X.w) X.A X.env X.xe)(hc:y'T X c tt)(hb:a5H X body t):y'S X (.While c body [] pos) (b3H tt t):=⟨L2.c4d hp hc.h hb.h⟩
theorem a1v{e c:Option Expr}:y'S X (.Raise e c pos) (fun _ _ _=>False):=⟨L2.c4e⟩
theorem a3p{f:Str}(he:y'E X e te)(hb:a0Z e f X.env (eval e X.env)=eval e X.env:=by rfl):y'E X (.Attribute e f pos) (b2s X.K te f):=⟨L2.c9Z he.h hb⟩
theorem b0E{f:Str}(ha:y'E X o to)(hv:y'E X e te)(hs:a1O e (some (.Attribute o f pos')) pos.line X.env=pure false:=by rfl):y'S X (.Assign [.Attribute o f pos'] e pos) (c1m X.K to te f):=⟨L2.c9J ha.h hv.h hs⟩
theorem c5T{k j:Nat}{C:Addr}{ps:List Str}{sp:Sp}(M:b7f X.prog X.w X.K X.mg X.base k x C ps sp)(hr:R3 j X.A)(hk:k+1<=j)(hg:Gl X x)(ha:y'A X (e::es) tr)
  (hdb:(x == ("__debug__" : Str))=false:=by decide) (he:g6 (e::es) X.env=(false,eval e X.env)::g6 es X.env:=by rfl) (hpl:(X5 pos (g6 es X.env)).any (·.1)=false:=by rfl) :
  y'E X (.Call (.Name x p) (e::es) [] pos) (b2X C sp [] E0 tr):=⟨L2.d2k M hr hk hg ha.h hdb he hpl⟩
theorem c2T{pl:Sem Bool}{k j:Nat}{m:Str}{C:Addr}{ps:List Str}{sp:Sp}{apos:Pos}(M:b0y X.prog X.w X.K X.mg X.base k m C ps sp)(hr:R3 j X.A)(hk:k<=j)(ho:y'E X o to)(ha:y'A X (e::es) tr)
  (hst:g6 (e::es) X.env=(false,eval e X.env)::g6 es X.env:=by rfl) (hpl:(X5 pos (g6 es X.env)).any (·.1)=false:=by rfl)
  (ht:eval (.Call (.Attribute o m apos) (e::es) [] pos) X.env=(do
   let ov <-eval o X.env
   c2L apos.atName
   let(f,first) <-a4C [ov] (c2M ov m pl)
   callWith pos f first (X5 pos (g6 (e::es) X.env)) (b5f pos (a5B [] X.env))):=by rfl) :
  y'E X (.Call (.Attribute o m apos) (e::es) [] pos) (b5C C m sp [] E0 to tr):=⟨L2.c9W (pl:=pl) M hr hk ho.h ha.h hst hpl ht⟩
theorem c2V{ty id:String}{name:Str}{r:V->List V->Hp->VK->Prop}{apos:Pos}(pa:c8u ty)(slot:Slot ty name id)(hty:typeOf (.builtin id)=pure (.type "method_descriptor"))(hm:a6M X id r)(ho:y'E X o to)
  (hbase:a0Z o name X.env (eval o X.env)=eval o X.env:=by rfl) (hline:(apos.endLine == pos.line)=true:=by rfl):y'E X (.Call (.Attribute o name apos) [] [] pos) (c6d X.K ty r to):=⟨L2.d0b pa slot hty hm.h ho.h hbase hline⟩
structure c5X(X:Cx)(pos:Pos)(ks:List (Option Expr))(vs:List Expr)(trs:List (TE×TE)):Prop where h:PPs X pos ks vs trs
theorem c0M:c5X X pos [] [] []:=⟨L2.c6N⟩
theorem b7u{ks:List (Option Expr)}{vs:List Expr}{trs:List (TE×TE)}(hk:y'E X a ta)(hv:y'E X b tb)(hr:c5X X pos ks vs trs):c5X X pos (some a::ks) (b::vs) ((ta,tb)::trs):=⟨L2.c4f hk.h hv.h hr.h⟩
theorem c0O{keys:List (Option Expr)}{values:List Expr}{trs:List (TE×TE)}(h:c5X X pos keys values trs)(hall:keys.all (·.isSome)=true:=by rfl)(hl:keys.length=values.length:=by rfl)(h0:keys≠[]:=by intro z;cases z)
  (h15:keys.length<=15:=by decide):y'E X (.Dict keys values pos) (c3o trs):=⟨L2.c6V h.h hall hl h0 h15⟩
theorem a2B{k:Nat}(hr:R3 k X.A)(hi:y'E X i ti)(ho:y'E X o to)(h1:R9 .NotIn o=false):y'T X (.Compare i [.NotIn] [o] pos) (tB (a3J ti to)):=⟨L2.c4a (L2.c1y (c0d hr) hi.h ho.h) h1⟩
theorem b5p(hc:X.calm=true):Z2 X (.builtin "min") c3W:=⟨L2.c2h hc⟩
theorem b5q(hc:X.calm=true):Z2 X (.builtin "any") b8c:=⟨L2.c2k hc⟩
theorem b0J:Z2 X (.builtin "sorted") a6t:=⟨L2.b4K⟩
theorem b2q(hc:X.calm=true):Z2 X (.type "list") a9g:=⟨L2.b6Y hc⟩
theorem b5o:a6M X "list.index" a9h:=⟨L2.c1K⟩
theorem a7P:a6M X "list.extend" a3O:=⟨L2.b1J⟩
theorem c0S:a6M X "list.pop" c1q:=⟨L2.c7y⟩
theorem b2N{k:Nat}(hr:R3 k X.A):Y5 X (z8 .Eq) (c6z X.K):=⟨L2.c7h hr⟩
theorem c0R{k:Nat}(hr:R3 k X.A):Y5 X (z8 .Eq) (c9B X.K):=⟨L2.c7i hr⟩
theorem c0Q:Y5 X (z8 .In) (c9A X.K):=⟨L2.c7g⟩
end
end Y
namespace Y
open PySem PySem.Spec PyProof.Rows L2
end Y
namespace Y
open PySem PySem.Spec PyProof.Rows L2
end Y
namespace Y
open PySem PySem.Spec PyProof.Rows L2
end Y
namespace Y
open PySem PySem.Spec PyProof.Rows L2
end Y
namespace Y
open PySem PySem.Spec PyProof.Rows L2
theorem a6L{X:Cx}:Z2 X (.type "tuple") a2s:=⟨L2.b6X⟩
end Y
namespace Y
open PySem PySem.Spec PyProof.Rows L2
section
variable {X:Cx}{e0 e1 e2 e3 e4:Expr}{t0 t1 t2 t3 t4:TE}
theorem j5(h0:y'E X e0 t0)(s0:g6 [e0] X.env=(false,eval e0 X.env)::g6 [] X.env:=by rfl):y'A X [e0] (a8 t0 d6):=(C4 h0 W5 s0)
theorem A1(h0:y'E X e0 t0)(h1:y'E X e1 t1)(s0:g6 [e0,e1] X.env=(false,eval e0 X.env)::g6 [e1] X.env:=by rfl)(s1:g6 [e1] X.env=(false,eval e1 X.env)::g6 [] X.env:=by rfl):y'A X [e0,e1] (a8 t0 (a8 t1 d6)):=(C4 h0 (C4 h1 W5 s1) s0)
theorem a6K(h0:y'E X e0 t0)(h1:y'E X e1 t1)(h2:y'E X e2 t2)(s0:g6 [e0,e1,e2] X.env=(false,eval e0 X.env)::g6 [e1,e2] X.env:=by rfl)(s1:g6 [e1,e2] X.env=(false,eval e1 X.env)::g6 [e2] X.env:=by rfl)(s2:g6 [e2] X.env=(false,eval e2 X.env)::g6 [] X.env:=by rfl):y'A X [e0,e1,e2] (a8 t0 (a8 t1 (a8 t2 d6))):=(C4 h0 (C4 h1 (C4 h2 W5 s2) s1) s0)
theorem b5l(h0:y'E X e0 t0)(h1:y'E X e1 t1)(h2:y'E X e2 t2)(h3:y'E X e3 t3)(s0:g6 [e0,e1,e2,e3] X.env=(false,eval e0 X.env)::g6 [e1,e2,e3] X.env:=by rfl)(s1:g6 [e1,e2,e3] X.env=(false,eval e1 X.env)::g6 [e2,e3] X.env:=by rfl)(s2:g6 [e2,e3] X.env=(false,eval e2 X.env)::g6 [e3] X.env:=by rfl)(s3:g6 [e3] X.env=(false,eval e3 X.env)::g6 [] X.env:=by rfl):y'A X [e0,e1,e2,e3] (a8 t0 (a8 t1 (a8 t2 (a8 t3 d6)))):=(C4 h0 (C4 h1 (C4 h2 (C4 h3 W5 s3) s2) s1) s0)
theorem a5D(h0:y'E X e0 t0)(h1:y'E X e1 t1)(h2:y'E X e2 t2)(h3:y'E X e3 t3)(h4:y'E X e4 t4)(s0:g6 [e0,e1,e2,e3,e4] X.env=(false,eval e0 X.env)::g6 [e1,e2,e3,e4] X.env:=by rfl)(s1:g6 [e1,e2,e3,e4] X.env=(false,eval e1 X.env)::g6 [e2,e3,e4] X.env:=by rfl)(s2:g6 [e2,e3,e4] X.env=(false,eval e2 X.env)::g6 [e3,e4] X.env:=by rfl)(s3:g6 [e3,e4] X.env=(false,eval e3 X.env)::g6 [e4] X.env:=by rfl)(s4:g6 [e4] X.env=(false,eval e4 X.env)::g6 [] X.env:=by rfl):y'A X [e0,e1,e2,e3,e4] (a8 t0 (a8 t1 (a8 t2 (a8 t3 (a8 t4 d6))))):=(C4 h0 (C4 h1 (C4 h2 (C4 h3 (C4 h4 W5 s4) s3) s2) s1) s0)
end
end Y
local macro_rules | `(tactic| walk_at "sc") => `(tactic| exact ⟨rfl, rfl, rfl, by decide +kernel, rfl, by decide +kernel, by decide +kernel⟩)
namespace Y
open PySem PySem.Spec PyProof.Rows L2
section
variable {X:Cx}{e a b o:Expr}{es:List Expr}{te ta tb to:TE}{tr:TA}{pos p pos':Pos}{x:Str}
theorem y8(n:Nat)(hN:X.N.Nodup)(he:y'E X e te)(hi:X.N[n]? = some x:=by rfl)(hx:Loc X.env.scope x:=by first | exact Or.inl rfl | exact Or.inr rfl)(hs:a1O e (some (.Name x pos')) pos.line X.env=pure false:=by rfl)(hf:X.fn x=true\/X.env.scope.names.lookup x=some .local:=by first | exact .inl rfl | exact .inr rfl) :
  y'S X (.Assign [.Name x pos'] e pos) (G5 te (v0 n)):=c2P hN hi hx he hs hf
theorem W3(n:Nat)(hN:X.N.Nodup)(hi:X.N[n]? = some x:=by rfl)(hx:Loc X.env.scope x:=by first | exact Or.inl rfl | exact Or.inr rfl)(hf:X.fn x=true\/X.env.scope.names.lookup x=some .local:=by first | exact .inl rfl | exact .inr rfl):y'G X (.Name x pos) (v0 n):=c0N hN hi hx hf
theorem o9{k j:Nat}{ps:List Str}{sp:Sp}(C:F6 X.prog X.w X.K X.mg X.base k x ps sp)(hr:R3 j X.A)(ha:y'A X (e::es) tr)(hk:k<=j:=by decide)(hg:Gl X x:=by rfl)
  (hdb:(x == ("__debug__" : Str))=false:=by decide) (he:g6 (e::es) X.env=(false,eval e X.env)::g6 es X.env:=by rfl) (hpl:(X5 pos (g6 es X.env)).any (·.1)=false:=by rfl) :
  y'E X (.Call (.Name x p) (e::es) [] pos) (u8 sp [] E0 tr):=c2R C hr hk hg ha hdb he hpl
theorem c8X{k j:Nat}{C:Addr}{ps:List Str}{sp:Sp}(M:b7f X.prog X.w X.K X.mg X.base k x C ps sp)(hr:R3 j X.A)(ha:y'A X (e::es) tr)(hk:k+1<=j:=by decide)(hg:Gl X x:=by rfl)
  (hdb:(x == ("__debug__" : Str))=false:=by decide) (he:g6 (e::es) X.env=(false,eval e X.env)::g6 es X.env:=by rfl) (hpl:(X5 pos (g6 es X.env)).any (·.1)=false:=by rfl) :
  y'E X (.Call (.Name x p) (e::es) [] pos) (b2X C sp [] E0 tr):=c5T M hr hk hg ha hdb he hpl
theorem A7(ha:y'E X a ta)(hb:y'E X b tb)(hs:b4Y b:=by exact fun _ _=>rfl):y'E X (.Subscript a b pos) (tOp qIx ta tb):=c5V c8Y ha hb hs
theorem a8P{op:CmpOp}{r:R2}(ho:Y5 X (z8 op) r)(ha:y'E X a ta)(hb:y'E X b tb)(hm:R9 op b=false:=by exact b1G _):y'E X (.Compare a [op] [b] pos) (tOp r ta tb):=a1C ho ha hb hm
theorem D0{op:CmpOp}{r:R2}(ho:Y5 X (z8 op) r)(ha:y'E X a ta)(hb:y'E X b tb)(hm:R9 op b=false:=by exact b1G _):y'T X (.Compare a [op] [b] pos) (D7 (tOp r ta tb)):=a0N ho ha hb hm
end
end Y
namespace Y
open PySem PySem.Spec PyProof.Rows L2
section
variable {X:Cx}{e o i:Expr}{te to ti:TE}{t:TS}{pos p:Pos}{k:Nat}
end
end Y
namespace Y
open PySem PySem.Spec PyProof.Rows L2
end Y
namespace Y
open PySem PySem.Spec PyProof.Rows L2
section
variable {X:Cx}{i o:Expr}{ti to:TE}{pos:Pos}{k:Nat}
end
end Y
namespace Y
open PySem PySem.Spec PyProof.Rows L2
section
variable {X:Cx}{k:Nat}{pos:Pos}{t:TS}
theorem a5F:a6M X "str.split" a7r:=⟨L2.c1J⟩
theorem b0I:a6M X "list.extend" b9Q:=⟨L2.c4J⟩
theorem b3E:a6M X "list.index" b4e:=⟨L2.b8y⟩
theorem b3F:Z2 X (.type "int") c3Y:=⟨L2.b9c⟩
theorem a4F(hr:R3 k X.A):Z2 X (.type "str") b1t:=⟨L2.b9a hr⟩
end
end Y
namespace L2
open PySem PySem.Spec PyProof.Rows PySem.W
structure a0y(P:v8)(w:World)(K:Frag)(mg:Str->Option Value)(base:Heap)(k:Nat)(x:Str)(ps:List Str)(sp:Sp):Prop where
 ex:∃f fd,F5 P w K mg base (CX1 P w) k f fd ps sp/\mg x=some (.ref f)/\keepIn K (.ref f)=true/\a2d K fd ps []
structure a4e(P:v8)(w:World)(K:Frag)(mg:Str->Option Value)(base:Heap)(k:Nat)(x:Str)(C:Addr)(ps:List Str)(sp:Sp):Prop where
 ex:∃f fd,F5 P w K mg base CX0 k f fd ps sp/\mg x=some (.ref C)/\b4V K C/\findIn K (.ref C) "__init__" = some (some (.ref f))/\typeIn K (.ref f)=some (.type "function")/\a2d K fd ps []
structure c5D(K:Frag)(mg:Str->Option Value)(x:Str)(C:Addr):Prop where
 ex:mg x=some (.ref C)/\b4V K C/\findIn K (.ref C) "__init__" = some (some (.builtin "ValueError.__init__"))
def a1Q(sp:Sp)(E:St->XK)(t:TA):TE:=fun σ H Q=>t σ H fun vs H1=>sp vs H1 Q (E σ)
section
variable {X:Cx}{k j:Nat}{ps:List Str}{sp:Sp}{E:St->XK}{x:Str}{p pos:Pos}{e:Expr}{es:List Expr}{t:TA}
theorem c4p(W:Wi X E)(C:a0y X.prog X.w X.K X.mg X.base k x ps sp)(hr:R3 j X.A)(hk:k<=j)(hg:Gl X x)(ha:PA X (e::es) t)
  (hdb:(x == ("__debug__" : Str))=false:=by decide) (he:g6 (e::es) X.env=(false,eval e X.env)::g6 es X.env:=by rfl) (hpl:(X5 pos (g6 es X.env)).any (·.1)=false:=by rfl) :
  PE X (.Call (.Name x p) (e::es) [] pos) (a1Q sp E t):=by
 intro pins s σ H Q I h
 obtain⟨f,fd,F,hm,hkp,hb⟩:=C.ex
 refine X2 (a3d I hg hm ?_ hdb)
 refine a0p (h₀:=X.base) I.ok.mod.kin hkp (thn (ha pos pins s σ H _ I h) fun us s1 ⟨vs,H1,I1,r,q⟩=>⟨I1.kIn,?_⟩) he hpl
 have hl:(us++[]).length=ps.length:=by rw[F0,<-r.length];exact F.len _ _ _ _ q
 have hbi:=hb s1 us I1.kIn hl
 rw[F0]at hbi
 refine wpAny_call (a2U (F.run X.A X.stack s1 H1 ⟨us,[]⟩ us vs Q (E σ) (hr.mono hk) I1.env0 hbi r q) fun r s' hq=>?_)
 cases r with
 | error e=>
  obtain⟨y,cls,dx,H',rfl,o,q'⟩:=c4w I1 hq
  exact W pins σ H' s' y cls dx o q'
 | ok fl=>
  cases fl with
  | ret u=>exact I1.after hq
  | next=>exact False.elim hq
  | brk=>exact False.elim hq
  | cont=>exact False.elim hq
end
end L2
namespace Y
open PySem PySem.Spec PyProof.Rows L2
theorem c0T{P:v8}{w:World}{K:Fg}{mg:Str->Option Value}{base:Heap}{x qual:Str}{st:Stmt}{f:Addr}{fd:U1}{N ps:List Str}{k:Nat}{sp:Sp}(F:Fun K x qual st f fd)(y'S:A4 N ps (i9 st))(len:∀vs H Q y'E,sp vs H Q y'E->vs.length=ps.length)
  (hbody:∀(cdv:Value) (y'A:F3) (outer:List Env) (s:d4) (H:Hp) (vs:List V) (Q:VK) (y'E:XK),R3 k (y'A.deeper (b0B qual (i9 st) s.heap.objs.size f cdv))->sp vs H Q y'E ->
   ∃t,a5H (a8x (CX1 P w) P w K mg base N qual (i9 st) f cdv y'A outer s H y'E) (a1r st) t/\t { nx:=fun _ H'=>Q .non H',rt:=Q } (a6R N vs) H):F5 P w K mg base (CX1 P w) (k+1) f fd ps sp:=by
 obtain⟨oc,od,kV,doc,pm,an,cdv,ct,osl,rfl,lk,hcd⟩:=F.ex
 refine c8O lk hcd y'S len fun y'A outer s H vs Q y'E hr hsp=>?_
 obtain⟨t,h,q⟩:=hbody cdv y'A outer s H vs Q y'E hr hsp
 exact⟨t,h.h,q⟩
section
variable {X:Cx}{k j:Nat}{C C1:Addr}{dx:Option Addr}{ps:List Str}{sp:Sp}{EE:L2.St->XK}{x c1 n:Str}{p np cpos hpos pos pos':Pos}{e o value elt:Expr}{es ifs:List Expr}{tr:TA}{ta tv te:TE}{tt:TT}{f:Str}{y:Addr}
theorem a6i(ha:y'E X o ta)(hv:y'E X value tv)(hs:a1O value (some (.Attribute o f pos')) pos.line X.env=pure false:=by rfl):y'S X (.Assign [.Attribute o f pos'] value pos) (b3d X.K ta tv f):=⟨L2.c6H ha.h hv.h hs⟩
theorem a7M(M:a4e X.prog X.w X.K X.mg X.base k x C ps sp)(y'W:Wi X EE)(hr:R3 j X.A)(ha:y'A X (e::es) tr)(hk:k+1<=j:=by decide)(hc:X.calm=true:=by rfl)(hg:Gl X x:=by rfl)(hdb:(x == ("__debug__" : Str))=false:=by decide)
  (he:g6 (e::es) X.env=(false,eval e X.env)::g6 es X.env:=by rfl) (hpl:(X5 cpos (g6 es X.env)).any (·.1)=false:=by rfl):y'S X (.Raise (some (.Call (.Name x np) (e::es) [] cpos)) none pos) (a3W C sp EE tr):=by
 obtain⟨g,fd,F,hm,c,hi,hf,hb⟩:=M.ex
 exact⟨L2.c1s hc y'W c hi hf F (hr.mono hk) hg hm hb ha.h hdb he hpl⟩
theorem b5i(M:c5D X.K X.mg x C)(y'W:Wi X EE)(hc:X.calm=true:=by rfl)(hg:Gl X x:=by rfl)(hdb:(x == ("__debug__" : Str))=false:=by decide):y'S X (.Raise (some (.Call (.Name x np) [] [] cpos)) none pos) (b0h C EE):=by
 obtain⟨hm,c,hi⟩:=M.ex
 exact⟨L2.b8d hc y'W c hi hg hm hdb⟩
theorem a6j(y'W:Wi X EE)(M:a0y X.prog X.w X.K X.mg X.base k x ps sp)(hr:R3 j X.A)(ha:y'A X (e::es) tr)(hk:k<=j:=by decide)(hg:Gl X x:=by rfl)(hdb:(x == ("__debug__" : Str))=false:=by decide)
  (he:g6 (e::es) X.env=(false,eval e X.env)::g6 es X.env:=by rfl) (hpl:(X5 pos (g6 es X.env)).any (·.1)=false:=by rfl):y'E X (.Call (.Name x p) (e::es) [] pos) (a1Q sp EE tr):=⟨L2.c4p y'W M hr hk hg ha.h hdb he hpl⟩
theorem c0J{i:Nat}{body suite:List Stmt}{b0:Stmt}{tb:(L2.St->XK)->TS}{th:Addr->Addr->Option Addr->TS}(hc:X.calm=true)(hst:X.stack=X.env::X.outer)(hf:X.env.frame=some X.env.locals)(hN:X.N.Nodup)(hi:X.N[i]? = some n)(hl:X.env.scope.names.lookup n=some .local)(hg:Gl X c1)(hm:X.mg c1=some (.ref C1))(h1:a5I X.K C1=true)
  (hb:∀(EE:L2.St->XK) (pins:List (Addr×Obj)) (xe:Value->d4->Prop),Wi (X.tryB pins xe) EE->a5H (X.tryB pins xe) body (tb EE))
  (hs:∀(pins:List (Addr×Obj)) (x C:Addr) (dx:Option Addr) (oe:Obj),b7h (X.suite pins x oe) x C dx->a5H (X.suite pins x oe) (b0::suite) (th x C dx)) (hdb:(c1 == ("__debug__" : Str))=false:=by decide) :
  y'S X (.Try body [.ExceptHandler (some (.Name c1 np)) (some n) (b0::suite) hpos] [] [] pos) (b9x X.K C1 i tb th):=
 ⟨L2.c6I hc hst hf hN hi hl hg hm h1 (fun EE pins xe y'W=>(hb EE pins xe y'W).h) (fun pins x C dx oe vs a b c d=>(hs pins x C dx oe (b2Y a b c d)).h) hdb⟩
theorem b0K(hx:b7h X y C dx):Z2 X (.builtin "isinstance") (fun vs H Q=>b4U dx H/\c9z X.K y C vs H Q):=⟨L2.c5q hx⟩
end
end Y
namespace L2
open PySem PySem.Spec PyProof.Rows PySem.W
structure a9G(P:v8)(w:World)(K:Frag)(mg:Str->Option Value)(base:Heap)(k:Nat)(x:Str)(C:Addr)(ps:List Str)(sp:Sp):Prop where
 ex:∃f fd,F5 P w K mg base (CX1 P w) k f fd ps sp/\mg x=some (.ref C)/\Mk K C f/\a2d K fd ps []
def b5H(a b:Sp):Sp:=fun vs H Q E=>a vs H Q E0\/b vs H Q E
theorem F5.or{P:v8}{w:World}{K:Frag}{mg:Str->Option Value}{base:Heap}{j k n:Nat}{f:Addr}{fd:U1}{ps:List Str}{a b:Sp}(F:F5 P w K mg base CX0 j f fd ps a)(G:F5 P w K mg base (CX1 P w) k f fd ps b)(hj:j<=n)(hk:k<=n) :
  F5 P w K mg base (CX1 P w) n f fd ps (b5H a b):=by
 refine⟨fun vs H Q E h=>h.elim (F.len vs H Q E0) (G.len vs H Q E),fun A outer s H args us vs Q E hr e0 hb r h=>?_⟩
 rcases h with h | h
 ·refine a2U (F.run A outer s H args us vs Q E0 (hr.mono hj) e0 hb r h) fun r s' q=>?_
  cases r with
  | error e=>exact False.elim q
  | ok fl=>cases fl <;> exact q
 ·exact G.run A outer s H args us vs Q E (hr.mono hk) e0 hb r h
theorem a9G.or{P:v8}{w:World}{K:Frag}{mg:Str->Option Value}{base:Heap}{j k n:Nat}{x:Str}{C f:Addr}{fd:U1}{ps:List Str}{a b:Sp}(F:F5 P w K mg base CX0 j f fd ps a)(G:F5 P w K mg base (CX1 P w) k f fd ps b)(hj:j<=n)(hk:k<=n)
  (hm:mg x=some (.ref C)) (m:Mk K C f) (hb:a2d K fd ps []):a9G P w K mg base n x C ps (b5H a b):=⟨f,fd,F.or G hj hk,hm,m,hb⟩
end L2
namespace Y
open PySem PySem.Spec PyProof.Rows L2
section
variable {X:Cx}{k j:Nat}{C:Addr}{dx:Option Addr}{ps:List Str}{sp:Sp}{EE:L2.St->XK}{x:Str}{p pos:Pos}{e elt:Expr}{es ifs:List Expr}{tr:TA}{te tl:TE}{tt:TT}{y:Addr}
theorem c5U(y'W:Wi X EE)(M:a9G X.prog X.w X.K X.mg X.base k x C ps sp)(hr:R3 j X.A)(ha:y'A X (e::es) tr)(hk:k+1<=j:=by decide)(hg:Gl X x:=by rfl)(hdb:(x == ("__debug__" : Str))=false:=by decide)
  (he:g6 (e::es) X.env=(false,eval e X.env)::g6 es X.env:=by rfl) (hpl:(X5 pos (g6 es X.env)).any (·.1)=false:=by rfl):y'E X (.Call (.Name x p) (e::es) [] pos) (b0X C sp EE tr):=by
 obtain⟨f,fd,F,hm,m,hb⟩:=M.ex
 exact⟨L2.c4k y'W m F (hr.mono hk) hg hm hb ha.h hdb he hpl⟩
theorem b5h{sts:List Stmt}:a5H X sts b7D:=⟨L2.c1t⟩
end
end Y
namespace L2
open PySem PySem.Spec PyProof.Rows PySem.W
section
variable {prog:v8}{w:World}{A:F3}{E:Value->d4->Prop}{s:d4}{y:Addr}{oy:Obj}{vy:Array Value}
end
section
variable {X:Cx}{y C:Addr}{dx:Option Addr}
end
end L2
namespace Y
open PySem PySem.Spec PyProof.Rows L2
end Y
namespace L2
open PySem PySem.Spec PyProof.Rows
section
variable {X:Cx}
def a9f:V->Option Int->Option Int->Hp->VK->Prop:=fun v lo hi H Q=>∃z,v=.str z/\z.length<=j7/\Q (.str (Txt.slice z lo hi)) H
theorem b9T{v:Value}{o:Option Int}(h:c2O v o):∃l:Option (Int×Tok),v=partValue l/\l.map (·.1)=o:=by
 cases h with
 | none=>exact⟨none,rfl,rfl⟩
 | int i t=>exact⟨some (i,t),rfl,rfl⟩
theorem c6h:SlR X a9f:=by
 intro pins s σ H x v vl vu lo hi sl Q I rx hs pl pu h
 obtain⟨z,rfl,hz,q⟩:=h
 obtain⟨t,rfl⟩:=rx
 obtain⟨l,rfl,rfl⟩:=b9T pl
 obtain⟨u,rfl,rfl⟩:=b9T pu
 refine⟨"str",_,F.slot_str_getitem.lookup,PySem.typeIs_str s z t,?_⟩
 refine wpAny_getItem_str_slice (l:=l) (u:=u) (st:=none) hs (by decide) ?_
 unfold sliceMade
 have hle:=Txt.slice_le z (l.map (·.1)) (u.map (·.1))
 unfold Txt.slice at q hle
 unfold slicePicked
 split
 ·rename_i c
  have c:((1:Int) == 1&&(Builtin.Str.strSliceIndices (l.map (·.1)) (u.map (·.1)) 1 z.length).length == z.length)=true:=c
  rw[if_pos c]at q
  exact⟨.str z,H,I,⟨_,rfl⟩,q⟩
 ·rename_i c
  have c:¬((1:Int) == 1&&(Builtin.Str.strSliceIndices (l.map (·.1)) (u.map (·.1)) 1 z.length).length == z.length)=true:=c
  rw[if_neg c]at q hle
  exact⟨t5 hle hz,.str _,H,I.tok _,⟨_,rfl⟩,q⟩
def c3V:R2:=fun x y H Q=>∃(z:Str) (n:Int),x=.str z/\y=.int n/\2<=n/\n<=1000/\0<z.length/\z.length<=1000/\Q (.str ⟨(u6 n.toNat z.cps).foldl (· ++ ·) #[]⟩) H
theorem c4x:OpR X (V6 .Mult) c3V:=by
 intro pins s σ H x y v u Q I rx ry h
 obtain⟨z,n,rfl,rfl,h1,h2,h3,h4,q⟩:=h
 obtain⟨t,rfl⟩:=rx
 obtain⟨t',rfl⟩:=ry
 have e1:¬n<1:=by omega
 have e2:¬(n == 1||z.length == 0)=true:=by
  rw[L4]
  rintro(c | c)
  ·have:=eq_of_beq c;omega
  ·have:=eq_of_beq c;omega
 have fit:z.length * n.toNat<=1000000:=d2S h4 (show n.toNat<=1000 by omega)
 have hs:z.length * n.toNat<=j7:=t5 fit (by rw[a2v];decide)
 have hsz:(⟨(u6 n.toNat z.cps).foldl (· ++ ·) #[]⟩:Str).length<=j7:=by
  have go:∀(m:Nat) (a:Array Nat),((u6 m z.cps).foldl (· ++ ·) a).size=a.size+m * z.cps.size:=by
   intro m
   induction m with
   | zero=>intro a;simp
   | succ m ih=>intro a;rw[List.replicate_succ,List.foldl_cons,ih,c5R,c2x];omega
  show((u6 n.toNat z.cps).foldl (· ++ ·) #[]).size<=j7
  rw[go]
  have:z.length=z.cps.size:=rfl
  rw[<-this,Nat.mul_comm]
  simpa using hs
 refine PySem.P.mul_str (by rw[d4L (by omega),d4L (by omega)];rfl) (fun _ _=>?_) (fun _ _=>?_) ?_
 ·have:(1000:Int)<=(2 ^ 63 - 1) / n:=Int.le_ediv_of_mul_le (by omega) (by omega)
  omega
 ·unfold Builtin.Str.tooLong
  exact d4L (by omega)
 ·rw[if_neg e1,if_neg e2]
  exact⟨hsz,.str _,H,I.tok _,⟨_,rfl⟩,q⟩
end
end L2
namespace L2
open PySem PySem.Spec PyProof.Rows PySem.W
def b5A(K:Frag)(C1:Addr)(tb:(St->XK)->TS)(th:Addr->Addr->Option Addr->TS):TS:=fun D σ H=>tb (fun σ' cls dx H'=>∃C,cls=.ref C/\mroIn K C (.ref C1)=some true/\∀x,H' x=none->th x C dx D σ' H') D σ H
section
variable {X:Cx}{C1:Addr}{c1:Str}{np hpos pos:Pos}{body:List Stmt}{b0:Stmt}{suite:List Stmt}{tb:(St->XK)->TS}{th:Addr->Addr->Option Addr->TS}
theorem c6J(hc:X.calm=true)(hst:X.stack=X.env::X.outer)(hf:X.env.frame=some X.env.locals)(hg:Gl X c1)(hm:X.mg c1=some (.ref C1))(h1:a5I X.K C1=true)
  (hb:∀(E:St->XK) (pins:List (Addr×Obj)) (xe:Value->d4->Prop),Wi (X.tryB pins xe) E->PSs (X.tryB pins xe) body (tb E))
  (hs:∀(pins:List (Addr×Obj)) (x C:Addr) (dx:Option Addr) (oe:Obj) (vs:Array Value),oe.cls=.ref C->oe.dict=dx->oe.data=.fields vs->vs[2]? = some .none->PSs (X.suite pins x oe) (b0::suite) (th x C dx))
  (hdb:(c1 == ("__debug__" : Str))=false:=by decide) :
  PS X (.Try body [.ExceptHandler (some (.Name c1 np)) none (b0::suite) hpos] [] [] pos) (b5A X.K C1 tb th):=by
 intro pins s σ H D I h
 have hh:=I.ok.hd
 obtain⟨XE,hXE⟩:∃XE:Value->d4->Prop,XE=fun e s1=>wpAny (model X.prog X.w) X.A (noteFrame e X.env) (fun _ s2=>wpAny (model X.prog X.w) X.A (setFlight e none) (fun _ s3=>wpAny (model X.prog X.w) X.A (handleBy e X.env [.ExceptHandler (some (.Name c1 np)) none (b0::suite) hpos]) (SP X pins D) X.xe s3) X.xe s2) X.xe s1:=⟨_,rfl⟩
 refine wpAny_Try_except ?_
 rw[<-hXE]
 have W:Wi (X.tryB pins XE) fun σ' cls dx H'=>∃C,cls=.ref C/\mroIn X.K C (.ref C1)=some true/\∀x,H' x=none->th x C dx D σ' H':=by
  rintro pins' σ' H' s' x cls dx o ⟨C,rfl,hsub,hth⟩
  show XE (.ref x) s'
  rw[hXE]
  have o:=o.untryB
  refine b1F hst hf o fun s2 o2=>a3F o2 fun s3 o3=>?_
  refine wpAny_handleBy_cons (codeAny_handlers_test ?_) (by intro q;cases q)
  obtain⟨T,f1,oe,vs,oT,ts,he,⟨hcls,hdx,h2⟩,hd,hr⟩:=o3.fl
  have I3:Inv (X.suite pins x oe) [] σ' H' s3:=o3.inv.suite o3.fx he fun v z=>by rw[hd]at z;cases z
  refine a3d (X:=X.suite pins x oe) I3 hg hm ?_ hdb
  obtain⟨hp3,g3,d3,t3,os3⟩:=s3
  refine b1L I3.kIn h1 hsub he hcls ?_
  refine codeAny_handlers_suite ?_
  refine a3F o3 fun s4 o4=>?_
  obtain⟨T4,f4,oe4,vs4,oT4,ts4,he4,⟨hcls4,hdx4,h24⟩,hd4,hr4⟩:=o4.fl
  have I4:Inv (X.suite pins x oe4) [] σ' H' s4:=o4.inv.suite o4.fx he4 fun v z=>by rw[hd4]at z;cases z
  refine Q7 (hs pins x C dx oe4 vs4 hcls4 hdx4 hd4 h24 [] s4 _ H' _ I4 (hth x o4.fx.1)) (fun f s6 q=>?_) fun _ _ z=>False.elim z
  cases f with
  | next=>
   obtain⟨σ2,H2,I6,q⟩:=q
   exact⟨_,_,I6.unsuite hh,q⟩
  | brk=>
   obtain⟨σ2,H2,I6,q⟩:=q
   exact⟨_,_,I6.unsuite hh,q⟩
  | cont=>
   obtain⟨σ2,H2,I6,q⟩:=q
   exact⟨_,_,I6.unsuite hh,q⟩
  | ret u=>
   obtain⟨v,σ2,H2,I6,r,q⟩:=q
   exact⟨v,_,_,I6.unsuite hh,r,q⟩
 refine Q7 (hb _ pins XE W [] s σ H D (I.tryB XE) h) (fun f s1 q=>?_) fun _ _ z=>z
 cases f with
 | next=>
  obtain⟨σ2,H2,I6,q⟩:=q
  exact a3l ⟨σ2,H2,I6.untryB,q⟩
 | brk=>
  obtain⟨σ2,H2,I6,q⟩:=q
  exact⟨σ2,H2,I6.untryB,q⟩
 | cont=>
  obtain⟨σ2,H2,I6,q⟩:=q
  exact⟨σ2,H2,I6.untryB,q⟩
 | ret u=>
  obtain⟨v,σ2,H2,I6,r,q⟩:=q
  exact⟨v,σ2,H2,I6.untryB,r,q⟩
def c3X(K:Frag)(x C:Addr):List V->Hp->VK->Prop:=fun vs H Q=>∃(tp:Addr) (cs:List Addr) (b:Bool),vs=[.ref x,.ref tp]/\H tp=some (.tup (cs.map V.ref))/\kitAny K (.ref C) (cs.map Value.ref)=some b/\XIs K C/\Q (.bl b) H
theorem b2Q:∀ {cs:List Addr} {its:List Value},J0 (cs.map V.ref) its->its=cs.map Value.ref
 | [],its,r=>by cases r;rfl
 | a::cs,its,r=>by
  cases r with
  | cons h t=>
   cases h
   rw[b2Q t]
   rfl
theorem c2o{x C:Addr}{dx:Option Addr}(hx:b7h X x C dx):W9 X (.builtin "isinstance") (fun vs H Q=>b4U dx H/\c3X X.K x C vs H Q):=by
 rintro pins s σ H vs us Q I r ⟨hd,tp,cs,b,rfl,htp,e,xi,q⟩
 obtain⟨u1,u2,rfl,r1,r2⟩:=b9r r
 obtain rfl:u1=Value.ref x:=r1
 obtain rfl:u2=Value.ref tp:=r2
 obtain⟨oe,od,J,_⟩:=b6J I hx hd
 obtain⟨its,rv,⟨o,ho,hcl,n,hdt⟩,_⟩:=I.tuple (SqT.of htp)
 have:=b2Q rv
 subst this
 obtain⟨cls,dd,data,sl⟩:=o
 cases hcl
 cases hdt
 exact kia_tup (b6D xi) I.kIn J ho e (fun z=>nomatch z) fun tk=>⟨.bl b,H,I.tok tk,rfl,q⟩
end
end L2
namespace Y
open PySem PySem.Spec PyProof.Rows L2 PySem.W
section
variable {X:Cx}{y C C1:Addr}{dx:Option Addr}{c1:Str}{np hpos pos:Pos}
theorem a0q:b9o X a9f:=⟨L2.c6h⟩
theorem b7v:Y5 X (V6 .Mult) c3V:=⟨L2.c4x⟩
theorem c0K{body suite:List Stmt}{b0:Stmt}{tb:(L2.St->XK)->TS}{th:Addr->Addr->Option Addr->TS}(hc:X.calm=true)(hst:X.stack=X.env::X.outer)(hf:X.env.frame=some X.env.locals)(hg:Gl X c1)(hm:X.mg c1=some (.ref C1))(h1:a5I X.K C1=true)
  (hb:∀(EE:L2.St->XK) (pins:List (Addr×Obj)) (xe:Value->d4->Prop),Wi (X.tryB pins xe) EE->a5H (X.tryB pins xe) body (tb EE))
  (hs:∀(pins:List (Addr×Obj)) (x C:Addr) (dx:Option Addr) (oe:Obj),b7h (X.suite pins x oe) x C dx->a5H (X.suite pins x oe) (b0::suite) (th x C dx)) (hdb:(c1 == ("__debug__" : Str))=false:=by decide) :
  y'S X (.Try body [.ExceptHandler (some (.Name c1 np)) none (b0::suite) hpos] [] [] pos) (b5A X.K C1 tb th):=
 ⟨L2.c6J hc hst hf hg hm h1 (fun EE pins xe y'W=>(hb EE pins xe y'W).h) (fun pins x C dx oe vs a b c d=>(hs pins x C dx oe (b2Y a b c d)).h) hdb⟩
theorem b5s(hx:b7h X y C dx):Z2 X (.builtin "isinstance") (fun vs H Q=>b4U dx H/\c3X X.K y C vs H Q):=⟨L2.c2o hx⟩
end
end Y
namespace RD
open PySem PySem.Spec L2
variable{C D a b c d dx na p ra:Addr}{H H' H0 H1:Hp}{o:HO}{r vs ws xs ys:List V}{σ:St}{ta te:TE}{tt:TT}{Q:VK}{v:V}{i j m n t:Nat}{f:V->List V->Hp->VK->Prop}{y z:Str}{ks l:List Nat}{hi lo:Option Int}{QD:Hp->Prop}{R:It->Hp->Prop}{M N:Nt}{ns:List Int}{as rs:List Addr}{Ws:List (List V)}
def D1(b:Addr)(H H':Hp):Prop:=(∀a o,H a=some o->a≠b->H' a=some o)/\∀o,H b=some o->∃o',H' b=some o'
theorem D1.refl(b:Addr)(H:Hp):D1 b H H:=⟨fun _ _ h _=>h,fun o h=>⟨o,h⟩⟩
theorem D1.trans{H2:Hp}(x:D1 b H H1)(y:D1 b H1 H2):D1 b H H2:=
 ⟨fun a o h n=>y.1 a o (x.1 a o h n) n,fun o h=>let⟨o',h'⟩:=x.2 o h;y.2 o' h'⟩
theorem D1.upd(b:Addr)(H:Hp)(o:HO):D1 b H (upd H b o):=⟨fun a u h n=>by rw[g7 n];exact h,fun _ _=>⟨o,c7⟩⟩
theorem D1.new(h:H p=none):D1 b H (L2.upd H p o):=
 ⟨fun a u e _=>by rw[g7 (c6 e h)];exact e,fun u e=>⟨u,by rw[g7 (c6 e h)];exact e⟩⟩
theorem D1.of_same(s:t7 H H'):D1 b H H':=⟨fun a o h _=>s a o h,fun o h=>⟨o,s _ _ h⟩⟩
theorem u0(h:H p=none):t7 H (L2.upd H p o):=fun a u e=>by rw[g7 (c6 e h)];exact e
theorem D1.none(k:D1 b H H')(h:H' p=Option.none):H p=Option.none:=by
 cases e:H p with
 | none=>rfl
 | some o=>
  by_cases z:p=b
  ·subst z
   obtain⟨o',h'⟩:=k.2 o e
   rw[h]at h'
   cases h'
  ·rw[k.1 p o e z]at h
   cases h
theorem D1.tup{b a:Addr}{H H':Hp}{xs ys:List V}(k:D1 b H H')(hb:H b=some (.lst ys))(h:H a=some (.tup xs)):H' a=some (.tup xs):=
 k.1 a _ h (R1 h hb (by intro z;cases z))
structure Bag(H:Hp)(b c:Addr):Prop where
 ex:∃(i0 i1 i2:Int) (ns:List Int),H b=some (.lst [.int i0,.int i1,.int i2,.ref c])/\H c=some (.lst (ns.map V.int))/\0<=i0/\0<=i1/\i1<2147483647/\0<=i2/\∀x∈ns,0<=x
theorem Bag.lst{H:Hp}{b c:Addr}(h:Bag H b c):∃xs,H b=some (.lst xs):=by
 obtain⟨i0,i1,i2,ns,h,_⟩:=h.ex
 exact⟨_,h⟩
theorem Bag.same(h:Bag H b c)(s:t7 H H'):Bag H' b c:=by
 obtain⟨i0,i1,i2,ns,h1,h2,r⟩:=h.ex
 exact⟨i0,i1,i2,ns,s _ _ h1,s _ _ h2,r⟩
theorem Bag.new(h:Bag H b c)(n:H p=none):Bag (L2.upd H p o) b c:=h.same (u0 n)
theorem Bag.put(h:Bag H b c)(n1:p≠b)(n2:p≠c):Bag (L2.upd H p o) b c:=by
 obtain⟨i0,i1,i2,ns,h1,h2,r⟩:=h.ex
 exact⟨i0,i1,i2,ns,by rw[g7 n1.symm];exact h1,by rw[g7 n2.symm];exact h2,r⟩
theorem Bag.nb(h:Bag H b c)(n:H p=none):p≠b/\p≠c:=by
 obtain⟨i0,i1,i2,ns,h1,h2,r⟩:=h.ex
 exact⟨(c6 h1 n).symm,(c6 h2 n).symm⟩
theorem D1.put(k:D1 b H H')(n:H p=Option.none):D1 b H (L2.upd H' p o):=
 ⟨fun a u e z=>by rw[g7 (c6 e n)];exact k.1 a u e z,fun u e=>by
  obtain⟨o',h⟩:=k.2 u e
  exact⟨o',by rw[g7 (c6 e n)];exact h⟩⟩
theorem a3g{α:Type}(a:α)(r:List α):atI (a::r) 0=some a:=by
 have := @a2z α (a::r) 0 a rfl
 simpa using this
theorem a8B{α:Type}(a b:α)(r:List α):atI (a::b::r) 1=some b := @a2z α (a::b::r) 1 b rfl
theorem c8c{α:Type}(a b c:α)(r:List α):atI (a::b::c::r) 2=some c := @a2z α (a::b::c::r) 2 c rfl
theorem d2K{α:Type}(a b c d:α)(r:List α):atI (a::b::c::d::r) 3=some d := @a2z α (a::b::c::d::r) 3 d rfl
theorem a1A{α:Type}{xs:List α}{i:Int}(h0:0<=i)(h1:i<xs.length):∃v,atI xs i=some v/\xs[i.toNat]? = some v:=by
 have hl:i.toNat<xs.length:=by omega
 have e:xs[i.toNat]? = some (xs[i.toNat]'hl):=by simp[hl]
 refine⟨_,?_,e⟩
 have:=a2z e
 rwa [a9L h0]at this
section
variable {t u:TS}{D:b0d}{tb tc to ti:TE}{tu:TT}{tr:TA}{QB:Bool->Hp->Prop}{QA:List V->Hp->Prop}{QO:Option Int->Hp->Prop}{x y:V}{i j:Int}{r r':R2}{K:Fg}
theorem a0X(h:t { D with nx:=u D } σ H):z4 t u D σ H:=h
theorem a0n{P:St->Hp->Prop}(tail:∀σ H,P σ H->u D σ H)(main:∀nx:St->Hp->Prop,(∀σ H,P σ H->nx σ H)->t { D with nx:=nx } σ H):z4 t u D σ H:=main _ tail
theorem d1T{g:TG}(h:te σ H fun x H1=>g x σ H1 D.nx):G5 te g D σ H:=h
theorem b3X{QS:St->Hp->Prop}(h:QS (σ.set n (some v)) H):v0 n v σ H QS:=h
theorem c9m{QS:St->Hp->Prop}{ts:b2G}(h:to σ H fun o H1=>ti σ H1 fun i H2=>ts o i v H2 fun H3=>QS σ H3):c2a to ti ts v σ H QS:=h
theorem b9F(h:te σ H D.rt):L5 te D σ H:=h
theorem b3Y(h:te σ H fun _ H1=>D.nx σ H1):a0a te D σ H:=h
theorem d3i(h:tt σ H fun b H1=>if b=true then t D σ H1 else u D σ H1):M0 tt t u D σ H:=h
theorem c9j(h:D.nx σ H):E6 D σ H:=h
theorem c9f(h:te σ H fun x H'=>∃k,x=.bl k/\QB k H'):D7 te σ H QB:=h
theorem d3e(h:te σ H fun x H'=>∃k,x=.bl k/\QB k H'):tB te σ H QB:=h
theorem d1O(h:tt σ H fun c H1=>QB (!c) H1):a5t tt σ H QB:=h
theorem d1U(h:tt σ H fun c H1=>if c=true then tu σ H1 QB else QB false H1):b2t tt tu σ H QB:=h
theorem d3g(h:tt σ H fun c H1=>if c=true then QB true H1 else tu σ H1 QB):tOr tt tu σ H QB:=h
theorem c3K(h:ta σ H fun x H1=>∃c,x=.bl c/\if c=true then tb σ H1 Q else Q (.bl false) H1):a1g ta tb σ H Q:=h
theorem d1N(h:ta σ H fun x H1=>∃c,x=.bl c/\if c=true then Q (.bl true) H1 else tb σ H1 Q):c6c ta tb σ H Q:=h
theorem c9i(h:ta σ H fun x H1=>∃c,x=.bl c/\Q (.bl (!c)) H1):b5B ta σ H Q:=h
theorem d1Q(h:tt σ H fun c H1=>if c=true then ta σ H1 Q else tb σ H1 Q):tIf tt ta tb σ H Q:=h
theorem d3h(h:ta σ H fun x H1=>tb σ H1 fun y H2=>r x y H2 Q):tOp r ta tb σ H Q:=h
theorem b9H(h:ta σ H fun x H1=>tb σ H1 fun y H2=>r x y H2 fun z H3=>∃k,z=.bl k/\(if k=true then tc σ H3 fun w' H4=>r' y w' H4 Q else Q (.bl false) H3)):a3Y r r' ta tb tc σ H Q:=h
theorem a9P(e:σ[n]? = some (some v))(h:Q v H):b5 n σ H Q:=⟨v,e,h⟩
theorem s_c(h:Q v H):tC v σ H Q:=h
theorem a9a(h:te σ H fun x H1=>tr σ H1 fun xs H2=>QA (x::xs) H2):a8 te tr σ H QA:=h
theorem b3c(h:QA [] H):d6 σ H QA:=h
theorem c3J{sp:Sp}{E:XK}(h:tr σ H fun vs H1=>sp (vs++[]) H1 Q E):u8 sp [] E tr σ H Q:=h
theorem d3j{f:List V->Hp->VK->Prop}(h:tr σ H fun vs H1=>f vs H1 Q):tCB f tr σ H Q:=h
def New(o:HO)(n:Nat)(H:Hp)(Q:VK):Prop:=n<=j7/\∀p,H p=none->Q (.ref p) (upd H p o)
theorem D9(hl:n<=100000)(h:∀p H',H p=none->H' p=some o->t7 H H'->Q (.ref p) H'):New o n H Q:=
 ⟨t5 hl (by rw[a2v];decide),fun p hp=>h p _ hp c7 (u0 hp)⟩
theorem d1M(h:tr σ H fun xs H1=>New (.tup xs) xs.length H1 Q):a5s tr σ H Q:=h
theorem d1P(h:tr σ H fun xs H1=>New (.lst xs) xs.length H1 Q):Y2 tr σ H Q:=h
theorem d3f{f:V->Option Int->Option Int->Hp->VK->Prop}{tl th:TO}(h:te σ H fun x H1=>tl σ H1 fun l H2=>th σ H2 fun u H3=>f x l u H3 Q):tSl f te tl th σ H Q:=h
theorem c9h(h:te σ H fun x H1=>∃i,x=.int i/\QO (some i) H1):a1f te σ H QO:=h
theorem c3G(h:QO none H):R6 σ H QO:=h
theorem b7R(h:QB true H):U4 σ H QB:=h
theorem a6E(h:to σ H fun x H1=>tyV K "list" x H1/\tr σ H1 fun xs H2=>f x xs H2 Q):tBM K "list" f to tr σ H Q:=h
theorem d1R{s:Str}(h:tr σ H fun xs H2=>f (.str s) xs H2 Q):tBM K "str" f (tC (.str s)) tr σ H Q:=⟨rfl,h⟩
theorem c9n{tget:V->V->Hp->VK->Prop}{tip:TIp}{tset:b2G}(h:to σ H fun o H1=>ti σ H1 fun i H2=>tget o i H2 fun x H3=>te σ H3 fun y H4=>tip x y H4 fun z H5=>tset o i z H5 fun H6=>D.nx σ H6):b9y to ti te tget tip tset D σ H:=h
theorem d2d(h:Q (.int (i+j)) H):T9 (.int i) (.int j) H Q:=h
theorem a9e{a b:Str}(hl:a.length+b.length<=j7)(h:Q (.str (a++b)) H):T9 (.str a) (.str b) H Q:=⟨hl,h⟩
theorem a4U(ha:H a=some (.lst xs))(hb:H b=some (.lst ys))(h:New (.lst (xs++ys)) (xs.length+ys.length) H Q):T9 (.ref a) (.ref b) H Q:=by
 unfold T9
 simp only[ha,hb]
 exact h
theorem c9x{g:Int->Int->V}(h:Q (g i j) H):b6c g (.int i) (.int j) H Q:=h
theorem a2G{C:Int->Int->Prop}{g:Int->Int->V}(hc:C i j)(h:Q (g i j) H):q2I C g (.int i) (.int j) H Q:=⟨hc,h⟩
theorem d3o{f:Int->Int->Int}(h:Q (.int (f i j)) H):ipI f (.int i) (.int j) H Q:=⟨i,j,rfl,rfl,h⟩
theorem M4(hp:H p=some (.lst xs))(he:atI xs i=some v)(h:Q v H):qIx (.ref p) (.int i) H Q:=by
 unfold qIx
 simp only[hp]
 exact⟨v,he,h⟩
theorem Z6(hp:H p=some (.tup xs))(he:atI xs i=some v)(h:Q v H):qIx (.ref p) (.int i) H Q:=by
 unfold qIx
 simp only[hp]
 exact⟨v,he,h⟩
theorem b1q{c:Nat}(hz:z.length<=j7)(he:atI z.cps.toList i=some c)(h:Q (.str ⟨#[c]⟩) H):qIx (.str z) (.int i) H Q:=⟨hz,c,he,h⟩
theorem b9P{QH:Hp->Prop}{k:Nat}(hp:H p=some (.lst xs))(he:ixN xs.length i=some k)(h:QH (upd H p (.lst (xs.set k v)))):b4d (.ref p) (.int i) v H QH:=by
 unfold b4d
 simp only[hp]
 exact⟨k,he,h⟩
theorem d2b(hp:H p=some (.lst xs))(h0:0<=i)(he:xs[i.toNat]? = some v)(h:Q v H):c1r (.ref p) (.int i) H Q:=by
 unfold c1r
 simp only[hp]
 exact⟨h0,v,he,h⟩
theorem K5(hp:H p=some (.lst xs))(h:Q (.int xs.length) H):R0 [.ref p] H Q:=by
 unfold R0
 simp only[hp]
 exact h
theorem a0v(hp:H p=some (.tup xs))(h:Q (.int xs.length) H):R0 [.ref p] H Q:=by
 unfold R0
 simp only[hp]
 exact h
theorem a4T(hz:z.length<=j7)(h:Q (.int z.length) H):R0 [.str z] H Q:=⟨hz,h⟩
theorem d2e(h:Q (.int (if i<0 then -i else i)) H):c3Z [.int i] H Q:=h
theorem d3p(hs:b5M x y=true)(h:Q (.bl (decide (x=y))) H):qEq x y H Q:=⟨_,if_pos hs,h⟩
theorem d3n(hs:b5M x y=true)(h:Q (.bl (!decide (x=y))) H):qNe x y H Q:=⟨_,if_pos hs,h⟩
theorem c0i(ha:H a=some (.lst xs))(hb:H b=some (.lst ys))(fx:xs.all K8=true)(fy:ys.all K8=true):eqO (.ref a) (.ref b) H=some (a2u xs ys):=by
 unfold eqO
 rw[if_neg (by intro z;cases z)]
 simp only[ha,hb]
 rw[if_pos ⟨fx,fy⟩]
theorem c8F(hp:H p=some (.lst xs))(hx:K8 x=true)(ha:xs.all K8=true)(h:Q (.bl (inV x xs)) H):qIn false x (.ref p) H Q:=by
 unfold qIn
 cases x <;> first | (simp only[hp];exact⟨hx,ha,h⟩) | cases hx
theorem b1r(hp:H p=some (.tup xs))(hx:K8 x=true)(ha:xs.all K8=true)(h:Q (.bl (inV x xs)) H):qIn false x (.ref p) H Q:=by
 unfold qIn
 cases x <;> first | (simp only[hp];exact⟨hx,ha,h⟩) | cases hx
theorem c9w(hp:H p=some (.lst xs))(hx:K8 x=true)(ha:xs.all K8=true)(h:Q (.bl (!inV x xs)) H):qIn true x (.ref p) H Q:=by
 unfold qIn
 cases x <;> first | (simp only[hp];exact⟨hx,ha,h⟩) | cases hx
theorem a2a{l:Addr}(hp:H l=some (.lst xs))(hl:xs.length<j7)(h:Q .non (upd H l (.lst (xs++[y])))):a1q (.ref l) [y] H Q:=by
 unfold a1q
 simp only[hp]
 exact⟨hl,h⟩
theorem c3U(ha:H a=some (.tup xs))(hw:¬(HT.sIx xs.length 0 lo=0/\HT.sIx xs.length xs.length hi=xs.length))(h:∀p H',H p=none->H' p=some (.tup (a1J xs lo hi))->t7 H H'->Q (.ref p) H'):qSl (.ref a) lo hi H Q:=by
 unfold qSl
 simp only[ha]
 exact⟨hw,fun p hp=>h p _ hp c7 (u0 hp)⟩
theorem b9O(ha:H a=some (.lst xs))(h:∀p H',H p=none->H' p=some (.lst (a1J xs lo hi))->t7 H H'->Q (.ref p) H'):qSl (.ref a) lo hi H Q:=by
 unfold qSl
 simp only[ha]
 exact fun p hp=>h p _ hp c7 (u0 hp)
theorem Z7{s c:String}(e:J9 x H=some s)(hc:c∈a9u)(h:Q (.bl (a4c s c)) H):a4V [x,.ty c] H Q:=⟨s,e,hc,h⟩
theorem b1p{s:Str}{l:Addr}{ss:List Str}(hp:H l=some (.lst xs))(e:a3v xs=some ss)(hl:(ss.map (·.length)).sum+ss.length * s.length<=16777216)(h:Q (.str (Txt.join s ss)) H):a5n (.str s) [.ref l] H Q:=by
 unfold a5n
 simp only[hp]
 exact⟨ss,e,hl,h⟩
end
section
variable {K:Fg}
theorem a8y{lo:Int}(Pv:Nat->List V->Hp->Prop)(h0:Pv 0 [] (upd H1 D (.lst [])))(hP:∀i ys H,Pv i ys H->H D=some (.lst ys))
  (step:∀i ys H2,i<n->Pv i ys H2->∀R:VK,(∀y H5,H5 D=some (.lst ys)->ys.length<j7->Pv (i+1) (ys++[y]) (upd H5 D (.lst (ys++[y])))->R y H5)->te (some (.int (lo+i))::σ) H2 R)
  (done:∀ys H2,Pv n ys H2->QD H2) :
  ∃W:Nat->Nat->List V->Hp->Prop,(∃m,W 0 m [] (upd H1 D (.lst [])))/\∀i m ys H2,W i m ys H2->H2 D=some (.lst ys) /\
   (((Itr lo n).stop i H2 /\ QD H2) \/ ((Itr lo n).go i H2 /\ ∀ x H3,(Itr lo n).yld i H2 x H3 -> U4 (some x :: σ) H3 fun ok H4 => if ok = true then
     te (some x::σ) H4 (fun y H5=>H5 D=some (.lst ys)/\ys.length<j7/\∃m',m'<m/\W (i+1) m' (ys++[y]) (upd H5 D (.lst (ys++[y]))))
     else ∃m',m'<m/\W (i+1) m' ys H4)):=by
 refine⟨fun i m ys H=>m=n - i/\i<=n/\Pv i ys H,⟨n,rfl,K6 _,h0⟩,?_⟩
 rintro i m ys H2 ⟨rfl,hi,p⟩
 refine⟨hP i ys H2 p,?_⟩
 by_cases hlt:i<n
 ·refine .inr ⟨hlt,fun x H3 y=>?_⟩
  obtain⟨e,y⟩:=y
  subst e y
  refine b7R ?_
  rw[if_pos rfl]
  exact step i ys _ hlt p _ fun y H5 h1 h2 h3=>⟨h1,h2,n - (i+1),by omega,rfl,hlt,h3⟩
 ·have e:i=n:=by omega
  subst e
  exact .inl ⟨d9 _,done ys H2 p⟩
theorem W8(Pv:Nat->List V->Hp->Prop)(h0:Pv 0 [] (upd H1 D (.lst [])))(hP:∀i ys H,Pv i ys H->H D=some (.lst ys))(hl:∀i ys H,i<=xs.length->Pv i ys H->SqL K H a xs)
  (step:∀i x ys H2,xs[i]? = some x->Pv i ys H2->∀R:VK,(∀y H5,H5 D=some (.lst ys)->ys.length<j7->Pv (i+1) (ys++[y]) (upd H5 D (.lst (ys++[y])))->R y H5)->te (some x::σ) H2 R)
  (done:∀ys H2,Pv xs.length ys H2->QD H2) :
  ∃W:Nat->Nat->List V->Hp->Prop,(∃m,W 0 m [] (upd H1 D (.lst [])))/\∀i m ys H2,W i m ys H2->H2 D=some (.lst ys) /\
   (((Itl K a).stop i H2 /\ QD H2) \/ ((Itl K a).go i H2 /\ ∀ x H3,(Itl K a).yld i H2 x H3 -> U4 (some x :: σ) H3 fun ok H4 => if ok = true then
     te (some x::σ) H4 (fun y H5=>H5 D=some (.lst ys)/\ys.length<j7/\∃m',m'<m/\W (i+1) m' (ys++[y]) (upd H5 D (.lst (ys++[y]))))
     else ∃m',m'<m/\W (i+1) m' ys H4)):=by
 refine⟨fun i m ys H=>m=xs.length - i/\i<=xs.length/\Pv i ys H,⟨xs.length,rfl,K6 _,h0⟩,?_⟩
 rintro i m ys H2 ⟨rfl,hi,p⟩
 refine⟨hP i ys H2 p,?_⟩
 have q:=hl i ys H2 hi p
 by_cases hlt:i<xs.length
 ·refine .inr ⟨⟨xs,xs[i],q,by simp[hlt]⟩,fun x H3 y=>?_⟩
  obtain⟨e,y⟩:=y
  subst e
  refine b7R ?_
  rw[if_pos rfl]
  exact step i x ys _ (y xs q) p _ fun y H5 h1 h2 h3=>⟨h1,h2,xs.length - (i+1),by omega,rfl,hlt,h3⟩
 ·have e:i=xs.length:=by omega
  subst e
  exact .inl ⟨⟨xs,q,d9 _⟩,done ys H2 p⟩
theorem T7{wi:TI}(h:wi σ H1 fun J H1=>∀D,H1 D=none->∃W:Nat->Nat->List V->Hp->Prop,
 (∃m,W 0 m [] (upd H1 D (.lst [])))/\∀i m ys H2,W i m ys H2->H2 D=some (.lst ys) /\
  ((J.stop i H2 /\ Q (.ref D) H2) \/ (J.go i H2 /\ ∀ x H3,J.yld i H2 x H3 -> tt (some x :: σ) H3 fun ok H4 => if ok = true then
    te (some x::σ) H4 (fun y H5=>H5 D=some (.lst ys)/\ys.length<j7/\∃m',m'<m/\W (i+1) m' (ys++[y]) (upd H5 D (.lst (ys++[y]))))
    else ∃m',m'<m/\W (i+1) m' ys H4))):T5 wi tt te σ H1 Q:=h
theorem a1X{ta:TA}(h:ta σ H1 fun vs H2=>∃j:Int,vs=[.int j] /\ -(2 ^ 62)<=j/\j<2 ^ 62/\R (Itr 0 j.toNat) H2):a2H ta σ H1 R:=h
theorem Z5(h:ta σ H1 fun x H2=>∃a,x=.ref a/\(∃xs,SqL K H2 a xs)/\R (Itl K a) H2):a0b K ta σ H1 R:=h
theorem a2n{wi:TI}{g:TG}{tb:TS}{D:b0d}(h:wi σ H1 fun J H1=>∃W:Nat->Nat->St->Hp->Prop,(∃m,W 0 m σ H1)/\∀i m σ H,W i m σ H ->
 (J.stop i H/\D.nx σ H)\/(J.go i H/\∃N:St->Hp->Prop,(∀σ' H',N σ' H'->∃m',m'<m/\W (i+1) m' σ' H')/\∀x H',J.yld i H x H'->g x σ H' fun σ2 H2=>tb { D with nx:=N,ct:=N,bk:=D.nx } σ2 H2)):a3X wi g tb D σ H1:=h
end
def a0o(H H':Hp):Prop:=∀a xs,H a=some (.tup xs)->H' a=some (.tup xs)
theorem a0o.put(h:H p=some (.lst ys)):a0o H (upd H p o):=fun a xs e=>by
 rw[g7 (R1 e h (by intro z;cases z))];exact e
theorem t7.ts(s:t7 H H'):a0o H H':=fun a xs h=>s a _ h
theorem D1.ts(k:D1 b H H')(hB:Bag H b c):a0o H H':=fun a xs h=>by
 obtain⟨ys,hb⟩:=hB.lst
 exact k.tup hb h
def OpV(v:V):Prop:=(∃s,v=.str s)\/∃n:Int,v=.int n/\0<=n/\n<1000000000000
def d1l(H:Hp)(p:Addr):Prop:=∃k v1 v2,H p=some (.tup [.str k,v1,v2])/\OpV v1/\OpV v2/\k∈(["plus","minus","times","less","same"]:List Str)
inductive b3w(H:Hp):List V->Prop
 | set (n:Str) (p:Addr):d1l H p->b3w H [.str "set",.str n,.ref p]
 | copy (n:Str) (v:V):OpV v->b3w H [.str "copy",.str n,v]
 | take (n:Str):b3w H [.str "take",.str n]
 | tell (v:V):OpV v->b3w H [.str "tell",v]
 | ask (v:V):OpV v->b3w H [.str "ask",v]
 | skip:b3w H [.str "skip"]
structure d3F(H:Hp)(a:Addr):Prop where
 ex:∃ss:List Str,H a=some (.lst (ss.map V.str))/\ss≠[]/\ss.length<=8
theorem small(h:n<=100000):n<=j7:=t5 h (by rw[a2v];decide)
theorem K0(h:n<100000):n<j7:=t8 h (by rw[a2v];decide)
theorem A8{c:Bool}{A B:Prop}(hc:c=true)(h:A):if c=true then A else B:=by rw[if_pos hc];exact h
theorem v7{c:Bool}{A B:Prop}(hc:c=false)(h:B):if c=true then A else B:=by rw[hc];exact L2.d0R h
section
variable {t u:TS}{D:b0d}{tb tc to ti:TE}{tu:TT}{tr:TA}{QB:Bool->Hp->Prop}{QA:List V->Hp->Prop}{x y:V}{i j:Int}{K:Fg}
theorem b7X(h:∀p H',H p=none->H' p=some (.dK [])->t7 H H'->Q (.ref p) H'):a8S σ H Q:=fun p hp=>h p _ hp c7 (u0 hp)
theorem c3I(h:ti σ H fun y H1=>to σ H1 fun x H2=>∃a o,x=.ref a/\b2I H2 a y o/\Q (.bl o.isSome) H2):b3I ti to σ H Q:=h
theorem a4t(h:ti σ H fun y H1=>to σ H1 fun x H2=>∃a o,x=.ref a/\b2I H2 a y o/\Q (.bl (!o.isSome)) H2):a3J ti to σ H Q:=h
theorem b7W(h:te σ H fun v H1=>to σ H1 fun x H2=>ti σ H2 fun y H3=>∃a H4,x=.ref a/\b9k H3 a y v H4/\D.nx σ H4):a8j to ti te D σ H:=h
theorem b1k{f:Str}(h:ta σ H fun x H1=>∃a C dx fs v,x=.ref a/\H1 a=some (.ins C dx fs)/\Cls K C/\a3G K C f/\fs.lookup f=some v/\Q v H1):b2s K ta f σ H Q:=h
theorem b7T{f:Str}(h:te σ H fun y H1=>ta σ H1 fun x H2=>∃a C dx fs,x=.ref a/\H2 a=some (.ins C dx fs)/\Cls K C/\a3G K C f/\fs.length<1000/\D.nx σ (upd H2 a (.ins C dx (a3I f y fs)))):c1m K ta te f D σ H:=h
theorem c9k{m:Str}{sp:Sp}{E:XK}(h:ta σ H fun x H1=>∃a dx fs,x=.ref a/\H1 a=some (.ins C dx fs)/\fs.lookup m=none/\tr σ H1 fun vs H2=>sp (x::(vs++[])) H2 Q E):b5C C m sp [] E ta tr σ H Q:=h
theorem c9l{sp:Sp}{E:XK}(h:tr σ H fun vs H1=>∀x dx,H1 x=none->H1 dx=none->dx≠x ->
 sp (.ref x::(vs++[])) (upd (upd H1 dx (.own x)) x (.ins C dx [])) (fun v H2=>v=.non/\Q (.ref x) H2) E):b2X C sp [] E tr σ H Q:=h
theorem d1S(h:to σ H fun x H1=>tyV K "list" x H1/\f x [] H1 Q):c6d K "list" f to σ H Q:=h
theorem a4H(h:H p=some (.lst xs)):tyV K "list" (.ref p) H:=.inl ⟨rfl,xs,SqL.of h⟩
theorem a8g{a b:Nat}{QS:St->Hp->Prop}(hp:SqT K H p [x,y])(h:QS ((σ.set a (some x)).set b (some y)) H):b4A K 2 (a2V (v0 a) (a2V (v0 b) b4B)) (.ref p) σ H QS:=
 ⟨p,_,rfl,hp,rfl,_,_,rfl,_,_,rfl,rfl,h⟩
theorem a8f(h:tr σ H fun vs H1=>∃a,vs=[.ref a]/\(∃xs,SqL K H1 a xs)/\R (Ite K a) H1):a9U K tr σ H R:=h
theorem b7U(h:tr σ H fun vs H1=>∃a b,vs=[.ref a,.ref b]/\(∃xs,SqL K H1 a xs)/\(∃xs,SqL K H1 b xs)/\R (Itz K a b) H1):c1X K tr σ H R:=h
theorem c6r(h:∃W:Nat->St->Hp->Prop,(∃m,W m σ H)/\∀m σ H,W m σ H ->
 tt σ H fun b H1=>if b=true then ∃N:St->Hp->Prop,(∀σ' H',N σ' H'->∃m',m'<m/\W m' σ' H')/\t { D with nx:=N,ct:=N,bk:=D.nx } σ H1 else D.nx σ H1):b3H tt t D σ H:=h
theorem c3E(h:te σ H fun v H1=>D.nx (σ.set n (some v)) H1):(fun D σ H=>te σ H fun v H1=>(D:b0d).nx (σ.set n (some v)) H1:TS) D σ H:=h
theorem b0n{wi:TI}(h:wi σ H1 fun J H1=>∀D,H1 D=none->∃W:Nat->Nat->List V->Hp->Prop,
 (∃m,W 0 m [] (upd H1 D (.lst [])))/\∀i m ys H2,W i m ys H2->H2 D=some (.lst ys) /\
  ((J.stop i H2 /\ Q (.ref D) H2) \/ (J.go i H2 /\ ∀ x H3,J.yld i H2 x H3 -> ∃ a u v,x = .ref a /\ SqT K H3 a [u,v] /\ tt (some u :: some v :: σ) H3 fun ok H4 => if ok = true then
    te (some u::some v::σ) H4 (fun y H5=>H5 D=some (.lst ys)/\ys.length<j7/\∃m',m'<m/\W (i+1) m' (ys++[y]) (upd H5 D (.lst (ys++[y]))))
    else ∃m',m'<m/\W (i+1) m' ys H4))):a7f K wi tt te σ H1 Q:=h
theorem c5o{J:It}{D:Addr}(n:Nat)(Pv:Nat->List V->Hp->Prop)(h0:Pv 0 [] (upd H1 D (.lst [])))(hP:∀i ys H,Pv i ys H->H D=some (.lst ys))(stop:∀ys H,Pv n ys H->J.stop n H/\QD H)(go:∀i ys H,i<n->Pv i ys H->J.go i H)
  (step:∀i ys H2,i<n->Pv i ys H2->∀x H3,J.yld i H2 x H3->∀(R:VK) (S:Hp->Prop),(∀y H5,H5 D=some (.lst ys)->ys.length<j7->Pv (i+1) (ys++[y]) (upd H5 D (.lst (ys++[y])))->R y H5)->(∀H4,Pv (i+1) ys H4->S H4) ->
   tt (some x::σ) H3 fun ok H4=>if ok=true then te (some x::σ) H4 R else S H4) :
  ∃W:Nat->Nat->List V->Hp->Prop,(∃m,W 0 m [] (upd H1 D (.lst [])))/\∀i m ys H2,W i m ys H2->H2 D=some (.lst ys) /\
   ((J.stop i H2 /\ QD H2) \/ (J.go i H2 /\ ∀ x H3,J.yld i H2 x H3 -> tt (some x :: σ) H3 fun ok H4 => if ok = true then
     te (some x::σ) H4 (fun y H5=>H5 D=some (.lst ys)/\ys.length<j7/\∃m',m'<m/\W (i+1) m' (ys++[y]) (upd H5 D (.lst (ys++[y]))))
     else ∃m',m'<m/\W (i+1) m' ys H4)):=by
 refine⟨fun i m ys H=>m=n - i/\i<=n/\Pv i ys H,⟨n,rfl,K6 _,h0⟩,?_⟩
 rintro i m ys H2 ⟨rfl,hi,p⟩
 refine⟨hP i ys H2 p,?_⟩
 by_cases hlt:i<n
 ·exact .inr ⟨go i ys H2 hlt p,fun x H3 hy=>step i ys H2 hlt p x H3 hy _ _ (fun y H5 h1 h2 h3=>⟨h1,h2,n - (i+1),by omega,rfl,hlt,h3⟩) fun H4 h4=>⟨n - (i+1),by omega,rfl,hlt,h4⟩⟩
 ·have e:i=n:=by omega
  subst e
  exact .inl (stop ys H2 p)
theorem b4E{J:It}{D:Addr}(n:Nat)(Pv:Nat->List V->Hp->Prop)(h0:Pv 0 [] (upd H1 D (.lst [])))(hP:∀i ys H,Pv i ys H->H D=some (.lst ys))(stop:∀ys H,Pv n ys H->J.stop n H/\QD H)(go:∀i ys H,i<n->Pv i ys H->J.go i H)
  (step:∀i ys H2,i<n->Pv i ys H2->∀x H3,J.yld i H2 x H3->∃a u v,x=.ref a/\SqT K H3 a [u,v]/\∀(R:VK) (S:Hp->Prop),(∀y H5,H5 D=some (.lst ys)->ys.length<j7->Pv (i+1) (ys++[y]) (upd H5 D (.lst (ys++[y])))->R y H5)->(∀H4,Pv (i+1) ys H4->S H4) ->
   tt (some u::some v::σ) H3 fun ok H4=>if ok=true then te (some u::some v::σ) H4 R else S H4) :
  ∃W:Nat->Nat->List V->Hp->Prop,(∃m,W 0 m [] (upd H1 D (.lst [])))/\∀i m ys H2,W i m ys H2->H2 D=some (.lst ys) /\
   ((J.stop i H2 /\ QD H2) \/ (J.go i H2 /\ ∀ x H3,J.yld i H2 x H3 -> ∃ a u v,x = .ref a /\ SqT K H3 a [u,v] /\ tt (some u :: some v :: σ) H3 fun ok H4 => if ok = true then
     te (some u::some v::σ) H4 (fun y H5=>H5 D=some (.lst ys)/\ys.length<j7/\∃m',m'<m/\W (i+1) m' (ys++[y]) (upd H5 D (.lst (ys++[y]))))
     else ∃m',m'<m/\W (i+1) m' ys H4)):=by
 refine⟨fun i m ys H=>m=n - i/\i<=n/\Pv i ys H,⟨n,rfl,K6 _,h0⟩,?_⟩
 rintro i m ys H2 ⟨rfl,hi,p⟩
 refine⟨hP i ys H2 p,?_⟩
 by_cases hlt:i<n
 ·refine .inr ⟨go i ys H2 hlt p,fun x H3 hy=>?_⟩
  obtain⟨a,u,v,e,hs,st⟩:=step i ys H2 hlt p x H3 hy
  exact⟨a,u,v,e,hs,st _ _ (fun y H5 h1 h2 h3=>⟨h1,h2,n - (i+1),by omega,rfl,hlt,h3⟩) fun H4 h4=>⟨n - (i+1),by omega,rfl,hlt,h4⟩⟩
 ·have e:i=n:=by omega
  subst e
  exact .inl (stop ys H2 p)
theorem c0g{J:It}{g:TG}{tb:TS}(n:Nat)(Pv:Nat->St->Hp->Prop)(h0:Pv 0 σ H)(stop:∀σ H,Pv n σ H->J.stop n H/\D.nx σ H)(go:∀i σ H,i<n->Pv i σ H->J.go i H)
  (hs:∀i σ H,i<n->Pv i σ H->∀x H',J.yld i H x H'->g x σ H' fun σ2 H2=>tb { D with nx:=Pv (i+1),ct:=Pv (i+1),bk:=D.nx } σ2 H2) :
  ∃W:Nat->Nat->St->Hp->Prop,(∃m,W 0 m σ H)/\∀i m σ H,W i m σ H ->
   (J.stop i H/\D.nx σ H)\/(J.go i H/\∃N:St->Hp->Prop,(∀σ' H',N σ' H'->∃m',m'<m/\W (i+1) m' σ' H')/\∀x H',J.yld i H x H'->g x σ H' fun σ2 H2=>tb { D with nx:=N,ct:=N,bk:=D.nx } σ2 H2):=by
 refine⟨fun i m σ H=>m=n - i/\i<=n/\Pv i σ H,⟨n,rfl,K6 _,h0⟩,?_⟩
 rintro i m σ H ⟨rfl,hi,p⟩
 by_cases hlt:i<n
 ·exact .inr ⟨go i σ H hlt p,Pv (i+1),fun σ' H' p'=>⟨n - (i+1),by omega,rfl,hlt,p'⟩,fun x H' hy=>hs i σ H hlt p x H' hy⟩
 ·have e:i=n:=by omega
  subst e
  exact .inl (stop σ H p)
theorem d2a(h:Q (.int (if j<i then j else i)) H):c3W [.int i,.int j] H Q:=h
theorem a9W(bs:List Bool):R7 (bs.map V.bl)=some bs:=by
 induction bs with
 | nil=>rfl
 | cons s r ih=>simp[R7,ih]
theorem d2c{l:Addr}{bs:List Bool}(hl:H l=some (.lst (bs.map V.bl)))(h:Q (.bl (bs.any id)) H):b8c [.ref l] H Q:=by
 unfold b8c
 simp only[hl]
 exact⟨bs,a9W bs,h⟩
theorem c8H{l:Addr}{bs:List Bool}(hl:H l=some (.lst (bs.map V.bl)))(h:Q (.bl (bs.all id)) H):a8n [.ref l] H Q:=by
 unfold a8n
 simp only[hl]
 exact⟨bs,a9W bs,h⟩
theorem a8m{l:Addr}{zs:List V}(hl:H l=some (.lst xs))(hb:H b=some (.lst zs))(hz:xs.length+zs.length<=j7)(h:Q .non (upd H l (.lst (xs++zs)))):a3O (.ref l) [.ref b] H Q:=by
 unfold a3O
 simp only[hl,hb]
 exact⟨hz,h⟩
theorem d1Z{l:Addr}(hl:H l=some (.lst (xs++[y])))(h:Q y (upd H l (.lst xs))):c1q (.ref l) [] H Q:=by
 unfold c1q
 simp only[hl]
 refine⟨y,by simp,?_⟩
 simpa using h
theorem b4c(hp:H p=some (.lst ys))(h:∀l H',H l=none->H' l=some (.lst ys)->t7 H H'->Q (.ref l) H'):a9Q [.ref p] H Q:=by
 unfold a9Q
 simp only[hp]
 exact fun l hl=>h l _ hl c7 (u0 hl)
end
def IL(l:List Nat):List V:=l.map fun(n:Nat)=>V.int (n:Int)
theorem Q0(l:List Nat):(IL l).length=l.length:=by simp[IL]
theorem c0A(l:List Nat):(IL l).all K8=true:=by
 rw[p9]
 intro x hx
 obtain⟨s,_,rfl⟩:=y7.mp hx
 rfl
def KS(ks:List Nat):List (Key×V):=ks.map fun(k:Nat)=>(Sum.inl (k:Int),V.bl true)
theorem c5E(ks:List Nat)(k:Nat):(a9Z (KS ks) (Sum.inl (k:Int))).isSome=decide (k∈ks):=by
 induction ks with
 | nil=>rfl
 | cons a r ih=>
  by_cases e:a=k
  ·subst e
   rw[show KS (a::r)=(Sum.inl (a:Int),V.bl true)::KS r from rfl,a7R rfl]
   simp
  ·rw[show KS (a::r)=(Sum.inl (a:Int),V.bl true)::KS r from rfl,a7S (by intro z;have:=Sum.inl.inj z;exact e (by omega)),ih]
   have:(k∈a::r)↔k∈r:=by
    rw[c5]
    exact⟨fun h=>h.elim (fun z=>absurd z.symm e) id,.inr⟩
   simp[this]
def a1x(ks:List Nat)(k:Nat):List Nat:=if k∈ks then ks else ks++[k]
theorem d1i(ks:List Nat)(k:Nat):a5R (KS ks) (Sum.inl (k:Int)) (V.bl true)=KS (a1x ks k):=by
 unfold a5R a1x
 rw[b0N,c5E]
 by_cases h:k∈ks
 ·rw[if_pos (d4M h),if_pos h]
  unfold KS
  rw[G6]
  apply a0j
  intro a _
  show(if(Sum.inl (a:Int):Key)=Sum.inl (k:Int)then ((Sum.inl (a:Int):Key),V.bl true)else ((Sum.inl (a:Int):Key),V.bl true))=_
  split <;> rfl
 ·rw[if_neg (by simpa using h),if_neg h]
  simp[KS]
theorem W6{k:Nat}:j∈a1x ks k↔j∈ks\/j=k:=by
 unfold a1x
 split
 ·rename_i h
  exact⟨.inl,fun q=>q.elim id fun z=>z ▸ h⟩
 ·simp
theorem a8r{k:Nat}(h:ks.Nodup):(a1x ks k).Nodup:=by
 unfold a1x
 split
 ·exact h
 ·rename_i hk
  rw[c8q]
  exact⟨h,by simp,fun a ha b hb=>by rw[g8.mp hb];intro z;exact hk (z ▸ ha)⟩
theorem b3j{k:Nat}:ks.length<=(a1x ks k).length:=by
 unfold a1x
 split <;> simp
theorem d1j(ks:List Nat):(KS ks).length=ks.length:=by simp[KS]
theorem a8s:∀(n:Nat) (ks:List Nat),ks.Nodup->(∀k∈ks,k<n)->ks.length<=n:=by
 intro n
 induction n with
 | zero=>
  intro ks _ h
  cases ks with
  | nil=>exact d9 _
  | cons a r=>exact absurd (h a A6) (d1t _)
 | succ n ih=>
  intro ks nd h
  by_cases hn:n∈ks
  ·have:=ih (ks.erase n) (nd.erase n) fun k hk=>by
    have h1:=(List.Nodup.mem_erase_iff nd).mp hk
    have:=h k h1.2
    have:=h1.1
    omega
   rw[b7m hn]at this
   omega
  ·have:=ih ks nd fun k hk=>by
    have:=h k hk
    have:k≠n:=fun z=>hn (z ▸ hk)
    omega
   omega
theorem a3f(h:H d=some (.dK (KS ks)))(k:Nat):∃o,b2I H d (.int (k:Int)) o/\o.isSome=decide (k∈ks):=⟨_,b2I.k (k:=Sum.inl (k:Int)) h,c5E ks k⟩
theorem b4C(h:H d=some (.dK (KS ks)))(hl:ks.length<100000)(k:Nat):b9k H d (.int (k:Int)) (.bl true) (upd H d (.dK (KS (a1x ks k)))):=by
 rw[<-d1i]
 exact b9k.k (k:=Sum.inl (k:Int)) h (K0 (by rw[d1j];exact hl))
end RD
namespace RD
variable{C D a b c d dx na p ra:Addr}{H H' H0 H1:Hp}{o:HO}{r vs ws xs ys:List V}{σ:St}{ta te:TE}{tt:TT}{Q:VK}{v:V}{i j m n t:Nat}{f:V->List V->Hp->VK->Prop}{y z:Str}{ks l:List Nat}{hi lo:Option Int}{QD:Hp->Prop}{R:It->Hp->Prop}{M N:Nt}{ns:List Int}{as rs:List Addr}{Ws:List (List V)}
theorem c4G:∀(l m:List Nat),l.Nodup->(∀x∈l,x∈m)->l.length<=m.length
 | [],_,_,_=>K6 _
 | a::r,m,nd,h=>by
  have ha:=h a A6
  have:=c4G r (m.erase a) (Z0.mp nd).2 fun x hx=>(List.mem_erase_of_ne (show x≠a from fun z=>(Z0.mp nd).1 (z ▸ hx))).mpr (h x (c9 _ hx))
  rw[b7m ha]at this
  have:=c0C ha
  rw[j9]
  omega
inductive Gd(N:Nt):Nat->Prop
 | stop {k:Nat}:N[k]? = some []->Gd N k
 | step {k t:Nat} {l:List Nat}:N[k]? = some l->t∈l->Gd N t->Gd N k
inductive Rc(N:Nt):Nat->Prop
 | zero:Rc N 0
 | step {k t:Nat} {l:List Nat}:Rc N k->N[k]? = some l->t∈l->Rc N t
structure a0c(N:Nt):Prop where
 pos:0<N.length
 le:N.length<=400
 two:∀l∈N,l.length<=2
 lt:∀l∈N,∀t∈l,t<N.length
 rc:∀k,k<N.length->Rc N k
 gd:∀k,k<N.length->Gd N k
def a3P(N:Nt)(G:List Nat):List (List Nat):=(l6 N.length).map fun k=>if k∈G then N.getD k [] else (N.length - 1)::(N.getD k []).drop 1
theorem b3h(N:Nt)(G:List Nat):(a3P N G).length=N.length:=by simp[a3P]
theorem b1K{G:List Nat}{k:Nat}(h:k<N.length):(a3P N G)[k]? = some (if k∈G then N.getD k [] else (N.length - 1)::(N.getD k []).drop 1):=by
 unfold a3P
 rw[c8,a1H h]
 rfl
theorem a8t{G:List Nat}{k:Nat}(h:N[k]? = some l)(hk:k∈G):(a3P N G)[k]? = some l:=by
 have hl:=(o7.mp h).1
 rw[b1K hl,if_pos hk]
 simp[M5,h]
theorem b3g{G:List Nat}{k:Nat}(h:N[k]? = some l)(hk:¬k∈G):(a3P N G)[k]? = some ((N.length - 1)::l.drop 1):=by
 have hl:=(o7.mp h).1
 rw[b1K hl,if_neg hk]
 simp[M5,h]
theorem c7O{G:List Nat}(hG:∀k∈G,Gd N k)(hl:N[N.length - 1]? = some [])(hm:N.length - 1∈G):∀k,k<N.length->Gd (a3P N G) k:=by
 have last:Gd (a3P N G) (N.length - 1):=.stop (a8t hl hm)
 have out:∀k,k<N.length->¬k∈G->Gd (a3P N G) k:=fun k hk h=>.step (b3g (l:=N[k]) (by simp) h) A6 last
 have go:∀k,Gd N k->Gd (a3P N G) k:=by
  intro k h
  induction h with
  | @stop k h=>
   by_cases hk:k∈G
   ·exact .stop (a8t h hk)
   ·exact out k (o7.mp h).1 hk
  | @step k t l h ht _ ih=>
   by_cases hk:k∈G
   ·exact .step (a8t h hk) ht ih
   ·exact out k (o7.mp h).1 hk
 intro k hk
 by_cases h:k∈G
 ·exact go k (hG k h)
 ·exact out k hk h
theorem b6w{G:List Nat}(hp:0<N.length)(hs:∀l∈N,l.length<=2/\∀t∈l,t<N.length)(hl:N[N.length - 1]? = some [])(hm:N.length - 1∈G):∀l∈a3P N G,l.length<=2/\∀t∈l,t<N.length:=by
 intro l hl'
 obtain⟨k,hk⟩:=F4.mp hl'
 have hkl:k<N.length:=by have:=(o7.mp hk).1;rwa [b3h]at this
 rw[b1K hkl]at hk
 have e:N.getD k []=N[k]:=by simp[M5,hkl]
 rw[e]at hk
 obtain⟨h1,h2⟩:=hs N[k] (G0 _)
 by_cases hg:k∈G
 ·rw[if_pos hg]at hk
  cases hk
  exact⟨h1,h2⟩
 ·rw[if_neg hg]at hk
  cases hk
  refine⟨?_,fun t ht=>?_⟩
  ·rw[j9,X3];omega
  ·rcases c5.mp ht with z | z
   ·omega
   ·exact h2 t (List.drop_subset _ _ z)
def a7g(N:Nt)(O:List Nat):List (List Nat):=O.map fun k=>(N.getD k []).map fun t=>O.idxOf t
theorem c4V{O:List Nat}(h:t∈O):O.idxOf t<O.length:=b7n.mpr h
theorem b3J{O:List Nat}{k:Nat}(hk:k∈O)(h:N[k]? = some l):(a7g N O)[O.idxOf k]? = some (l.map fun t=>O.idxOf t):=by
 unfold a7g
 have:O[O.idxOf k]? = some k:=by
  rw[b9 (c4V hk)]
  simp
 rw[c8,this]
 simp[M5,h]
theorem b8S{O:List Nat}(h0:0∈O)(hs:O.Pairwise (· <= ·)):O.idxOf 0=0:=by
 cases O with
 | nil=>cases h0
 | cons a r=>
  have:a=0:=by
   rcases c5.mp h0 with z | z
   ·exact z.symm
   ·have:=(List.pairwise_cons.mp hs).1 0 z
    omega
  subst this
  simp
theorem c0V{O:List Nat}(h0:0∈O)(hs:O.Pairwise (· <= ·))(hnd:O.Nodup)(hlt:∀k∈O,k<N.length)(hN:N.length<=400)(hcl:∀k∈O,∀l,N[k]? = some l->∀t∈l,t∈O)(hrc:∀k∈O,Rc N k)
  (hsm:∀l∈N,l.length<=2) (hgd:∀k,k<N.length->Gd N k):a0c (a7g N O):=by
 have hlen:(a7g N O).length=O.length:=by simp[a7g]
 have rc:∀k,Rc N k->k∈O/\Rc (a7g N O) (O.idxOf k):=by
  intro k h
  induction h with
  | zero=>
   refine⟨h0,?_⟩
   rw[b8S h0 hs]
   exact .zero
  | @step k t l _ hl ht ih=>
   obtain⟨i1,i2⟩:=ih
   exact⟨hcl k i1 l hl t ht,.step i2 (b3J i1 hl) (y7.mpr ⟨t,ht,rfl⟩)⟩
 have gd:∀k,Gd N k->k∈O->Gd (a7g N O) (O.idxOf k):=by
  intro k h
  induction h with
  | @stop k h=>
   intro hk
   exact .stop (by rw[b3J hk h];rfl)
  | @step k t l h ht _ ih=>
   intro hk
   exact .step (b3J hk h) (y7.mpr ⟨t,ht,rfl⟩) (ih (hcl k hk l h t ht))
 have at_:∀i,i<O.length->∃k∈O,O.idxOf k=i:=fun i hi=>⟨O[i],G0 _,hnd.idxOf_getElem i hi⟩
 have mem:∀l∈a7g N O,∃k∈O,∃l',N[k]? = some l'/\l=l'.map fun t=>O.idxOf t:=by
  intro l hl
  obtain⟨k,hk,rfl⟩:=y7.mp hl
  refine⟨k,hk,N[k]'(hlt k hk),by simp[hlt k hk],?_⟩
  simp[M5,hlt k hk]
 refine⟨?_,?_,fun l hl=>?_,fun l hl t ht=>?_,fun i hi=>?_,fun i hi=>?_⟩
 ·rw[hlen]
  exact c0C h0
 ·rw[hlen]
  exact t5 (a8s _ _ hnd hlt) hN
 ·obtain⟨k,hk,l',e,rfl⟩:=mem l hl
  rw[a9]
  exact hsm l' (a1d e)
 ·obtain⟨k,hk,l',e,rfl⟩:=mem l hl
  obtain⟨t',ht',rfl⟩:=y7.mp ht
  rw[hlen]
  exact c4V (hcl k hk l' e t' ht')
 ·rw[hlen]at hi
  obtain⟨k,hk,rfl⟩:=at_ i hi
  exact(rc k (hrc k hk)).2
 ·rw[hlen]at hi
  obtain⟨k,hk,rfl⟩:=at_ i hi
  exact gd k (hgd k (hlt k hk)) hk
end RD
namespace RD
open PySem PySem.Spec PyProof.Rows L2
variable{C D a b c d dx na p ra:Addr}{H H' H0 H1:Hp}{o:HO}{r vs ws xs ys:List V}{σ:L2.St}{ta te:TE}{tt:TT}{Q:VK}{v:V}{i j m n t:Nat}{f:V->List V->Hp->VK->Prop}{y z:Str}{ks l:List Nat}{hi lo:Option Int}{QD:Hp->Prop}{R:It->Hp->Prop}{M N:Nt}{ns:List Int}{as rs:List Addr}{Ws:List (List V)}
structure Xn where
 C_OnceError:Addr
 C_Wrong:Addr
 C_NoThing:Addr
 C_NoWay:Addr
 C_TooMany:Addr
 C_NoText:Addr
def Xn.at(c:Xn):Nat->Addr
 | 0=>c.C_Wrong
 | 1=>c.C_NoThing
 | 2=>c.C_NoWay
 | 3=>c.C_TooMany
 | _=>c.C_NoText
def d0Y:Nat->Str
 | 3 => "most"
 | _ => "at"
structure b4T(K:Fg)(c:Xn):Prop where
 xc:∀i,i<5->b4V K (c.at i)
 xi:∀i,i<5->XIs K (c.at i)
 na:∀i,i<5->z6 K (.ref (c.at i)) (d0Y i)=some none
 up:∀i,i<5->a2M K (c.at i) (.ref c.C_OnceError)=some true
 kit:∀i j,i<5->j<5->P6 K (.ref (c.at i)) (.ref (c.at j))=some (decide (i=j))
 ve:∀i,i<5->P6 K (.ref (c.at i)) (.type "ValueError")=some true
def P4(K:Fg)(f:Str):Sp:=fun vs H Q _=>∃a v C,vs=[.ref a,v]/\H a=some (xo a C none)/\b4V K C/\z6 K (.ref C) f=some none/\∀d,H d=none->d≠a->Q .non (upd (upd H d (.xd [(f,v)])) a (xo a C (some d)))
def Rz(e:Xn)(j:Nat)(n:Int)(H:Hp)(E:XK):Prop:=∀d H',H' d=some (.xd [(d0Y j,.int n)])->t7 H H'->E (.ref (e.at j)) (some d) H'
def spX(n m:Nat)(t:XK->TS):Sp:=fun vs H Q E=>vs.length=n/\t E { nx:=fun _ H'=>Q .non H',rt:=Q } (vs.map some++u6 (m - vs.length) none) H
structure Cn where
 S9:Addr
 a5i:Addr
 a2i:Addr
 b7k:Addr
 c8s:Addr
 c2D:Addr
 c8t:Addr
 c2C:Addr
 c5N:Addr
def Cn.x(c:Cn):Xn:=⟨c.b7k,c.c8s,c.c2D,c.c8t,c.c2C,c.c5N⟩
structure a4y(K:Fg)(c:Cn):Prop where
 a0M:Cls K c.S9
 a1u:a3G K c.S9 "entries"
 Y4:a3G K c.S9 "nexts"
 a2h:a3G K c.S9 "rows"
 a5h:∀H,SqT K H c.a5i [.str "plus",.str "minus",.str "times",.str "less",.str "same"]
 a8G:∀H,SqT K H c.a2i [.int (-1),.int (0)]
 xn:b4T K c.x
def spD(n m:Nat)(t:TS):Sp:=fun vs H Q _=>vs.length=n/\t { nx:=fun _ H'=>Q .non H',rt:=Q } (vs.map some++u6 (m - vs.length) none) H
def c8A(K:Fg):TS:=L5 (Y2 (a8 (tC (.int 0)) (a8 (tC (.int 1234567891)) (a8 (tC (.int 0)) (a8 (T5 (a0b K (tSl (c9u K) (b5 0) R6 (a1f (tC (.int 63))))) U4 (tCB c3Z (a8 (b5 0) d6))) d6)))))
def b3N(K:Fg):Sp:=spD 1 1 (c8A K)
def c3i(K:Fg):TS:=z4 (M0 (D7 (tOp qEq (tOp qIx (b5 0) (tC (.int 0))) (tC (.int 0)))) (z4 (G5 (tC (.int 12345)) (v0 2)) (z4 (M0 (D7 (tOp qLt (tOp qIx (b5 0) (tC (.int 2))) (tCB R0 (a8 (tOp qIx (b5 0) (tC (.int 3))) d6)))) (z4 (G5 (tOp qIx (tOp qIx (b5 0) (tC (.int 3))) (tOp qIx (b5 0) (tC (.int 2)))) (v0 3)) (z4 (b9y (b5 0) (tC (.int 2)) (tC (.int 1)) c1r (ipI fun i j=>i+j) b4d) (z4 (M0 (D7 (tOp qGe (b5 3) (tC (.int 1000000000000000000)))) (G5 (b5 3) (c2a (b5 0) (tC (.int 0)) b4d)) E6) (G5 (tOp T9 (tOp b2w (b5 3) (tC (.int 2147483647))) (tC (.int 1))) (v0 2))))) E6) (G5 (tOp b2w (tOp T9 (tOp b6b (tOp qIx (b5 0) (tC (.int 1))) (tC (.int 48271))) (b5 2)) (tC (.int 2147483647))) (c2a (b5 0) (tC (.int 1)) b4d)))) E6) (z4 (M0 (D7 (tOp qGt (tOp qIx (b5 0) (tC (.int 0))) (tC (.int 0)))) (z4 (G5 (tOp b2w (tOp qIx (b5 0) (tC (.int 0))) (b5 1)) (v0 4)) (z4 (G5 (tOp c6A (tOp qIx (b5 0) (tC (.int 0))) (b5 1)) (c2a (b5 0) (tC (.int 0)) b4d)) (L5 (b5 4)))) E6) (z4 (G5 (tOp b2w (tOp b6b (tOp qIx (b5 0) (tC (.int 1))) (tC (.int 39373))) (tC (.int 1000000007))) (v0 5)) (z4 (G5 (tOp b2w (tOp b6b (b5 5) (tC (.int 30011))) (tC (.int 998244353))) (v0 6)) (z4 (M0 (D7 (tOp qGt (b5 1) (tC (.int 1000000)))) (L5 (tOp b2w (tOp T9 (tOp b6b (b5 6) (tC (.int 1000000000))) (b5 5)) (b5 1))) E6) (L5 (tOp b2w (tOp c6A (b5 6) (tC (.int 3))) (b5 1)))))))
def D8(K:Fg):Sp:=spD 2 7 (c3i K)
def c8z(K:Fg):TS:=z4 (G5 (Y2 d6) (v0 2)) (z4 (a3X (a2H (a8 (b5 1) d6)) (v0 3) (z4 (G5 (tCB c3W (a8 (tOp T9 (b5 3) (tC (.int 1))) (a8 (tOp b6a (b5 1) (tC (.int 1))) d6))) (v0 4)) (z4 (G5 (Y2 (a8 (b5 4) (a8 (u8 (D8 K) [] E0 (a8 (b5 0) (a8 (b5 1) d6))) d6))) (v0 5)) (z4 (G5 (u8 (D8 K) [] E0 (a8 (b5 0) (a8 (tC (.int 8)) d6))) (v0 6)) (z4 (M0 (D7 (tOp qLt (b5 6) (tC (.int 3)))) (G5 (Y2 (a8 (tOp qIx (b5 5) (tC (.int 1))) (a8 (b5 4) d6))) (v0 5)) E6) (z4 (M0 (D7 (tOp qEq (b5 6) (tC (.int 3)))) (G5 (Y2 (a8 (tOp qIx (b5 5) (tC (.int 1))) (a8 (u8 (D8 K) [] E0 (a8 (b5 0) (a8 (b5 1) d6))) d6))) (v0 5)) E6) (z4 (M0 (tOr (b2t (D7 (tOp qGt (b5 6) (tC (.int 3)))) (D7 (tOp qLt (b5 6) (tC (.int 7))))) (D7 (tOp qEq (b5 1) (tC (.int 1))))) (G5 (Y2 (a8 (b5 4) d6)) (v0 5)) E6) (z4 (M0 (b2t (D7 (tOp qEq (b5 6) (tC (.int 7)))) (D7 (tOp qGt (b5 1) (tC (.int 1))))) (G5 (Y2 (a8 (tOp qIx (b5 5) (tC (.int 1))) d6)) (v0 5)) E6) (z4 (M0 (tOr (D7 (tOp qEq (b5 3) (tOp b6a (b5 1) (tC (.int 1))))) (b2t (D7 (tOp qEq (b5 6) (tC (.int 6)))) (D7 (tOp qEq (u8 (D8 K) [] E0 (a8 (b5 0) (a8 (tC (.int 4)) d6))) (tC (.int 0)))))) (G5 (Y2 d6) (v0 5)) E6) (a0a (tBM K "list" a1q (b5 2) (a8 (b5 5) d6)))))))))))) (L5 (b5 2)))
def b3M(K:Fg):Sp:=spD 2 7 (c8z K)
def b5z(K:Fg):TS:=z4 (G5 a8S (v0 1)) (z4 (a3X (a2H (a8 (tCB R0 (a8 (b5 0) d6)) d6)) (v0 2) (a3X (a2H (a8 (tCB R0 (a8 (b5 0) d6)) d6)) (v0 3) (M0 (tOr (D7 (tOp qEq (tOp qIx (b5 0) (b5 3)) (Y2 d6))) (tB (tCB b8c (a8 (T5 (a0b K (tOp qIx (b5 0) (b5 3))) U4 (b3I (b5 0) (b5 2))) d6)))) (a8j (b5 1) (b5 3) (tC (.bl true))) E6))) (z4 (G5 (T5 (a2H (a8 (tCB R0 (a8 (b5 0) d6)) d6)) U4 (tIf (tB (b3I (b5 0) (b5 2))) (tOp qIx (b5 1) (b5 0)) (tOp T9 (Y2 (a8 (tOp b6a (tCB R0 (a8 (b5 1) d6)) (tC (.int 1))) d6)) (tSl qSl (tOp qIx (b5 1) (b5 0)) (a1f (tC (.int 1))) R6)))) (v0 0)) (z4 (G5 (c3o ((tC (.int 0),tC (.bl true))::[])) (v0 4)) (z4 (a3X (a2H (a8 (tCB R0 (a8 (b5 0) d6)) d6)) (v0 2) (a3X (a2H (a8 (tCB R0 (a8 (b5 0) d6)) d6)) (v0 3) (M0 (tB (b3I (b5 3) (b5 4))) (a3X (a0b K (tOp qIx (b5 0) (b5 3))) (v0 5) (a8j (b5 4) (b5 5) (tC (.bl true)))) E6))) (z4 (G5 (tCB a6t (a8 (tCB a9g (a8 (b5 4) d6)) d6)) (v0 6)) (L5 (T5 (a0b K (b5 6)) U4 (T5 (a0b K (tOp qIx (b5 1) (b5 0))) U4 (tBM K "list" a9h (b5 8) (a8 (b5 0) d6))))))))))
def a6o(K:Fg):Sp:=spD 1 7 (b5z K)
def c3l(K:Fg):TS:=z4 (G5 (tC (.str "abcdefghijklmnopqrstuvwxyz")) (v0 1)) (z4 (G5 (tOp T9 (b5 1) (tC (.str "0123456789"))) (v0 2)) (L5 (tOp T9 (tOp qIx (b5 1) (u8 (D8 K) [] E0 (a8 (b5 0) (a8 (tC (.int 26)) d6)))) (tBM K "str" a5n (tC (.str "")) (a8 (T5 (a2H (a8 (u8 (D8 K) [] E0 (a8 (b5 0) (a8 (tC (.int 8)) d6))) d6)) U4 (tOp qIx (b5 3) (u8 (D8 K) [] E0 (a8 (b5 1) (a8 (tC (.int 36)) d6))))) d6)))))
def b0j(K:Fg):Sp:=spD 1 3 (c3l K)
def b9v(K:Fg):TS:=z4 (G5 (Y2 (a8 (tC (.str "a")) (a8 (tC (.str "k0")) (a8 (tC (.str "ab")) (a8 (tC (.str "set")) (a8 (tC (.str "abc")) (a8 (tC (.str "k1")) (a8 (tC (.str "abcdefgh")) (a8 (tC (.str "b")) d6))))))))) (v0 1)) (z4 (G5 (tOp T9 (b5 1) (Y2 (a8 (tC (.str "ask")) (a8 (tC (.str "x9")) (a8 (tC (.str "a1")) (a8 (tC (.str "abcdefg")) (a8 (tC (.str "plus")) (a8 (tC (.str "ba")) (a8 (tC (.str "k10")) (a8 (tC (.str "z")) d6)))))))))) (v0 1)) (z4 (G5 (u8 (D8 K) [] E0 (a8 (b5 0) (a8 (tC (.int 16)) d6))) (v0 2)) (z4 (G5 (tOp T9 (tC (.int 1)) (tOp b6b (tC (.int 2)) (u8 (D8 K) [] E0 (a8 (b5 0) (a8 (tC (.int 8)) d6))))) (v0 3)) (z4 (G5 (Y2 d6) (v0 4)) (z4 (a3X (a2H (a8 (tOp T9 (tC (.int 2)) (u8 (D8 K) [] E0 (a8 (b5 0) (a8 (tC (.int 3)) d6)))) d6)) (v0 5) (z4 (G5 (tOp qIx (b5 1) (tOp b2w (tOp T9 (b5 2) (tOp b6b (b5 5) (b5 3))) (tC (.int 16)))) (v0 6)) (z4 (M0 (D7 (tOp qEq (u8 (D8 K) [] E0 (a8 (b5 0) (a8 (tC (.int 3)) d6))) (tC (.int 0)))) (G5 (u8 (b0j K) [] E0 (a8 (b5 0) d6)) (v0 6)) E6) (M0 (D7 (tOp (qIn true) (b5 6) (b5 4))) (a0a (tBM K "list" a1q (b5 4) (a8 (b5 6) d6))) E6)))) (L5 (b5 4)))))))
def a7Z(K:Fg):Sp:=spD 1 7 (b9v K)
def b9t(K:Fg):TS:=L5 (tOp qIx (Y2 (a8 (tC (.int 0)) (a8 (tC (.int 1)) (a8 (tOp b6a (tOp b6a (tOp c9y (tC (.int 10)) (tC (.int 12))) (tC (.int 1))) (u8 (D8 K) [] E0 (a8 (b5 0) (a8 (tC (.int 3)) d6)))) (a8 (u8 (D8 K) [] E0 (a8 (b5 0) (a8 (tC (.int 1000000000000)) d6))) d6))))) (u8 (D8 K) [] E0 (a8 (b5 0) (a8 (tC (.int 4)) d6))))
def a7W(K:Fg):Sp:=spD 1 1 (b9t K)
def b2V(K:Fg):TS:=z4 (M0 (D7 (tOp qEq (u8 (D8 K) [] E0 (a8 (b5 0) (a8 (tC (.int 4)) d6))) (tC (.int 0)))) (L5 (u8 (a7W K) [] E0 (a8 (b5 0) d6))) E6) (L5 (tOp qIx (b5 1) (u8 (D8 K) [] E0 (a8 (b5 0) (a8 (tCB R0 (a8 (b5 1) d6)) d6)))))
def a0E(K:Fg):Sp:=spD 2 2 (b2V K)
def c3n(K:Fg):TS:=z4 (G5 (tOp qIx (Y2 (a8 (tC (.str "plus")) (a8 (tC (.str "minus")) (a8 (tC (.str "times")) (a8 (tC (.str "less")) (a8 (tC (.str "same")) d6)))))) (u8 (D8 K) [] E0 (a8 (b5 0) (a8 (tC (.int 5)) d6)))) (v0 2)) (z4 (G5 (u8 (a0E K) [] E0 (a8 (b5 0) (a8 (b5 1) d6))) (v0 3)) (z4 (G5 (u8 (a0E K) [] E0 (a8 (b5 0) (a8 (b5 1) d6))) (v0 4)) (z4 (M0 (D7 (tOp qEq (u8 (D8 K) [] E0 (a8 (b5 0) (a8 (tC (.int 6)) d6))) (tC (.int 0)))) (G5 (b5 3) (v0 4)) E6) (L5 (a5s (a8 (b5 2) (a8 (b5 3) (a8 (b5 4) d6))))))))
def b0k(K:Fg):Sp:=spD 2 5 (c3n K)
def c8y(K:Fg):TS:=z4 (M0 (D7 (tOp qEq (b5 3) (tC (.int 2)))) (L5 (a5s (a8 (tC (.str "ask")) (a8 (u8 (a0E K) [] E0 (a8 (b5 0) (a8 (b5 1) d6))) d6)))) E6) (z4 (G5 (u8 (D8 K) [] E0 (a8 (b5 0) (a8 (tC (.int 8)) d6))) (v0 4)) (z4 (G5 (tOp qIx (b5 1) (u8 (D8 K) [] E0 (a8 (b5 0) (a8 (tCB R0 (a8 (b5 1) d6)) d6)))) (v0 5)) (z4 (M0 (D7 (tOp qLt (b5 4) (tC (.int 5)))) (L5 (a5s (a8 (tC (.str "set")) (a8 (b5 5) (a8 (tOp qIx (b5 2) (u8 (D8 K) [] E0 (a8 (b5 0) (a8 (tCB R0 (a8 (b5 2) d6)) d6)))) d6))))) E6) (z4 (M0 (D7 (tOp qEq (b5 4) (tC (.int 5)))) (L5 (a5s (a8 (tC (.str "copy")) (a8 (b5 5) (a8 (u8 (a0E K) [] E0 (a8 (b5 0) (a8 (b5 1) d6))) d6))))) E6) (z4 (M0 (D7 (tOp qEq (b5 4) (tC (.int 6)))) (L5 (a5s (a8 (tC (.str "take")) (a8 (b5 5) d6)))) E6) (L5 (tOp qIx (Y2 (a8 (a5s (a8 (tC (.str "tell")) (a8 (u8 (a0E K) [] E0 (a8 (b5 0) (a8 (b5 1) d6))) d6))) (a8 (a5s (a8 (tC (.str "skip")) d6)) d6))) (u8 (D8 K) [] E0 (a8 (b5 0) (a8 (tC (.int 2)) d6))))))))))
def b3L(K:Fg):Sp:=spD 4 6 (c8y K)
def b9w(K:Fg):TS:=z4 (G5 (tOp T9 (tC (.int 1)) (u8 (D8 K) [] E0 (a8 (b5 0) (a8 (tC (.int 9)) d6)))) (v0 1)) (z4 (M0 (D7 (tOp qEq (u8 (D8 K) [] E0 (a8 (b5 0) (a8 (tC (.int 8)) d6))) (tC (.int 0)))) (G5 (tOp T9 (tC (.int 15)) (u8 (D8 K) [] E0 (a8 (b5 0) (a8 (tC (.int 10)) d6)))) (v0 1)) E6) (z4 (G5 (u8 (a6o K) [] E0 (a8 (u8 (b3M K) [] E0 (a8 (b5 0) (a8 (b5 1) d6))) d6)) (v0 2)) (z4 (G5 (u8 (a7Z K) [] E0 (a8 (b5 0) d6)) (v0 3)) (z4 (G5 (T5 (a2H (a8 (tOp T9 (tC (.int 1)) (u8 (D8 K) [] E0 (a8 (b5 0) (a8 (tC (.int 3)) d6)))) d6)) U4 (u8 (b0k K) [] E0 (a8 (b5 1) (a8 (b5 4) d6)))) (v0 4)) (L5 (a5s (a8 (T5 (a0b K (b5 2)) U4 (u8 (b3L K) [] E0 (a8 (b5 1) (a8 (b5 4) (a8 (b5 5) (a8 (tCB R0 (a8 (b5 0) d6)) d6)))))) (a8 (b5 2) d6))))))))
def a8a(K:Fg):Sp:=spD 1 5 (b9w K)
def b0R(K:Fg):TS:=z4 (G5 (Y2 d6) (v0 1)) (z4 (a3X (c7K K (b5 0)) (v0 2) (a0a (tBM K "list" b9Q (b5 1) (a8 (tIf (tB (tCB a4V (a8 (b5 2) (a8 (tC (.ty "tuple")) d6)))) (b5 2) (Y2 (a8 (b5 2) d6))) d6)))) (L5 (b5 1)))
def a3K(K:Fg):Sp:=spD 1 3 (b0R K)
def a6N(K:Fg):TS:=z4 (G5 (u8 (a3K K) [] E0 (a8 (b5 0) d6)) (v0 2)) (z4 (M0 (D7 (tOp qGt (tCB R0 (a8 (b5 1) d6)) (tC (.int 0)))) (z4 (a0a (tBM K "list" a1q (b5 2) (a8 (tC (.str ">")) d6))) (a0a (tBM K "list" b9Q (b5 2) (a8 (b5 1) d6)))) E6) (L5 (tBM K "str" a5n (tC (.str " ")) (a8 (T5 (a0b K (b5 2)) U4 (tCB b1t (a8 (b5 0) d6))) d6))))
def a1T(K:Fg):Sp:=spD 2 3 (a6N K)
def b9u(K:Fg):TS:=L5 (tBM K "str" a5n (tC (.str "; ")) (a8 (a7f K (c1X K (a8 (b2s K (b5 0) "rows") (a8 (b2s K (b5 0) "nexts") d6))) U4 (u8 (a1T K) [] E0 (a8 (b5 0) (a8 (b5 1) d6)))) d6))
def a3x(K:Fg):Sp:=spD 1 1 (b9u K)
def c3j(K:Fg):TS:=z4 (fun D σ H=>(T5 (a2H (a8 (tCB R0 (a8 (b5 1) d6)) d6)) (D7 (tOp (qIn false) (tOp qIx (b5 2) (b5 0)) (b5 3))) (b5 0)) σ H fun v H1=>D.nx (σ.set 3 (some v)) H1) (L5 (tOp qIx (b5 3) (u8 (D8 K) [] E0 (a8 (b5 0) (a8 (tCB R0 (a8 (b5 3) d6)) d6)))))
def a6n(K:Fg):Sp:=spD 3 4 (c3j K)
def b0W(K:Fg):TS:=z4 (G5 (Y2 (a8 (tC (.str "")) (a8 (tC (.str "skip 1")) (a8 (tC (.str "tell")) (a8 (tC (.str "tell A")) (a8 (tC (.str "tell 1000000000000")) (a8 (tC (.str "tell 01")) (a8 (tC (.str "take 5")) (a8 (tC (.str "take 1a")) (a8 (tC (.str "copy a")) (a8 (tC (.str "copy a b c")) d6))))))))))) (v0 1)) (z4 (G5 (tOp T9 (b5 1) (Y2 (a8 (tC (.str "set a plus 1")) (a8 (tC (.str "set a over 1 2")) (a8 (tC (.str "set 5 plus 1 2")) (a8 (tC (.str "set a plus 1 2 3")) d6)))))) (v0 1)) (z4 (G5 (tOp T9 (b5 1) (Y2 (a8 (tC (.str "jump")) (a8 (tC (.str "set")) (a8 (tC (.str "1")) (a8 (tC (.str "set a")) (a8 (tC (.str ">")) (a8 (tOp T9 (tC (.str "tell ")) (tOp c3V (tC (.str "7")) (tC (.int 30)))) d6)))))))) (v0 1)) (L5 (tOp qIx (b5 1) (u8 (D8 K) [] E0 (a8 (b5 0) (a8 (tCB R0 (a8 (b5 1) d6)) d6)))))))
def a3M(K:Fg):Sp:=spD 1 2 (b0W K)
def b5y(K:Fg):TS:=z4 (G5 (u8 (D8 K) [] E0 (a8 (b5 0) (a8 (tC (.int 9)) d6))) (v0 2)) (z4 (G5 (u8 (D8 K) [] E0 (a8 (b5 0) (a8 (tOp T9 (tCB R0 (a8 (b5 1) d6)) (tC (.int 1))) d6))) (v0 3)) (z4 (M0 (D7 (tOp qEq (b5 2) (tC (.int 0)))) (L5 (tOp T9 (tOp T9 (tSl a9f (b5 1) R6 (a1f (b5 3))) (tC (.str " "))) (tSl a9f (b5 1) (a1f (b5 3)) R6))) E6) (z4 (M0 (D7 (tOp qEq (b5 2) (tC (.int 1)))) (L5 (tOp T9 (tOp T9 (tSl a9f (b5 1) R6 (a1f (b5 3))) (tOp qIx (tC (.str "AZ_-.,;>\n~+:")) (u8 (D8 K) [] E0 (a8 (b5 0) (a8 (tC (.int 12)) d6))))) (tSl a9f (b5 1) (a1f (b5 3)) R6))) E6) (z4 (M0 (D7 (tOp qEq (b5 2) (tC (.int 2)))) (z4 (fun D σ H=>(T5 (c0c (a8 (tC (.int 1)) (a8 (tCB R0 (a8 (b5 1) d6)) d6))) (b2t (D7 (tOp qEq (tOp qIx (b5 2) (tOp b6a (b5 0) (tC (.int 1)))) (tC (.str " ")))) (D7 (tOp (qIn false) (tOp qIx (b5 2) (b5 0)) (tC (.str "0123456789"))))) (b5 0)) σ H fun v H1=>D.nx (σ.set 4 (some v)) H1) (M0 (D7 (tOp qNe (b5 4) (Y2 d6))) (z4 (G5 (tOp qIx (b5 4) (u8 (D8 K) [] E0 (a8 (b5 0) (a8 (tCB R0 (a8 (b5 4) d6)) d6)))) (v0 3)) (L5 (tOp T9 (tOp T9 (tSl a9f (b5 1) R6 (a1f (b5 3))) (tC (.str "0"))) (tSl a9f (b5 1) (a1f (b5 3)) R6)))) E6)) E6) (z4 (M0 (b2t (D7 (tOp qEq (b5 2) (tC (.int 3)))) (D7 (tOp (qIn false) (tC (.str " ")) (b5 1)))) (z4 (G5 (u8 (a6n K) [] E0 (a8 (b5 0) (a8 (b5 1) (a8 (tC (.str " ")) d6)))) (v0 3)) (L5 (tOp T9 (tSl a9f (b5 1) R6 (a1f (b5 3))) (tSl a9f (b5 1) (a1f (tOp T9 (b5 3) (tC (.int 1)))) R6)))) E6) (z4 (M0 (D7 (tOp qEq (b5 2) (tC (.int 4)))) (L5 (tOp T9 (b5 1) (tOp qIx (Y2 (a8 (tC (.str "; ")) (a8 (tC (.str ";")) (a8 (tC (.str " ")) (a8 (tC (.str "\n")) (a8 (tC (.str " >")) (a8 (tC (.str " > ")) (a8 (tOp T9 (tC (.str "; ")) (b5 1)) (a8 (tOp T9 (tC (.str " ")) (b5 1)) d6))))))))) (u8 (D8 K) [] E0 (a8 (b5 0) (a8 (tC (.int 8)) d6)))))) E6) (z4 (M0 (D7 (tOp qEq (b5 2) (tC (.int 5)))) (L5 (tOp T9 (tOp qIx (Y2 (a8 (tC (.str "; ")) (a8 (tC (.str " ")) (a8 (tC (.str ";")) (a8 (tC (.str "\n")) (a8 (tC (.str "> 0; ")) d6)))))) (u8 (D8 K) [] E0 (a8 (b5 0) (a8 (tC (.int 5)) d6)))) (b5 1))) E6) (z4 (M0 (D7 (tOp qEq (b5 2) (tC (.int 6)))) (L5 (tOp qIx (Y2 (a8 (tC .non) (a8 (tC (.int 5)) (a8 (tC (.bl true)) (a8 (Y2 (a8 (b5 1) d6)) (a8 (a5s (a8 (b5 1) d6)) (a8 a8S (a8 (tC (.str "")) d6)))))))) (u8 (D8 K) [] E0 (a8 (b5 0) (a8 (tC (.int 7)) d6))))) E6) (z4 (M0 (b2t (D7 (tOp qEq (b5 2) (tC (.int 7)))) (D7 (tOp (qIn false) (tC (.str ">")) (b5 1)))) (z4 (G5 (u8 (a6n K) [] E0 (a8 (b5 0) (a8 (b5 1) (a8 (tC (.str ">")) d6)))) (v0 3)) (L5 (tOp T9 (tOp T9 (tSl a9f (b5 1) R6 (a1f (b5 3))) (tOp qIx (Y2 (a8 (tC (.str "")) (a8 (tC (.str ">>")) (a8 (tC (.str "> >")) (a8 (tC (.str "<")) (a8 (tC (.str "> 400")) (a8 (tC (.str "> a")) d6))))))) (u8 (D8 K) [] E0 (a8 (b5 0) (a8 (tC (.int 6)) d6))))) (tSl a9f (b5 1) (a1f (tOp T9 (b5 3) (tC (.int 1)))) R6)))) E6) (z4 (G5 (tBM K "str" a7r (b5 1) (a8 (tC (.str "; ")) d6)) (v0 5)) (z4 (G5 (u8 (D8 K) [] E0 (a8 (b5 0) (a8 (tCB R0 (a8 (b5 5) d6)) d6))) (v0 3)) (L5 (tBM K "str" a5n (tC (.str "; ")) (a8 (tOp T9 (tOp T9 (tSl qSl (b5 5) R6 (a1f (b5 3))) (Y2 (a8 (u8 (a3M K) [] E0 (a8 (b5 0) d6)) d6))) (tSl qSl (b5 5) (a1f (tOp T9 (b5 3) (tC (.int 1)))) R6)) d6))))))))))))))
def a6m(K:Fg):Sp:=spD 2 6 (b5y K)
def b2W(K:Fg):TS:=z4 (M0 (D7 (tOp qEq (u8 (D8 K) [] E0 (a8 (b5 0) (a8 (tC (.int 4)) d6))) (tC (.int 0)))) (L5 (tBM K "str" a5n (tC (.str "; ")) (a8 (tOp T9 (T5 (a2H (a8 (tC (.int 400)) d6)) U4 (tOp T9 (tC (.str "skip > ")) (tCB b1t (a8 (tOp T9 (b5 0) (tC (.int 1))) d6)))) (Y2 (a8 (tC (.str "skip")) d6))) d6))) E6) (z4 (G5 (Y2 (a8 (tC (.str "skip > 0")) (a8 (tC (.str "skip; skip")) (a8 (tC (.str "ask a > 0 0")) (a8 (tC (.str "ask a > 1 1; skip > 1")) (a8 (tC (.str "skip > 1; skip > 0")) d6)))))) (v0 1)) (z4 (G5 (tOp T9 (b5 1) (Y2 (a8 (tC (.str "ask 1 > 0 1; skip; skip")) d6))) (v0 1)) (z4 (G5 (tOp T9 (b5 1) (Y2 (a8 (tC (.str "ask a")) (a8 (tC (.str "ask a > 0")) (a8 (tC (.str "ask a > 1 1 1; skip")) (a8 (tC (.str "skip > 1 1; skip")) (a8 (tC (.str "tell a > 1; ask b")) d6))))))) (v0 1)) (L5 (tOp qIx (b5 1) (u8 (D8 K) [] E0 (a8 (b5 0) (a8 (tCB R0 (a8 (b5 1) d6)) d6))))))))
def a4L(K:Fg):Sp:=spD 1 2 (b2W K)
def a7c(K:Fg):TS:=z4 (M0 (b2t (D7 (a3Y qLt qLe (tC (.int 0)) (tCB R0 (a8 (b5 0) d6)) (tCB R0 (a8 (tCB b1t (a8 (tC (.int 1000000000000)) d6)) d6)))) (tB (tCB a8n (a8 (T5 (c4X (b5 0)) U4 (tOp (qIn false) (b5 0) (tC (.str "0123456789")))) d6)))) (L5 (tCB c3Y (a8 (b5 0) d6))) E6) (L5 (b5 0))
def a0D(K:Fg):Sp:=spD 1 1 (a7c K)
def b0U(K:Fg):TS:=z4 (M0 (D7 (tOp qEq (tCB R0 (a8 (b5 0) d6)) (tC (.int 5)))) (L5 (a5s (a8 (tOp qIx (b5 0) (tC (.int 0))) (a8 (tOp qIx (b5 0) (tC (.int 1))) (a8 (tCB a2s (a8 (tSl qSl (b5 0) (a1f (tC (.int 2))) R6) d6)) d6))))) E6) (L5 (tCB a2s (a8 (b5 0) d6)))
def a4r(K:Fg):Sp:=spD 1 1 (b0U K)
def a5K(K:Fg):TS:=z4 (M0 (tOr (a5t (tB (tCB a4V (a8 (b5 0) (a8 (tC (.ty "list")) d6))))) (D7 (tOp qLt (tCB R0 (a8 (b5 0) d6)) (b5 2)))) (fun _ _ _=>False) E6) (M0 (D7 (tOp qGt (tCB R0 (a8 (b5 0) d6)) (tC (.int 400)))) (fun _ _ _=>False) E6)
def a0m(K:Fg):Sp:=spD 3 3 (a5K K)
def a4o(K:Fg):TS:=z4 (M0 (tOr (a5t (tB (tCB a4V (a8 (b5 0) (a8 (tC (.ty "str")) d6))))) (a5t (D7 (a3Y qLe qLe (tC (.int 1)) (tCB R0 (a8 (b5 0) d6)) (tC (.int 8)))))) (L5 (tC (.bl false))) E6) (L5 (a1g (tOp (qIn false) (tOp qIx (b5 0) (tC (.int 0))) (tC (.str "abcdefghijklmnopqrstuvwxyz"))) (tCB a8n (a8 (T5 (c4X (b5 0)) U4 (tOp (qIn false) (b5 0) (tOp T9 (tC (.str "abcdefghijklmnopqrstuvwxyz")) (tC (.str "0123456789"))))) d6))))
def T6(K:Fg):Sp:=spD 1 1 (a4o K)
def b0V(K:Fg):TS:=L5 (a1g (tCB a4V (a8 (b5 0) (a8 (tC (.ty "int")) d6))) (b5B (tCB a4V (a8 (b5 0) (a8 (tC (.ty "bool")) d6)))))
def a0F(K:Fg):Sp:=spD 1 1 (b0V K)
def a7d(K:Fg):TS:=L5 (a1g (u8 (a0F K) [] E0 (a8 (b5 0) d6)) (a3Y qLe qLt (tC (.int 0)) (b5 0) (tC (.int 1000000000000))))
def a2E(K:Fg):Sp:=spD 1 1 (a7d K)
def a4I(K:Fg):TS:=L5 (c6c (u8 (T6 K) [] E0 (a8 (b5 0) d6)) (u8 (a2E K) [] E0 (a8 (b5 0) d6)))
def V3(K:Fg):Sp:=spD 1 1 (a4I K)
def a4p(K:Fg)(c:Cn):TS:=z4 (M0 (tOr (a5t (tB (tCB a4V (a8 (b5 0) (a8 (tC (.ty "tuple")) d6))))) (D7 (tOp qNe (tCB R0 (a8 (b5 0) d6)) (tC (.int 3))))) (L5 (tC (.bl false))) E6) (L5 (a1g (tOp (c9A K) (tOp qIx (b5 0) (tC (.int 0))) (tC (.ref c.a5i))) (a1g (u8 (V3 K) [] E0 (a8 (tOp qIx (b5 0) (tC (.int 1))) d6)) (u8 (V3 K) [] E0 (a8 (tOp qIx (b5 0) (tC (.int 2))) d6)))))
def a0G(K:Fg)(c:Cn):Sp:=spD 1 1 (a4p K c)
def a5J(K:Fg)(c:Cn):TS:=z4 (M0 (tOr (a5t (tB (tCB a4V (a8 (b5 0) (a8 (tC (.ty "tuple")) d6))))) (D7 (tOp qEq (tCB R0 (a8 (b5 0) d6)) (tC (.int 0))))) (L5 (tC (.bl false))) E6) (z4 (G5 (tOp qIx (b5 0) (tC (.int 0))) (v0 1)) (z4 (G5 (tSl qSl (b5 0) (a1f (tC (.int 1))) R6) (v0 2)) (z4 (M0 (D7 (tOp qEq (b5 1) (tC (.str "set")))) (L5 (a1g (tOp qEq (tCB R0 (a8 (b5 2) d6)) (tC (.int 2))) (a1g (u8 (T6 K) [] E0 (a8 (tOp qIx (b5 2) (tC (.int 0))) d6)) (u8 (a0G K c) [] E0 (a8 (tOp qIx (b5 2) (tC (.int 1))) d6))))) E6) (z4 (M0 (D7 (tOp qEq (b5 1) (tC (.str "copy")))) (L5 (a1g (tOp qEq (tCB R0 (a8 (b5 2) d6)) (tC (.int 2))) (a1g (u8 (T6 K) [] E0 (a8 (tOp qIx (b5 2) (tC (.int 0))) d6)) (u8 (V3 K) [] E0 (a8 (tOp qIx (b5 2) (tC (.int 1))) d6))))) E6) (z4 (M0 (D7 (tOp qEq (b5 1) (tC (.str "take")))) (L5 (a1g (tOp qEq (tCB R0 (a8 (b5 2) d6)) (tC (.int 1))) (u8 (T6 K) [] E0 (a8 (tOp qIx (b5 2) (tC (.int 0))) d6)))) E6) (z4 (M0 (D7 (tOp (qIn false) (b5 1) (a5s (a8 (tC (.str "tell")) (a8 (tC (.str "ask")) d6))))) (L5 (a1g (tOp qEq (tCB R0 (a8 (b5 2) d6)) (tC (.int 1))) (u8 (V3 K) [] E0 (a8 (tOp qIx (b5 2) (tC (.int 0))) d6)))) E6) (L5 (a1g (tOp qEq (b5 1) (tC (.str "skip"))) (tOp qEq (tCB R0 (a8 (b5 2) d6)) (tC (.int 0)))))))))))
def a0r(K:Fg)(c:Cn):Sp:=spD 1 3 (a5J K c)
def a7U(K:Fg):TS:=a3X (a9U K (a8 (b5 0) d6)) (b4A K 2 (a2V (v0 1) (a2V (v0 2) (b4B)))) (M0 (a5t (tB (b5 2))) (fun _ _ _=>False) E6)
def a0s(K:Fg):Sp:=spD 1 3 (a7U K)
def a7e(K:Fg):TS:=L5 (a1g (u8 (a0F K) [] E0 (a8 (b5 0) d6)) (a3Y qLe qLt (tC (.int 0)) (b5 0) (b5 1)))
def a2F(K:Fg):Sp:=spD 2 2 (a7e K)
def a5L(K:Fg):TS:=z4 (M0 (a5t (tB (tCB a4V (a8 (b5 1) (a8 (tC (.ty "list")) d6))))) (L5 (tC (.bl false))) E6) (z4 (G5 (tIf (D7 (tOp qEq (tOp qIx (b5 0) (tC (.int 0))) (tC (.str "ask")))) (a5s (a8 (tC (.int 2)) d6)) (a5s (a8 (tC (.int 0)) (a8 (tC (.int 1)) d6)))) (v0 3)) (L5 (a1g (tOp (qIn false) (tCB R0 (a8 (b5 1) d6)) (b5 3)) (tCB a8n (a8 (T5 (a0b K (b5 1)) U4 (u8 (a2F K) [] E0 (a8 (b5 0) (a8 (b5 3) d6)))) d6)))))
def a0f(K:Fg):Sp:=spD 3 4 (a5L K)
def a6O(K:Fg):TS:=z4 (M0 (tOr (a5t (tB (tCB a4V (a8 (b5 1) (a8 (tC (.ty "list")) d6))))) (D7 (tOp qNe (tCB R0 (a8 (b5 1) d6)) (tCB R0 (a8 (b5 0) d6))))) (fun _ _ _=>False) E6) (a0a (u8 (a0s K) [] E0 (a8 (a7f K (c1X K (a8 (b5 0) (a8 (b5 1) d6))) U4 (u8 (a0f K) [] E0 (a8 (b5 0) (a8 (b5 1) (a8 (tCB R0 (a8 (b5 2) d6)) d6))))) d6)))
def a0H(K:Fg):Sp:=spD 2 2 (a6O K)
def b2U(K:Fg):TS:=z4 (G5 a8S (v0 2)) (z4 (G5 (tCB a9Q (a8 (b5 0) d6)) (v0 3)) (z4 (b3H (D7 (tOp qGt (tCB R0 (a8 (b5 3) d6)) (tC (.int 0)))) (z4 (G5 (c6d K "list" c1q (b5 3)) (v0 4)) (M0 (tB (a3J (b5 4) (b5 2))) (z4 (a8j (b5 2) (b5 4) (tC (.bl true))) (a0a (tBM K "list" a3O (b5 3) (a8 (tOp qIx (b5 1) (b5 4)) d6)))) E6))) (L5 (b5 2))))
def a1w(K:Fg):Sp:=spD 2 5 (b2U K)
def b5x(K:Fg):TS:=z4 (fun D σ H=>(T5 (a0b K (b5 0)) U4 (Y2 d6)) σ H fun v H1=>D.nx (σ.set 1 (some v)) H1) (z4 (a3X (a9U K (a8 (b5 0) d6)) (b4A K 2 (a2V (v0 2) (a2V (v0 3) (b4B)))) (a3X (a0b K (b5 3)) (v0 4) (a0a (tBM K "list" a1q (tOp qIx (b5 1) (b5 4)) (a8 (b5 2) d6))))) (L5 (b5 1)))
def a4q(K:Fg):Sp:=spD 1 5 (b5x K)
def b0S(K:Fg):TS:=L5 (a7f K (a9U K (a8 (b5 0) d6)) (D7 (tOp qEq (tCB R0 (a8 (b5 1) d6)) (tC (.int 0)))) (b5 0))
def a2D(K:Fg):Sp:=spD 1 1 (b0S K)
def a7T(K:Fg):TS:=z4 (G5 (u8 (a1w K) [] E0 (a8 (Y2 (a8 (tC (.int 0)) d6)) (a8 (b5 0) d6))) (v0 1)) (z4 (G5 (u8 (a1w K) [] E0 (a8 (u8 (a2D K) [] E0 (a8 (b5 0) d6)) (a8 (u8 (a4q K) [] E0 (a8 (b5 0) d6)) d6))) (v0 2)) (a3X (a2H (a8 (tCB R0 (a8 (b5 0) d6)) d6)) (v0 3) (M0 (tOr (tB (a3J (b5 3) (b5 1))) (tB (a3J (b5 3) (b5 2)))) (fun _ _ _=>False) E6)))
def a1h(K:Fg):Sp:=spD 1 4 (a7T K)
def b0T(K:Fg)(c:Cn):TS:=z4 (G5 (Y2 (a8 (tC (.ref c.a2i)) d6)) (v0 1)) (z4 (a3X (a9U K (a8 (b5 0) d6)) (b4A K 2 (a2V (v0 2) (a2V (v0 3) (b4B)))) (a0a (tBM K "list" a3O (b5 1) (a8 (T5 (a2H (a8 (tCB R0 (a8 (b5 3) d6)) d6)) U4 (a5s (a8 (b5 3) (a8 (b5 0) d6)))) d6)))) (L5 (b5 1)))
def a3L(K:Fg)(c:Cn):Sp:=spD 1 4 (b0T K c)
def a5k(K:Fg)(c:Cn):TS:=z4 (M0 (D7 (tOp (c9B K) (b5 1) (tC (.ref c.a2i)))) (L5 (tC (.int 0))) E6) (L5 (tOp qIx (tOp qIx (b2s K (b5 0) "nexts") (tOp qIx (b5 1) (tC (.int 0)))) (tOp qIx (b5 1) (tC (.int 1)))))
def a0P(K:Fg)(c:Cn):Sp:=spD 2 2 (a5k K c)
def a9M(K:Fg)(c:Cn):TS:=z4 (a0a (u8 (a0m K) [] E0 (a8 (b5 1) (a8 (tC (.int 0)) (a8 (tC (.int 1)) d6))))) (z4 (a0a (u8 (a0s K) [] E0 (a8 (T5 (a0b K (b5 1)) U4 (u8 (a0r K c) [] E0 (a8 (b5 0) d6))) d6))) (z4 (a0a (u8 (a0H K) [] E0 (a8 (b5 1) (a8 (b5 2) d6)))) (z4 (a0a (u8 (a1h K) [] E0 (a8 (b5 2) d6))) (z4 (c1m K (b5 0) (tCB a9Q (a8 (b5 1) d6)) "rows") (z4 (c1m K (b5 0) (T5 (a0b K (b5 2)) U4 (tCB a9Q (a8 (b5 0) d6))) "nexts") (z4 (c1m K (b5 0) (T5 (a0b K (b5 1)) U4 (Y2 d6)) "entries") (a3X (a0b K (u8 (a3L K c) [] E0 (a8 (b2s K (b5 0) "nexts") d6))) (v0 3) (a0a (tBM K "list" a1q (tOp qIx (b2s K (b5 0) "entries") (b5C c.S9 "leads_to" (a0P K c) [] E0 (b5 0) (a8 (b5 3) d6))) (a8 (b5 3) d6))))))))))
def a1U(K:Fg)(c:Cn):Sp:=spD 3 4 (a9M K c)
def a5l(K:Fg)(e:Xn)(E:XK):TS:=z4 (M0 (tOr (a5t (tB (tCB a4V (a8 (b5 0) (a8 (tC (.ty "list")) d6))))) (D7 (tOp qLt (tCB R0 (a8 (b5 0) d6)) (b5 2)))) (a3W e.C_Wrong (P4 K "at") (fun _=>E) (a8 (b5 1) d6)) E6) (M0 (D7 (tOp qGt (tCB R0 (a8 (b5 0) d6)) (tC (.int 400)))) (a3W e.C_TooMany (P4 K "most") (fun _=>E) (a8 (tC (.int 400)) d6)) E6)
def a0Q(K:Fg)(e:Xn):Sp:=spX 3 3 (a5l K e)
def a2r(K:Fg)(e:Xn):Sp:=b5H (a0m K) (a0Q K e)
def a6Q(K:Fg)(e:Xn)(E:XK):TS:=a3X (a9U K (a8 (b5 0) d6)) (b4A K 2 (a2V (v0 1) (a2V (v0 2) (b4B)))) (M0 (a5t (tB (b5 2))) (a3W e.C_NoThing (P4 K "at") (fun _=>E) (a8 (b5 1) d6)) E6)
def a3A(K:Fg)(e:Xn):Sp:=spX 1 3 (a6Q K e)
def a1V(K:Fg)(e:Xn):Sp:=b5H (a0s K) (a3A K e)
def a5M(K:Fg)(e:Xn)(E:XK):TS:=z4 (M0 (tOr (a5t (tB (tCB a4V (a8 (b5 1) (a8 (tC (.ty "list")) d6))))) (D7 (tOp qNe (tCB R0 (a8 (b5 1) d6)) (tCB R0 (a8 (b5 0) d6))))) (a3W e.C_Wrong (P4 K "at") (fun _=>E) (a8 (tC (.int 1)) d6)) E6) (a0a (a1Q (a1V K e) (fun _=>E) (a8 (a7f K (c1X K (a8 (b5 0) (a8 (b5 1) d6))) U4 (u8 (a0f K) [] E0 (a8 (b5 0) (a8 (b5 1) (a8 (tCB R0 (a8 (b5 2) d6)) d6))))) d6)))
def a1o(K:Fg)(e:Xn):Sp:=spX 2 2 (a5M K e)
def a2P(K:Fg)(e:Xn):Sp:=b5H (a0H K) (a1o K e)
def a6P(K:Fg)(e:Xn)(E:XK):TS:=z4 (G5 (u8 (a1w K) [] E0 (a8 (Y2 (a8 (tC (.int 0)) d6)) (a8 (b5 0) d6))) (v0 1)) (z4 (G5 (u8 (a1w K) [] E0 (a8 (u8 (a2D K) [] E0 (a8 (b5 0) d6)) (a8 (u8 (a4q K) [] E0 (a8 (b5 0) d6)) d6))) (v0 2)) (a3X (a2H (a8 (tCB R0 (a8 (b5 0) d6)) d6)) (v0 3) (M0 (tOr (tB (a3J (b5 3) (b5 1))) (tB (a3J (b5 3) (b5 2)))) (a3W e.C_NoWay (P4 K "at") (fun _=>E) (a8 (b5 3) d6)) E6)))
def a1W(K:Fg)(e:Xn):Sp:=spX 1 4 (a6P K e)
def a3z(K:Fg)(e:Xn):Sp:=b5H (a1h K) (a1W K e)
def a1R(K:Fg)(c:Cn)(e:Xn)(E:XK):TS:=z4 (a0a (a1Q (a2r K e) (fun _=>E) (a8 (b5 1) (a8 (tC (.int 0)) (a8 (tC (.int 1)) d6))))) (z4 (a0a (a1Q (a1V K e) (fun _=>E) (a8 (T5 (a0b K (b5 1)) U4 (u8 (a0r K c) [] E0 (a8 (b5 0) d6))) d6))) (z4 (a0a (a1Q (a2P K e) (fun _=>E) (a8 (b5 1) (a8 (b5 2) d6)))) (z4 (a0a (a1Q (a3z K e) (fun _=>E) (a8 (b5 2) d6))) b7D)))
def Y3(K:Fg)(c:Cn)(e:Xn):Sp:=spX 3 4 (a1R K c e)
def a3Z(K:Fg)(c:Cn)(e:Xn):Sp:=b5H (a1U K c) (Y3 K c e)
def a8R(K:Fg)(c:Cn):TS:=z4 (G5 (Y2 d6) (v0 1)) (z4 (G5 (Y2 d6) (v0 2)) (z4 (a3X (a0b K (tBM K "str" a7r (b5 0) (a8 (tC (.str "; ")) d6))) (v0 3) (z4 (fun D σ H=>(T5 (a0b K (tBM K "str" a7r (b5 3) (a8 (tC (.str " ")) d6))) U4 (u8 (a0D K) [] E0 (a8 (b5 0) d6))) σ H fun v H1=>D.nx (σ.set 4 (some v)) H1) (z4 (G5 (tIf (D7 (tOp (qIn false) (tC (.str ">")) (b5 4))) (tBM K "list" b4e (b5 4) (a8 (tC (.str ">")) d6)) (tCB R0 (a8 (b5 4) d6))) (v0 5)) (z4 (a0a (tBM K "list" a1q (b5 1) (a8 (u8 (a4r K) [] E0 (a8 (tSl qSl (b5 4) R6 (a1f (b5 5))) d6)) d6))) (a0a (tBM K "list" a1q (b5 2) (a8 (tSl qSl (b5 4) (a1f (tOp T9 (b5 5) (tC (.int 1)))) R6) d6))))))) (b5A K c.x.C_OnceError (fun EE=>L5 (b0X c.S9 (a3Z K c c.x) EE (a8 (b5 1) (a8 (b5 2) d6)))) (fun _ _ _=>L5 (tC .non)))))
def a2q(K:Fg)(c:Cn):Sp:=spD 1 6 (a8R K c)
def c3k(K:Fg)(c:Cn):TS:=z4 (M0 (a5t (tB (tCB a4V (a8 (b5 0) (a8 (tC (.ty "str")) d6))))) (fun _ _ _=>False) E6) (z4 (G5 (u8 (a2q K c) [] E0 (a8 (b5 0) d6)) (v0 1)) (z4 (M0 (tOr (D7 (tOp qIs (b5 1) (tC .non))) (D7 (tOp qNe (u8 (a3x K) [] E0 (a8 (b5 1) d6)) (b5 0)))) (fun _ _ _=>False) E6) (L5 (b5 1))))
def a7X(K:Fg)(c:Cn):Sp:=spD 1 2 (c3k K c)
def b9z(K:Fg)(c:Cn)(e:Xn)(E:XK):TS:=z4 (M0 (a5t (tB (tCB a4V (a8 (b5 0) (a8 (tC (.ty "str")) d6))))) (b0h e.C_NoText (fun _=>E)) E6) (z4 (G5 (u8 (a2q K c) [] E0 (a8 (b5 0) d6)) (v0 1)) (z4 (M0 (tOr (D7 (tOp qIs (b5 1) (tC .non))) (D7 (tOp qNe (u8 (a3x K) [] E0 (a8 (b5 1) d6)) (b5 0)))) (b0h e.C_NoText (fun _=>E)) E6) (L5 (b5 1))))
def a5O(K:Fg)(c:Cn)(e:Xn):Sp:=spX 1 2 (b9z K c e)
def qX(K:Fg)(x C:Addr)(dx:Option Addr):List V->Hp->VK->Prop:=fun vs H Q=>b4U dx H/\c9z K x C vs H Q
def qXT(K:Fg)(x C:Addr)(dx:Option Addr):List V->Hp->VK->Prop:=fun vs H Q=>b4U dx H/\c3X K x C vs H Q
def b0Q(K:Fg)(e:Xn)(x C:Addr)(dx:Option Addr):TS:=
 z4 (M0 (tB (tCB (qXT K x C dx) (a8 (b5 2) (a8 (a5s (a8 (tC (.ref e.C_NoThing)) (a8 (tC (.ref e.C_NoWay)) (a8 (tC (.ref e.C_TooMany)) (a8 (tC (.ref e.C_Wrong)) d6))))) d6)))) (L5 (tC (.bl false))) E6)
 (G5 (a1g (tCB (qX K x C dx) (a8 (b5 2) (a8 (tC (.ref e.C_NoText)) d6))) (tCB (qX K x C dx) (a8 (b5 2) (a8 (tC (.ty "ValueError")) d6)))) (v0 1))
def b2T(K:Fg)(c:Cn):TS:=z4 (G5 (tC (.bl false)) (v0 1)) (z4 (b9x K c.x.C_OnceError 2 (fun EE=>a0a (a1Q (a5O K c c.x) EE (a8 (b5 0) d6))) (b0Q K c.x)) (L5 (b5 1)))
def a3y(K:Fg)(c:Cn):Sp:=spD 1 3 (b2T K c)
def c3m(K:Fg)(c:Cn):TS:=z4 (G5 (u8 (b3N K) [] E0 (a8 (b5 0) d6)) (v0 1)) (z4 (G5 (u8 (a8a K) [] E0 (a8 (b5 1) d6)) (b4A K 2 (a2V (v0 2) (a2V (v0 3) (b4B))))) (z4 (G5 (u8 (a3x K) [] E0 (a8 (b2X c.S9 (a1U K c) [] E0 (a8 (b5 2) (a8 (b5 3) d6))) d6)) (v0 4)) (z4 (G5 (u8 (a6m K) [] E0 (a8 (b5 1) (a8 (b5 4) d6))) (v0 5)) (z4 (M0 (D7 (tOp qEq (u8 (D8 K) [] E0 (a8 (b5 1) (a8 (tC (.int 4)) d6))) (tC (.int 0)))) (G5 (u8 (a4L K) [] E0 (a8 (b5 1) d6)) (v0 5)) E6) (z4 (M0 (D7 (tOp qNe (u8 (a3x K) [] E0 (a8 (u8 (a7X K c) [] E0 (a8 (b5 4) d6)) d6)) (b5 4))) (L5 (tC (.bl false))) E6) (z4 (M0 (tOr (a5t (tB (u8 (a3y K c) [] E0 (a8 (b5 5) d6)))) (a5t (tB (u8 (a3y K c) [] E0 (a8 (b5 5) d6))))) (L5 (tC (.bl false))) E6) (z4 (G5 (u8 (a7X K c) [] E0 (a8 (b5 4) d6)) (v0 6)) (L5 (a1g (tOp (c6z K) (b2s K (b5 6) "rows") (b5 2)) (tOp (c6z K) (b2s K (b5 6) "nexts") (b5 3)))))))))))
def b1b(K:Fg):Sp:=fun vs H Q _=>vs.length=1/\∀c,a4y K c->c3m K c { nx:=fun _ H'=>Q .non H',rt:=Q } (vs.map some++u6 (7 - vs.length) none) H
end RD
local macro_rules | `(tactic| walk_at "st") => `(tactic| (with_reducible first
 | refine RD.d1T ?_ | refine RD.b3X ?_ | refine RD.c9m ?_ | refine RD.b9F ?_ | refine RD.b3Y ?_ | refine RD.d3i ?_ | refine RD.c9j ?_ | refine RD.c9f ?_ | refine RD.d3e ?_ | refine RD.d1O ?_ | refine RD.d1U ?_ | refine RD.d3g ?_ | refine RD.c3K ?_ | refine RD.d1N ?_ | refine RD.c9i ?_ | refine RD.d1Q ?_ | refine RD.d3h ?_ | refine RD.b9H ?_ | refine RD.s_un ?_ | refine RD.s_neg ?_ | refine RD.s_c ?_ | refine RD.a9a ?_ | refine RD.b3c ?_ | refine RD.c3J ?_ | refine RD.d3j ?_ | refine RD.d1M ?_ | refine RD.d1P ?_ | refine RD.d3f ?_ | refine RD.c9h ?_ | refine RD.c3G ?_ | refine RD.s_rev ?_ | refine RD.b7R ?_ | refine RD.c9n ?_ | refine RD.d1R ?_
 | refine RD.a9P (by with_unfolding_all rfl) ?_ | refine Exists.intro _ (And.intro (Eq.refl (L2.V.bl _)) ?_) | refine Exists.intro _ (And.intro (Eq.refl (L2.V.int _)) ?_)
 | refine RD.d2d ?_ | refine RD.c9x ?_ | refine RD.d3o ?_ | refine RD.d2e ?_ | refine RD.d3p rfl ?_ | refine RD.d3n rfl ?_))
local macro_rules | `(tactic| walk_at "ev") => `(tactic| repeat walk_at "st")
local macro_rules | `(tactic| walk_at "go") => `(tactic| repeat (first | with_reducible refine RD.a0X ?_ | walk_at "st"))
local macro_rules | `(tactic| ext) => `(tactic| walk_at "ev")
local macro_rules | `(tactic| exists $t:term) => `(tactic| (refine $t; walk_at "ev"))
local macro_rules | `(tactic| specialize $t:term) => `(tactic| (with_reducible refine $t; walk_at "ev"))
local macro_rules | `(tactic| exact_mod_cast $t:term) => `(tactic| with_reducible refine $t)
local macro_rules | `(tactic| nofun) => `(tactic| (with_reducible refine RD.a0X ?_; walk_at "ev"))
namespace RD
open PySem PySem.Spec L2
variable{C D a b c d dx na p ra:Addr}{H H' H0 H1:Hp}{o:HO}{r vs ws xs ys:List V}{σ:St}{ta te:TE}{tt:TT}{Q:VK}{v:V}{i j m n t:Nat}{f:V->List V->Hp->VK->Prop}{y z:Str}{ks l:List Nat}{hi lo:Option Int}{QD:Hp->Prop}{R:It->Hp->Prop}{M N:Nt}{ns:List Int}{as rs:List Addr}{Ws:List (List V)}
section
theorem b7V(h:ta σ H fun v H2=>∃x,v=.str x/\R (Its x) H2):c4X ta σ H R:=h
theorem b1Y{x:Str}(Pv:Nat->List V->Hp->Prop)(h0:Pv 0 [] (upd H1 D (.lst [])))(hP:∀i ys H,Pv i ys H->H D=some (.lst ys))
  (step:∀i c ys H2,x.cps[i]? = some c->Pv i ys H2->∀(R:VK) (R':Hp->Prop),(∀y H5,H5 D=some (.lst ys)->ys.length<j7->Pv (i+1) (ys++[y]) (upd H5 D (.lst (ys++[y])))->R y H5)->(∀H4,Pv (i+1) ys H4->R' H4) ->
   tt (some (.str ⟨#[c]⟩)::σ) H2 fun ok H4=>if ok=true then te (some (.str ⟨#[c]⟩)::σ) H4 R else R' H4)
  (done:∀ys H2,Pv x.length ys H2->QD H2) :
  ∃W:Nat->Nat->List V->Hp->Prop,(∃m,W 0 m [] (upd H1 D (.lst [])))/\∀i m ys H2,W i m ys H2->H2 D=some (.lst ys) /\
   (((Its x).stop i H2 /\ QD H2) \/ ((Its x).go i H2 /\ ∀ v H3,(Its x).yld i H2 v H3 -> tt (some v :: σ) H3 fun ok H4 => if ok = true then
     te (some v::σ) H4 (fun y H5=>H5 D=some (.lst ys)/\ys.length<j7/\∃m',m'<m/\W (i+1) m' (ys++[y]) (upd H5 D (.lst (ys++[y]))))
     else ∃m',m'<m/\W (i+1) m' ys H4)):=by
 refine⟨fun i m ys H=>m=x.length - i/\i<=x.length/\Pv i ys H,⟨x.length,rfl,K6 _,h0⟩,?_⟩
 rintro i m ys H2 ⟨rfl,hi,p⟩
 refine⟨hP i ys H2 p,?_⟩
 by_cases hlt:i<x.length
 ·refine .inr ⟨hlt,fun v H3 y=>?_⟩
  obtain⟨e,c,hc,ev⟩:=y
  subst e ev
  exact step i c ys _ hc p _ _ (fun y H5 h1 h2 h3=>⟨h1,h2,x.length - (i+1),by omega,rfl,hlt,h3⟩) fun H4 h=>⟨x.length - (i+1),by omega,rfl,hlt,h⟩
 ·have e:i=x.length:=by omega
  subst e
  exact .inl ⟨d9 _,done ys H2 p⟩
end
def sgn(S:Str)(c:Nat):Bool := !(Builtin.Str.occurrences S ⟨#[c]⟩ 0 S.length 1).isEmpty
theorem b1s{S:Str}{c:Nat}(h:Q (.bl (sgn S c)) H):qIn false (.str ⟨#[c]⟩) (.str S) H Q:=h
abbrev LET:Str := "abcdefghijklmnopqrstuvwxyz"
abbrev SGN:Str := "abcdefghijklmnopqrstuvwxyz0123456789"
theorem c3u:LET++("0123456789" : Str)=SGN:=by decide +kernel
def a1F(z:Str):Bool:=decide (1<=z.length)&&decide (z.length<=8)&&(match z.cps[0]? with | some c=>sgn LET c | none=>false)&&z.cps.toList.all (sgn SGN)
theorem a9T{K:Fg}{E:XK}(hz:z.length<=400)(k:∀H',t7 H H'->Q (.bl (a1F z)) H'):T6 K [.str z] H Q E:=by
 refine⟨rfl,?_⟩
 unfold a4o
 have hz':=small (show z.length<=100000 by omega)
 nofun
 exists Z7 (s := "str") rfl (by decide) ?_
 exists v7 (by decide) ?_
 exists a4T hz' ?_
 by_cases h1:1<=z.length
 case neg=>
  exists v7 (d4L (by omega)) ?_
  exists A8 rfl ?_
  have e:a1F z=false:=by unfold a1F;rw[d4L h1];simp
  rw[<-e]
  exact k H (t7.refl _)
 exists A8 (d4M (by omega)) ?_
 by_cases h8:z.length<=8
 case neg=>
  rw[d4L (show ¬((z.length:Int)<=8) by omega)]
  exists A8 rfl ?_
  have e:a1F z=false:=by unfold a1F;rw[d4L h8];simp
  rw[<-e]
  exact k H (t7.refl _)
 rw[d4M (show(z.length:Int)<=8 by omega)]
 exists v7 rfl ?_
 have hl:z.cps.toList.length=z.length:=z9
 obtain⟨c0,hc0,hc1⟩:=a1A (xs:=z.cps.toList) (i:=0) (by decide) (by omega)
 have hc2:z.cps[0]? = some c0:=by rw[<-O3];exact hc1
 exists b1q hz' hc0 ?_
 have en:a1F z=(sgn LET c0&&z.cps.toList.all (sgn SGN)):=by
  unfold a1F
  rw[d4M h1,d4M h8,hc2]
  simp
 refine b1s (S:=LET) ?_
 refine⟨_,rfl,?_⟩
 cases hs:sgn LET c0 with
 | false=>
  refine d0R ?_
  have e:a1F z=false:=by rw[en,hs];rfl
  rw[<-e]
  exact k H (t7.refl _)
 | true=>
  exists b1O ?_
  specialize T7 (b7V ?_)
  refine⟨z,rfl,fun D hD=>?_⟩
  refine b1Y (fun i ys H2=>ys=(z.cps.toList.take i).map (fun c=>V.bl (sgn SGN c))/\H2=upd H D (.lst ys)) ⟨by simp,rfl⟩ ?_ ?_ ?_
  ·rintro i ys _ ⟨_,rfl⟩
   exact c7
  ·rintro i c ys _ hc ⟨rfl,rfl⟩ R R' hR hR'
   have hc':z.cps.toList[i]? = some c:=by rw[O3];exact hc
   ext
   exists b1O ?_
   refine a9e (small (by decide +kernel)) ?_
   have e:(("abcdefghijklmnopqrstuvwxyz" : Str)++("0123456789" : Str))=SGN:=c3u
   rw[e]
   refine b1s (S:=SGN) ?_
   refine hR (.bl (sgn SGN c)) _ c7 (K0 ?_) ⟨?_,?_⟩
   ·rw[a9,E1];omega
   ·rw[C7,hc'];simp
   ·rw[a6k]
  ·rintro ys _ ⟨rfl,rfl⟩
   ext
   have eb:R7 ((z.cps.toList.take z.length).map (fun c=>V.bl (sgn SGN c)))=some ((z.cps.toList.take z.length).map (sgn SGN)):=by
    generalize z.cps.toList.take z.length=l
    induction l with
    | nil=>rfl
    | cons a r ih=>simp[R7,ih]
   have ea:((z.cps.toList.take z.length).map (sgn SGN)).all id=a1F z:=by
    rw[en,hs,Z9,w6 (by omega),a6D]
    rfl
   refine(show a8n [.ref D] _ _ from ?_)
   unfold a8n
   simp only[c7]
   refine⟨_,eb,?_⟩
   rw[ea]
   exact k _ (u0 hD)
def NmS(s:Str):Prop:=a1F s=true/\s.length<=8
def OpN(v:V):Prop:=(∃s,v=.str s/\NmS s)\/∃n:Int,v=.int n/\0<=n/\n<1000000000000
theorem OpN.flat{v:V}(h:OpN v):K8 v=true:=by
 rcases h with ⟨s,rfl,_⟩ | ⟨n,rfl,_⟩ <;> rfl
abbrev a5p:List Str:=["plus","minus","times","less","same"]
def a8F(H:Hp)(p:Addr):Prop:=∃k v1 v2,H p=some (.tup [.str k,v1,v2])/\OpN v1/\OpN v2/\k∈a5p
theorem a8F.ts(h:a8F H p)(t:a0o H H'):a8F H' p:=by
 obtain⟨k,v1,v2,h,a,b,c⟩:=h
 exact⟨k,v1,v2,t _ _ h,a,b,c⟩
inductive a9C(H:Hp):List V->Prop
 | set (n:Str) (p:Addr):NmS n->a8F H p->a9C H [.str "set",.str n,.ref p]
 | copy (n:Str) (v:V):NmS n->OpN v->a9C H [.str "copy",.str n,v]
 | take (n:Str):NmS n->a9C H [.str "take",.str n]
 | tell (v:V):OpN v->a9C H [.str "tell",v]
 | ask (v:V):OpN v->a9C H [.str "ask",v]
 | skip:a9C H [.str "skip"]
theorem a9C.ts(h:a9C H xs)(t:a0o H H'):a9C H' xs:=by
 cases h with
 | set n p a d=>exact .set n p a (d.ts t)
 | copy n v a o=>exact .copy n v a o
 | take n a=>exact .take n a
 | tell v o=>exact .tell v o
 | ask v o=>exact .ask v o
 | skip=>exact .skip
def a5u(H:Hp)(v:V)(ask:Bool):Prop:=∃p xs,v=.ref p/\H p=some (.tup xs)/\a9C H xs/\(∃k r,xs=.str k::r/\decide ((k:Str) = "ask")=ask)
theorem a5u.ts{a:Bool}(h:a5u H v a)(t:a0o H H'):a5u H' v a:=by
 obtain⟨p,xs,rfl,h,r,q⟩:=h
 exact⟨p,xs,rfl,t _ _ h,r.ts t,q⟩
theorem d0U{n:Int}(k:Q (.bl true) H) :
  L5 (a1g (tCB a4V (a8 (b5 0) (a8 (tC (.ty "int")) d6))) (b5B (tCB a4V (a8 (b5 0) (a8 (tC (.ty "bool")) d6))))) { nx:=fun _ H'=>Q .non H',rt:=Q } [some (.int n)] H:=by
 ext
 exists Z7 (s := "int") rfl (by decide) ?_
 exists A8 (by decide) ?_
 exists Z7 (s := "int") rfl (by decide) ?_
 exact k
theorem a8u{K:Fg}{n:Int}{E:XK}(k:Q (.bl true) H):a0F K [.int n] H Q E:=⟨rfl,d0U k⟩
theorem b4v{K:Fg}{n:Int}{E:XK}(h0:0<=n)(h1:n<1000000000000)(k:Q (.bl true) H):a2E K [.int n] H Q E:=by
 refine⟨rfl,?_⟩
 unfold a7d
 ext
 refine a8u ?_
 exists ⟨_,rfl,b1O ?_⟩
 exists A8 (d4M h0) ?_
 show Q (.bl (decide (n<1000000000000))) H
 rw[d4M h1]
 exact k
theorem b4w{K:Fg}{n m:Int}{E:XK}(h0:0<=n)(h1:n<m)(k:Q (.bl true) H):a2F K [.int n,.int m] H Q E:=by
 refine⟨rfl,?_⟩
 unfold a7e
 ext
 refine a8u ?_
 exists ⟨_,rfl,b1O ?_⟩
 exists A8 (d4M h0) ?_
 show Q (.bl (decide (n<m))) H
 rw[d4M h1]
 exact k
theorem a4Y{K:Fg}{E:XK}(h:NmS z)(k:∀H',t7 H H'->Q (.bl true) H'):T6 K [.str z] H Q E:=by
 refine a9T (by have:=h.2;omega) fun H' s=>?_
 rw[h.1]
 exact k H' s
theorem b6H{K:Fg}{n:Int}{E:XK}(k:Q (.bl false) H):T6 K [.int n] H Q E:=by
 refine⟨rfl,?_⟩
 unfold a4o
 nofun
 exists Z7 (s := "int") rfl (by decide) ?_
 refine A8 (by decide) ?_
 exists A8 rfl ?_
 exact k
theorem a1k{K:Fg}{E:XK}(h:OpN v)(k:∀H',t7 H H'->Q (.bl true) H'):V3 K [v] H Q E:=by
 refine⟨rfl,?_⟩
 unfold a4I
 ext
 rcases h with ⟨s,rfl,hs⟩ | ⟨n,rfl,h0,h1⟩
 ·refine a4Y hs fun G s=>?_
  exact⟨_,rfl,b1O (k G s)⟩
 ·refine b6H ?_
  exists ⟨_,rfl,d0R ?_⟩
  exact b4v h0 h1 (k H (t7.refl _))
theorem c4T{k:Str}(h:k∈a5p):inV (.str k) [.str "plus",.str "minus",.str "times",.str "less",.str "same"]=true:=by
 simp only[a5p,c5,p8,or_false]at h
 rcases h with rfl | rfl | rfl | rfl | rfl <;> decide +kernel
theorem b8M{K:Fg}{c:Cn}{E:XK}(ck:a4y K c)(h:a8F H p)(k:∀H',t7 H H'->Q (.bl true) H'):a0G K c [.ref p] H Q E:=by
 obtain⟨kd,v1,v2,hp,o1,o2,hk⟩:=h
 refine⟨rfl,?_⟩
 unfold a4p
 nofun
 exists Z7 (s := "tuple") (by simp only[J9,hp]) (by decide) ?_
 exists v7 (by decide) ?_
 exists a0v hp ?_
 exists v7 (by simp) ?_
 exists Z6 hp (a3g _ _) ?_
 refine⟨_,_,rfl,ck.a5h H,rfl,rfl,?_⟩
 exists ⟨_,rfl,A8 (c4T hk) ?_⟩
 exists Z6 hp (a8B _ _ _) ?_
 refine a1k o1 fun G1 s1=>?_
 exists ⟨_,rfl,b1O ?_⟩
 exists Z6 (s1 _ _ hp) (c8c _ _ _ _) ?_
 exact a1k o2 fun G2 s2=>k G2 (s1.trans s2)
theorem d1a(a:V)(r:List V):a1J (a::r) (some 1) none=r:=by
 unfold a1J
 have e:HT.sIx (a::r).length 0 (some 1)=1:=by
  have:=HT.a4R (a::r).length 0 1
  rw[show((1:Nat):Int)=1 from rfl]at this
  rw[this,j9]
  omega
 rw[e]
 show List.take ((a::r).length - 1) r=r
 rw[w6 (by simp)]
theorem b1E(a:V)(r:List V):¬(HT.sIx (a::r).length 0 (some 1)=0/\HT.sIx (a::r).length (a::r).length none=(a::r).length):=by
 intro h
 have e:HT.sIx (a::r).length 0 (some 1)=1:=by
  have:=HT.a4R (a::r).length 0 1
  rw[show((1:Nat):Int)=1 from rfl]at this
  rw[this,j9]
  omega
 omega
theorem b3n{K:Fg}{c:Cn}{a:Bool}{E:XK}(ck:a4y K c)(h:a5u H v a)(k:∀H',t7 H H'->Q (.bl true) H'):a0r K c [v] H Q E:=by
 obtain⟨p,xs,rfl,hp,hr,kd,r,rfl,_⟩:=h
 refine⟨rfl,?_⟩
 unfold a5J
 nofun
 exists Z7 (s := "tuple") (by simp only[J9,hp]) (by decide) ?_
 exists v7 (by decide) ?_
 exists a0v hp ?_
 exists v7 (d4L (by intro z;have:=V.int.inj z;rw[j9]at this;omega)) ?_
 nofun
 exists Z6 hp (a3g _ _) ?_
 nofun
 refine c3U hp (b1E _ _) fun q G hq e s=>?_
 rw[d1a]at e
 ext
 have hr:=hr.ts (t7.ts s)
 cases hr with
 | set n d hn hd=>
  nofun
  exists A8 (by decide) ?_
  exists a0v e ?_
  exists A8 (by simp) ?_
  exists Z6 e (a3g _ _) ?_
  refine a4Y hn fun G1 s1=>?_
  exists ⟨_,rfl,b1O ?_⟩
  exists Z6 (s1 _ _ e) (a8B _ _ _) ?_
  exact b8M ck (hd.ts (t7.ts s1)) fun G2 s2=>k G2 ((s.trans s1).trans s2)
 | copy n v hn ho=>
  nofun
  exists v7 (by decide) ?_
  nofun
  exists A8 (by decide) ?_
  exists a0v e ?_
  exists A8 (by simp) ?_
  exists Z6 e (a3g _ _) ?_
  refine a4Y hn fun G1 s1=>?_
  exists ⟨_,rfl,b1O ?_⟩
  exists Z6 (s1 _ _ e) (a8B _ _ _) ?_
  exact a1k ho fun G2 s2=>k G2 ((s.trans s1).trans s2)
 | take n hn=>
  nofun
  exists v7 (by decide) ?_
  nofun
  exists v7 (by decide) ?_
  nofun
  exists A8 (by decide) ?_
  exists a0v e ?_
  exists A8 (by simp) ?_
  exists Z6 e (a3g _ _) ?_
  exact a4Y hn fun G1 s1=>k G1 (s.trans s1)
 | tell v ho=>
  nofun
  exists v7 (by decide) ?_
  nofun
  exists v7 (by decide) ?_
  nofun
  exists v7 (by decide) ?_
  nofun
  refine D9 (by simp) fun q2 G2 hq2 e2 s2=>?_
  exists b1r e2 rfl rfl ?_
  exists A8 (by decide +kernel) ?_
  exists a0v (s2 _ _ e) ?_
  exists A8 (by simp) ?_
  exists Z6 (s2 _ _ e) (a3g _ _) ?_
  exact a1k ho fun G1 s1=>k G1 ((s.trans s2).trans s1)
 | ask v ho=>
  nofun
  exists v7 (by decide) ?_
  nofun
  exists v7 (by decide) ?_
  nofun
  exists v7 (by decide) ?_
  nofun
  refine D9 (by simp) fun q2 G2 hq2 e2 s2=>?_
  exists b1r e2 rfl rfl ?_
  exists A8 (by decide +kernel) ?_
  exists a0v (s2 _ _ e) ?_
  exists A8 (by simp) ?_
  exists Z6 (s2 _ _ e) (a3g _ _) ?_
  exact a1k ho fun G1 s1=>k G1 ((s.trans s2).trans s1)
 | skip=>
  nofun
  exists v7 (by decide) ?_
  nofun
  exists v7 (by decide) ?_
  nofun
  exists v7 (by decide) ?_
  nofun
  refine D9 (by simp) fun q2 G2 hq2 e2 s2=>?_
  exists b1r e2 rfl rfl ?_
  exists v7 (by decide +kernel) ?_
  exists A8 (by decide) ?_
  exists a0v (s2 _ _ e) ?_
  have e0:decide (V.int ((([]:List V).length:Nat):Int)=V.int 0)=true:=by decide
  rw[e0]
  exact k G2 (s.trans s2)
theorem ix0{α:Type}(a b c d:α):ixN [a,b,c,d].length 0=some 0:=by
 show ixN 4 0=some 0
 decide
theorem ix1{α:Type}(a b c d:α):ixN [a,b,c,d].length 1=some 1:=by
 show ixN 4 1=some 1
 decide
theorem ix2{α:Type}(a b c d:α):ixN [a,b,c,d].length 2=some 2:=by
 show ixN 4 2=some 2
 decide
structure b2j(H:Hp)(b:Addr)(i0 i1 i2:Int)(c:Addr)(ns:List Int):Prop where
 hb:H b=some (.lst [.int i0,.int i1,.int i2,.ref c])
 hc:H c=some (.lst (ns.map V.int))
 p0:0<=i0
 p1:0<=i1
 p1':i1<2147483647
 p2:0<=i2
 pn:∀x∈ns,0<=x
theorem b2j.bag{i0 i1 i2:Int}(h:b2j H b i0 i1 i2 c ns):Bag H b c:=⟨i0,i1,i2,ns,h.hb,h.hc,h.p0,h.p1,h.p1',h.p2,h.pn⟩
theorem Bag.parts(h:Bag H b c):∃i0 i1 i2 ns,b2j H b i0 i1 i2 c ns:=by
 obtain⟨i0,i1,i2,ns,h1,h2,h3,h4,h5,h6,h7⟩:=h.ex
 exact⟨i0,i1,i2,ns,h1,h2,h3,h4,h5,h6,h7⟩
theorem b2j.ne{i0 i1 i2:Int}(h:b2j H b i0 i1 i2 c ns):c≠b:=R1 h.hc h.hb (by
  intro z
  have z:=HO.lst.inj z
  cases ns with
  | nil=>cases z
  | cons a r=>cases r with
   | nil=>cases z
   | cons a2 r=>cases r with
    | nil=>cases z
    | cons a3 r=>cases r with
     | nil=>cases z
     | cons a4 r=>simp at z)
theorem b2j.put{i0 i1 i2 j0 j1 j2:Int}(h:b2j H b i0 i1 i2 c ns)(q0:0<=j0)(q1:0<=j1)(q1':j1<2147483647)(q2:0<=j2) :
  b2j (upd H b (.lst [.int j0,.int j1,.int j2,.ref c])) b j0 j1 j2 c ns:=⟨c7,by rw[g7 h.ne];exact h.hc,q0,q1,q1',q2,h.pn⟩
theorem F2{K:Fg}{many:Int}{E:XK}(hB:Bag H b c)(h0:0<many)(h1:many<2 ^ 64)
  (k:∀n H',0<=n->n<many->Bag H' b c->D1 b H H'->Q (.int n) H'):D8 K [.ref b,.int many] H Q E:=by
 obtain⟨i0,i1,i2,ns,B⟩:=hB.parts
 refine⟨rfl,?_⟩
 unfold c3i
 refine a0n (P:=fun σ H1=>∃x2 x3 j0 j1 j2,σ=[some (.ref b),some (.int many),x2,x3,none,none,none]/\b2j H1 b j0 j1 j2 c ns/\D1 b H H1) ?_ ?_
 ·-- the second part
  rintro _ H1 ⟨x2,x3,j0,j1,j2,rfl,B1,k1⟩
  refine a0n (P:=fun σ H2=>H2=H1/\σ=[some (.ref b),some (.int many),x2,x3,none,none,none]) ?_ ?_
  ·rintro _ _ ⟨rfl,rfl⟩
   walk_at "go"
   refine M4 B1.hb (a8B _ _ _) ?_
   walk_at "go"
   refine a2G (.inr (by omega)) ?_
   walk_at "go"
   refine a2G (by omega) ?_
   walk_at "go"
   have g1:=Z4 (j1 * 39373) (show(1000000007:Int)≠0 by decide)
   have g2:=X9 (j1 * 39373) (show(0:Int)<1000000007 by decide)
   refine a2G (.inr (by omega)) ?_
   walk_at "go"
   refine a2G (by omega) ?_
   walk_at "go"
   have g3:=Z4 (j1 * 39373 % 1000000007 * 30011) (show(998244353:Int)≠0 by decide)
   have g4:=X9 (j1 * 39373 % 1000000007 * 30011) (show(0:Int)<998244353 by decide)
   refine Y8 (fun _=>?_) (fun _=>?_)
   ·walk_at "go"
    refine a2G (.inr (by omega)) ?_
    walk_at "go"
    refine a2G h0 ?_
    exact k _ _ (Z4 _ (by omega)) (X9 _ h0) B1.bag k1
   ·walk_at "go"
    refine a2G (by omega) ?_
    walk_at "go"
    refine a2G h0 ?_
    exact k _ _ (Z4 _ (by omega)) (X9 _ h0) B1.bag k1
  ·intro nx hnx
   walk_at "go"
   refine M4 B1.hb (a3g _ _) ?_
   walk_at "go"
   refine Y8 (fun _=>?_) (fun _=>?_)
   ·walk_at "go"
    refine M4 B1.hb (a3g _ _) ?_
    walk_at "go"
    refine a2G h0 ?_
    walk_at "go"
    refine M4 B1.hb (a3g _ _) ?_
    walk_at "go"
    refine a2G ⟨h0,h1⟩ ?_
    walk_at "go"
    refine b9P B1.hb (ix0 _ _ _ _) ?_
    walk_at "go"
    refine k _ _ (Z4 _ (by omega)) (X9 _ h0) (B1.put (Int.ediv_nonneg B1.p0 (by omega)) B1.p1 B1.p1' B1.p2).bag (k1.trans (D1.upd _ _ _))
   ·walk_at "go"
    exact hnx _ _ ⟨rfl,rfl⟩
 ·intro nx hnx
  walk_at "go"
  refine M4 B.hb (a3g _ _) ?_
  walk_at "go"
  refine Y8 (fun e=>?_) (fun _=>?_)
  ·have e:i0=0:=by simpa using e
   subst e
   nofun
   exact_mod_cast a0n (P:=fun σ H1=>∃m x3 j0 j2,σ=[some (.ref b),some (.int many),some (.int m),x3,none,none,none]/\b2j H1 b j0 i1 j2 c ns/\D1 b H H1/\0<=m) ?_ ?_
   ·rintro _ H1 ⟨m,x3,j0,j2,rfl,B1,k1,hm⟩
    walk_at "go"
    refine M4 B1.hb (a8B _ _ _) ?_
    walk_at "go"
    refine a2G (.inr (by omega)) ?_
    walk_at "go"
    refine a2G (by omega) ?_
    walk_at "go"
    refine b9P B1.hb (ix1 _ _ _ _) ?_
    have g1:=Z4 (i1 * 48271+m) (show(2147483647:Int)≠0 by decide)
    have g2:=X9 (i1 * 48271+m) (show(0:Int)<2147483647 by decide)
    exact hnx _ _ ⟨_,x3,j0,_,j2,rfl,B1.put B1.p0 g1 g2 B1.p2,k1.trans (D1.upd _ _ _)⟩
   ·intro nx2 hnx2
    walk_at "go"
    refine M4 B.hb (c8c _ _ _ _) ?_
    walk_at "go"
    refine M4 B.hb (d2K _ _ _ _ _) ?_
    walk_at "go"
    refine K5 B.hc ?_
    walk_at "go"
    refine Y8 (fun e=>?_) (fun _=>?_)
    ·have e:i2<(ns.length:Int):=by simpa using e
     obtain⟨v,ev,ev2⟩:=a1A (xs:=ns.map V.int) B.p2 (by simpa using e)
     obtain⟨z,ez,rfl⟩:∃z,ns[i2.toNat]? = some z/\v=V.int z:=by
      rw[c8]at ev2
      cases q:ns[i2.toNat]? with
      | none=>rw[q]at ev2;cases ev2
      | some z=>rw[q]at ev2;exact⟨z,rfl,(Option.some.inj ev2).symm⟩
     have hz:0<=z:=B.pn z (mI ez)
     walk_at "go"
     refine M4 B.hb (d2K _ _ _ _ _) ?_
     walk_at "go"
     refine M4 B.hb (c8c _ _ _ _) ?_
     walk_at "go"
     refine M4 B.hc ev ?_
     walk_at "go"
     exists d2b B.hb (by decide) rfl ?_
     refine b9P B.hb (ix2 _ _ _ _) ?_
     have B2:=B.put (j0:=0) (j1:=i1) (j2:=i2+1) (Int.le_refl _) B.p1 B.p1' (by have:=B.p2;omega)
     exact_mod_cast a0n (P:=fun σ H1=>∃j0,σ=[some (.ref b),some (.int many),some (.int 12345),some (.int z),none,none,none]/\b2j H1 b j0 i1 (i2+1) c ns/\D1 b H H1) ?_ ?_
     ·rintro _ H1 ⟨j0,rfl,B1,k1⟩
      walk_at "go"
      refine a2G (by omega) ?_
      walk_at "go"
      have g1:=Z4 z (show(2147483647:Int)≠0 by decide)
      exact hnx2 _ _ ⟨_,_,j0,_,rfl,B1,k1,by omega⟩
     ·intro nx3 hnx3
      walk_at "go"
      refine Y8 (fun _=>?_) (fun _=>?_)
      ·walk_at "go"
       refine b9P B2.hb (ix0 _ _ _ _) ?_
       refine hnx3 _ _ ⟨z,rfl,?_,(D1.upd _ _ _).trans (D1.upd _ _ _)⟩
       exact B2.put hz B.p1 B.p1' (by have:=B.p2;omega)
      ·walk_at "go"
       exact hnx3 _ _ ⟨0,rfl,B2,D1.upd _ _ _⟩
    ·walk_at "go"
     exact hnx2 _ _ ⟨_,_,0,i2,rfl,B,D1.refl _ _,by decide⟩
  ·walk_at "go"
   exact hnx _ _ ⟨_,_,i0,i1,i2,rfl,B,D1.refl _ _⟩
theorem d1d{K:Fg}{E:XK}(hS:SqL K H a (ns.map V.int))(hl:ns.length<=63)
  (k:∀b c H',Bag H' b c->t7 H H'->H b=none->Q (.ref b) H'):b3N K [.ref a] H Q E:=by
 refine⟨rfl,?_⟩
 unfold c8A
 walk_at "go"
 exact_mod_cast T7 (Z5 ?_)
 walk_at "go"
 refine⟨a,_,rfl,hS,fun p hp=>⟨p,rfl,⟨_,SqL.of c7⟩,fun D hD=>?_⟩⟩
 have hcut:a1J (ns.map V.int) none (some 63)=ns.map V.int:=by
  unfold a1J
  have e:HT.sIx (ns.map V.int).length 0 none=0:=rfl
  have e2:HT.sIx (ns.map V.int).length (ns.map V.int).length (some 63)=ns.length:=by
   have:=HT.a4R (ns.map V.int).length (ns.map V.int).length 63
   rw[a9]at this ⊢
   rw[show((63:Nat):Int)=63 from rfl]at this
   rw[this];omega
  rw[e,e2,a4j,c2y,w6 (by simp)]
 rw[hcut]at hD ⊢
 have s1:t7 H (upd H p (.lst (ns.map V.int))):=u0 hp
 refine W8 (xs:=ns.map V.int) (fun i ys H2=>ys=(ns.take i).map (fun x=>V.int (if x<0 then -x else x))/\H2=upd (upd H p (.lst (ns.map V.int))) D (.lst ys)) ⟨by simp,rfl⟩ ?_ ?_ ?_ ?_
 ·rintro i ys _ ⟨_,rfl⟩
  exact c7
 ·rintro i ys _ _ ⟨_,rfl⟩
  refine SqL.of ?_
  rw[g7 (c6 c7 hD),c7]
 ·rintro i x ys _ hx ⟨rfl,rfl⟩ R hR
  rw[c8]at hx
  cases e:ns[i]? with
  | none=>rw[e]at hx;cases hx
  | some z=>
   rw[e]at hx
   cases hx
   ext
   refine hR _ _ c7 (K0 ?_) ⟨?_,?_⟩
   ·rw[a9,E1];omega
   ·rw[C7,e];simp
   ·rw[a6k]
 ·rintro ys _ ⟨rfl,rfl⟩
  ext
  refine D9 (by simp) fun b H4 hb hb4 s4=>?_
  rw[a9,w6 (d9 _)]at hb s4
  refine k b D _ ⟨0,1234567891,0,ns.map (fun x=>if x<0 then -x else x),hb4,?_,by decide,by decide,by decide,by decide,?_⟩ ?_ ?_
  ·rw[s4 D _ c7,G6];rfl
  ·intro x hx
   obtain⟨y,_,rfl⟩:=y7.mp hx
   split <;> omega
  ·exact(s1.trans (u0 hD)).trans s4
  ·exact(s1.trans (u0 hD)).free hb
structure a7G(H:Hp)(a:Addr):Prop where
 ex:∃ss:List Str,H a=some (.lst (ss.map V.str))/\ss≠[]/\ss.length<=8/\∀s∈ss,NmS s
theorem a7G.kept(h:a7G H a)(hB:Bag H b c)(k:D1 b H H'):a7G H' a/\a≠b:=by
 obtain⟨ss,h1,h2,h3,h4⟩:=h.ex
 obtain⟨i0,i1,i2,ns,hb,_⟩:=hB.ex
 have ne:a≠b:=R1 h1 hb (by
  intro z
  have z:=HO.lst.inj z
  cases ss with
  | nil=>exact h2 rfl
  | cons s r=>cases z)
 exact⟨⟨ss,k.1 a _ h1 ne,h2,h3,h4⟩,ne⟩
theorem c6j:∀c∈LET.cps.toList,sgn LET c=true:=by decide +kernel
theorem c6i:∀c∈SGN.cps.toList,sgn SGN c=true:=by decide +kernel
theorem c7B:∀c∈LET.cps.toList,sgn SGN c=true:=by decide +kernel
theorem b8F(cs:List Nat):Txt.join (Str.ofString "") (cs.map fun k=>(⟨#[k]⟩:Str))=⟨cs.toArray⟩:=by
 show Builtin.Str.glued ("") _=_
 rw[StrLaws.glued_eq_join]
 exact PyProof.Rows.join_ones cs
theorem d2w{ch:Nat}{cs:List Nat}(h1:ch∈LET.cps.toList)(h2:∀c∈cs,c∈SGN.cps.toList)(hl:cs.length<=7):NmS ((⟨#[ch]⟩:Str)++⟨cs.toArray⟩):=by
 have hlen:((⟨#[ch]⟩:Str)++⟨cs.toArray⟩).length=cs.length+1:=by
  rw[Str.length_append]
  show 1+cs.toArray.size=_
  rw[j6];omega
 have hc:((⟨#[ch]⟩:Str)++⟨cs.toArray⟩).cps=(ch::cs).toArray:=by
  rw[Str.cps_append]
  show #[ch]++cs.toArray=_
  simp
 refine⟨?_,by omega⟩
 unfold a1F
 rw[hlen,hc]
 have e0:(ch::cs).toArray[0]? = some ch:=by simp
 rw[e0]
 simp only[l9,decide_eq_true_eq,p9]
 refine⟨⟨⟨by omega,by omega⟩,c6j ch h1⟩,?_⟩
 intro c hcc
 have hcc:c∈ch::cs:=by simpa using hcc
 rcases c5.mp hcc with q | q
 ·subst q;exact c7B _ h1
 ·exact c6i c (h2 c q)
theorem c6g{ss:List Str}{s:Str}(h:∀s∈ss,NmS s)(hs:NmS s):∀t∈ss++[s],NmS t:=by
 intro t ht
 rcases j8.mp ht with q | q
 ·exact h t q
 ·rw[g8.mp q];exact hs
structure b7e(H:Hp)(a:Addr):Prop where
 ex:∃ps:List Addr,H a=some (.lst (ps.map V.ref))/\ps≠[]/\ps.length<=8/\∀p∈ps,a8F H p
theorem a6s(hB:Bag H b c)(h:H a=some (.lst (as.map V.ref))):a≠b:=by
 obtain⟨i0,i1,i2,ns,hb,_⟩:=hB.ex
 refine R1 h hb ?_
 intro z
 have z:=HO.lst.inj z
 cases as with
 | nil=>cases z
 | cons s r=>cases z
theorem b5L(hB:Bag H b c)(h:H a=some (.lst xs))(hl:xs.length<=3):a≠b:=by
 obtain⟨i0,i1,i2,ns,hb,_⟩:=hB.ex
 refine R1 h hb ?_
 intro z
 have z:=HO.lst.inj z
 rw[z]at hl
 simp at hl
theorem b7e.kept(h:b7e H a)(hB:Bag H b c)(k:D1 b H H'):b7e H' a:=by
 obtain⟨ps,h1,h2,h3,h4⟩:=h.ex
 exact⟨ps,k.1 a _ h1 (a6s hB h1),h2,h3,fun p hp=>(h4 p hp).ts (D1.ts k hB)⟩
structure F9(H:Hp)(a:Addr)(N:Nt):Prop where
 ex:∃as:List Addr,H a=some (.lst (as.map V.ref))/\as.length=N.length/\∀(i:Nat) x l,as[i]? = some x->N[i]? = some l->H x=some (.lst (IL l))
theorem F9.same(h:F9 H a N)(k:t7 H H'):F9 H' a N:=by
 obtain⟨as,h1,h2,h3⟩:=h.ex
 exact⟨as,k a _ h1,h2,fun i x l e1 e2=>k _ _ (h3 i x l e1 e2)⟩
theorem F9.kept(h:F9 H a N)(hB:Bag H b c)(hN:∀l∈N,l.length<=2)(k:D1 b H H'):F9 H' a N:=by
 obtain⟨as,h1,h2,h3⟩:=h.ex
 refine⟨as,k.1 a _ h1 (a6s hB h1),h2,fun i x l e1 e2=>?_⟩
 have q:=h3 i x l e1 e2
 refine k.1 _ _ q (b5L hB q ?_)
 rw[Q0]
 have:=hN l (mI e2)
 omega
theorem F9.at(h:F9 H a N){k:Nat}(e:N[k]? = some l):∃(xs:List V) (x:Addr),H a=some (.lst xs)/\atI xs (k:Int)=some (.ref x)/\H x=some (.lst (IL l))/\xs.length=N.length:=by
 obtain⟨as,h1,h2,h3⟩:=h.ex
 have hk:k<as.length:=by rw[h2];exact(gI e)
 have e1:as[k]? = some as[k]:=by simp
 refine⟨_,as[k],h1,?_,h3 k _ l e1 e,by rw[a9,h2]⟩
 exact a2z (by rw[c8,e1];rfl)
theorem F9.len(h:F9 H a N):∃xs,H a=some (.lst xs)/\xs.length=N.length:=by
 obtain⟨as,h1,h2,h3⟩:=h.ex
 exact⟨_,h1,by rw[a9,h2]⟩
theorem c5F(e:l[j]? = some t):atI (IL l) (j:Int)=some (.int (t:Int)):=a2z (by unfold IL;rw[c8,e];rfl)
theorem b0q{K:Fg}{E:XK}(hB:Bag H b c)(ha:H a=some (.lst xs))(na:a≠b)(h0:xs≠[])(hl:xs.length<=100)
  (k:∀(n:Int) v H',atI xs n=some v->v∈xs->H' a=some (.lst xs)->Bag H' b c->D1 b H H'->Q (.int n) H'):D8 K [.ref b,.int xs.length] H Q E:=by
 have hp:0<xs.length:=A9.mpr h0
 refine F2 hB (by omega) (by omega) fun n H1 n0 n1 B1 k1=>?_
 obtain⟨v,hv,hv2⟩:=a1A (xs:=xs) n0 n1
 exact k n v H1 hv (mI hv2) (k1.1 _ _ ha na) B1 k1
theorem b7H{α:Type}(l:List α):l=[]\/∃r a,l=r++[a]:=by
 cases h:l.reverse with
 | nil=>left;simpa using h
 | cons a r=>
  right
  refine⟨r.reverse,a,?_⟩
  have:=congrArg List.reverse h
  simpa using this
structure b2H(H0 H:Hp)(b c D:Addr)(m:Nat)(as:List Addr)(N:Nt):Prop where
 bag:Bag H b c
 kept:D1 b H0 H
 hD:H D=some (.lst (as.map V.ref))
 nb:D≠b
 nc:D≠c
 len:as.length=N.length
 at_:∀(i:Nat) x l,as[i]? = some x->N[i]? = some l->H x=some (.lst (IL l))/\x≠D/\x≠b
 small:∀l∈N,l.length<=2/\∀t∈l,t<m
theorem b2H.next(h:b2H H0 H b c D m as N)(B:Bag H' b c)(k:D1 b H H'):b2H H0 H' b c D m as N:=
 ⟨B,h.kept.trans k,k.1 _ _ h.hD h.nb,h.nb,h.nc,h.len,fun i x l e1 e2=>let⟨q1,q2,q3⟩:=h.at_ i x l e1 e2; ⟨k.1 _ _ q1 q3,q2,q3⟩,h.small⟩
structure a8E(H:Hp)(b D q:Addr)(m:Nat)(l:List Nat):Prop where
 h:H q=some (.lst (IL l))
 nD:q≠D
 nb:q≠b
 len:l.length<=2
 lt:∀t∈l,t<m
theorem a8E.next{q:Addr}(h:a8E H b D q m l)(k:D1 b H H'):a8E H' b D q m l:=⟨k.1 _ _ h.h h.nb,h.nD,h.nb,h.len,h.lt⟩
theorem a0g{α:Type}{xs:List α}{x y:α}(h:(xs++[x])[i]? = some y):(i<xs.length/\xs[i]? = some y)\/(i=xs.length/\y=x):=by
 by_cases hi:i<xs.length
 ·left
  rw[F8 hi]at h
  exact⟨hi,h⟩
 ·right
  rw[Q5 (by omega)]at h
  have:i - xs.length=0:=by
   have:=(gI h)
   simp at this
   omega
  rw[this]at h
  simp at h
  exact⟨by omega,h.symm⟩
theorem b3q{a b:Int}:decide (V.int a=V.int b)=decide (a=b):=by
 by_cases h:a=b
 ·subst h;simp
 ·rw[d4L h,d4L (fun z=>h (V.int.inj z))]
theorem c7A:∀s∈(["a","k0","ab","set","abc","k1","abcdefgh","b","ask","x9","a1","abcdefg","plus","ba","k10","z"]:List Str),NmS s:=by
 have:∀s∈(["a","k0","ab","set","abc","k1","abcdefgh","b","ask","x9","a1","abcdefg","plus","ba","k10","z"]:List Str),a1F s=true/\s.length<=8:=by decide +kernel
 exact this
theorem c7x{K:Fg}{E:XK}(hB:Bag H b c)(k:∀s H',NmS s->Bag H' b c->D1 b H H'->Q (.str s) H'):b0j K [.ref b] H Q E:=by
 refine⟨rfl,?_⟩
 unfold c3l
 walk_at "go"
 refine a9e (small (by decide +kernel)) ?_
 walk_at "go"
 refine F2 hB (by decide) (by decide) fun n H1 n0 n1 B1 k1=>?_
 obtain⟨ch,hc,hc2⟩:=a1A (xs:=("abcdefghijklmnopqrstuvwxyz" : Str).cps.toList) n0 (by
  have:(("abcdefghijklmnopqrstuvwxyz" : Str).cps.toList).length=26:=by decide +kernel
  omega)
 refine b1q (small (by decide +kernel)) hc ?_
 walk_at "go"
 exact_mod_cast T7 (a1X ?_)
 walk_at "go"
 refine F2 B1 (by decide) (by decide) fun m H2 m0 m1 B2 k2=>?_
 walk_at "go"
 refine⟨m,rfl,by omega,by omega,fun D hD=>?_⟩
 obtain⟨nb,nc⟩:=B2.nb hD
 refine a8y (fun i ys H3=>∃cs:List Nat,ys=cs.map (fun k=>V.str (⟨#[k]⟩:Str))/\cs.length=i/\(∀c∈cs,c∈SGN.cps.toList)/\H3 D=some (.lst ys)/\Bag H3 b c/\D1 b H2 H3) ?_ ?_ ?_ ?_
 ·exact⟨[],rfl,rfl,by simp,c7,B2.new hD,D1.new hD⟩
 ·rintro i ys H3 ⟨_,_,_,_,h,_⟩
  exact h
 ·rintro i ys H3 hi ⟨cs,rfl,rfl,h1,hd,B3,k3⟩ R hR
  ext
  refine F2 B3 (by decide) (by decide) fun j H4 j0 j1 B4 k4=>?_
  obtain⟨cj,hcj,hcj2⟩:=a1A (xs:=(("abcdefghijklmnopqrstuvwxyz" : Str)++("0123456789" : Str)).cps.toList) j0 (by
   have:((("abcdefghijklmnopqrstuvwxyz" : Str)++("0123456789" : Str)).cps.toList).length=36:=by decide +kernel
   omega)
  refine b1q (small (by decide +kernel)) hcj ?_
  refine hR _ _ (k4.1 _ _ hd nb) (K0 (by rw[a9];omega)) ⟨cs++[cj],by simp,by simp,?_,c7,B4.put nb nc,(k3.trans k4).put hD⟩
  intro s hs
  rcases j8.mp hs with q | q
  ·exact h1 s q
  ·rw[g8.mp q,<-c3u]
   exact mI hcj2
 ·rintro ys H3 ⟨cs,rfl,hn,h1,hd,B3,k3⟩
  ext
  have he:cs.map (fun k=>V.str (⟨#[k]⟩:Str))=(cs.map fun k=>(⟨#[k]⟩:Str)).map V.str:=by rw[G6];rfl
  rw[he]at hd
  have hsum:((cs.map fun k=>(⟨#[k]⟩:Str)).map (·.length)).sum=cs.length:=by
   clear hn hd he h1
   induction cs with
   | nil=>rfl
   | cons s r ih=>
    rw[C6,C6,b7l,ih,j9]
    show 1+_=_
    omega
  refine b1p hd (a3u _) ?_ ?_
  ·rw[hsum,a9]
   show cs.length+cs.length * 0<=_
   omega
  ·have hj:Txt.join (Str.ofString "") (cs.map fun k=>(⟨#[k]⟩:Str))=⟨cs.toArray⟩:=b8F cs
   rw[hj]
   have hl7:cs.length<=7:=by omega
   have hN:=d2w (mI hc2) h1 hl7
   refine a9e (small ?_) ?_
   ·have:=hN.2
    rw[Str.length_append]at this
    omega
   ·exact k _ _ hN B3 ((k1.trans k2).trans k3)
theorem c5y(ss:List Str):(ss.map V.str).all K8=true:=by
 rw[p9]
 intro x hx
 obtain⟨s,_,rfl⟩:=y7.mp hx
 rfl
theorem c4H{K:Fg}{E:XK}(hB:Bag H b c)(k:∀a H',a7G H' a->Bag H' b c->D1 b H H'->H a=none->Q (.ref a) H'):a7Z K [.ref b] H Q E:=by
 refine⟨rfl,?_⟩
 unfold b9v
 walk_at "go"
 refine D9 (by decide) fun p1 G1 h1 e1 s1=>?_
 walk_at "go"
 refine D9 (by decide) fun p2 G2 h2 e2 s2=>?_
 walk_at "go"
 refine a4U (s2 _ _ e1) e2 (D9 (by decide) fun p3 H0 h3 e3 s3'=>?_)
 have s3:t7 H H0:=(s1.trans s2).trans s3'
 have B0:=hB.same s3
 obtain⟨M,hM⟩:∃M:List Str,M=(["a","k0","ab","set","abc","k1","abcdefgh","b","ask","x9","a1","abcdefg","plus","ba","k10","z"]:List Str):=⟨_,rfl⟩
 have hm:H0 p3=some (.lst (M.map V.str)):=by rw[e3,hM];rfl
 have nM:∀s∈M,NmS s:=by rw[hM];exact c7A
 have lM:M.length=16:=by rw[hM];rfl
 clear hM e1 e2 e3 h1 h2 h3 s1 s2 s3'
 walk_at "go"
 refine F2 B0 (by decide) (by decide) fun f H1 f0 f1 B1 k1=>?_
 walk_at "go"
 refine F2 B1 (by decide) (by decide) fun g H2 g0 g1 B2 k2=>?_
 refine a2G (.inl (by omega)) ?_
 walk_at "go"
 exists D9 (by decide) fun D H2' hD hd2 s2=>?_
 have pb:p3≠b:=by
  obtain⟨i0,i1,i2,ns,hb,_⟩:=B0.ex
  refine R1 hm hb ?_
  intro z
  have z:=HO.lst.inj z
  cases M with
  | nil=>cases lM
  | cons s r=>cases z
 have hm2:H2 p3=some (.lst (M.map V.str)):=k2.1 _ _ (k1.1 _ _ hm pb) pb
 obtain⟨nb,nc⟩:=B2.nb hD
 have hDp:D≠p3:=(c6 hm2 hD).symm
 exact_mod_cast a0X ?_
 exact_mod_cast a2n (a1X ?_)
 walk_at "go"
 refine F2 (B2.same s2) (by decide) (by decide) fun m H3 m0 m1 B3 k3=>?_
 walk_at "go"
 have hd3:H3 D=some (.lst (([]:List Str).map V.str)):=k3.1 _ _ hd2 nb
 have k03:D1 b H2 H3:=(D1.of_same s2).trans k3
 refine⟨2+m,rfl,by omega,by omega,a1G (fun i σ H4=>∃x5 x6 ss,(∀s∈(ss:List Str),NmS s)/\σ=[some (.ref b),some (.ref p3),some (.int f),some (.int (1+2 * g)),some (.ref D),x5,x6]/\H4 D=some (.lst ((ss:List Str).map V.str))/\ss.length<=i/\(0<i->ss≠[])/\Bag H4 b c/\D1 b H2 H4) ?_ ?_ ?_⟩
 ·exact⟨_,_,[],by simp,rfl,hd3,d9 _,by simp,B3,k03⟩
 ·rintro i _ H4 hi ⟨x5,x6,ss,hss,rfl,hd,hl,hne,B4,k4⟩
  have hi:i<(2+m).toNat:=hi
  ext
  exact_mod_cast a0n (P:=fun σ H5=>∃s,NmS s/\σ=[some (.ref b),some (.ref p3),some (.int f),some (.int (1+2 * g)),some (.ref D),some (.int (0+i)),some (.str s)]/\H5 D=some (.lst ((ss:List Str).map V.str))/\Bag H5 b c/\D1 b H2 H5) ?_ ?_
  ·rintro _ H5 ⟨s,hs,rfl,hd5,B5,k5⟩
   exact_mod_cast a0n (P:=fun σ H6=>∃s,NmS s/\σ=[some (.ref b),some (.ref p3),some (.int f),some (.int (1+2 * g)),some (.ref D),some (.int (0+i)),some (.str s)]/\H6 D=some (.lst ((ss:List Str).map V.str))/\Bag H6 b c/\D1 b H2 H6) ?_ ?_
   ·rintro _ H6 ⟨s,hs,rfl,hd6,B6,k6⟩
    ext
    exists c9w hd6 rfl (c5y ss) ?_
    refine Y8 (fun e=>?_) (fun e=>?_)
    ·ext
     specialize a6E ?_
     exists ⟨.inl ⟨rfl,_,SqL.of hd6⟩,?_⟩
     refine a2a hd6 (K0 (by rw[a9];omega)) ?_
     exact⟨_,_,ss++[s],c6g hss hs,rfl,by rw[c7];simp,by rw[j4,O6];omega,fun _=>by simp,B6.put nb nc,k6.put hD⟩
    ·ext
     refine⟨_,_,ss,hss,rfl,hd6,by omega,fun _ z=>?_,B6,k6⟩
     subst z
     exact e rfl
   ·intro nx hnx
    ext
    exists F2 B5 (by decide) (by decide) fun q H6 _ _ B6 k6=>?_
    refine Y8 (fun _=>?_) (fun _=>?_)
    ·ext
     exists c7x B6 fun s' H7 hs' B7 k7=>?_
     exact hnx _ _ ⟨s',hs',rfl,k7.1 _ _ (k6.1 _ _ hd5 nb) nb,B7,(k5.trans k6).trans k7⟩
    ·ext
     exact hnx _ _ ⟨s,hs,rfl,k6.1 _ _ hd5 nb,B6,k5.trans k6⟩
  ·intro nx hnx
   ext
   exists a2G (.inl (by omega)) ?_
   refine a2G (by decide) ?_
   obtain⟨v,hv,hv2⟩:=a1A (xs:=M.map V.str) (i:=(f+(0+(i:Int)) * (1+2 * g)) % 16) (Z4 _ (by decide)) (by
    rw[a9,lM]
    exact X9 _ (by decide))
   obtain⟨s,hsM,rfl⟩:=y7.mp (mI hv2)
   exists M4 (k4.1 _ _ hm2 pb) hv ?_
   exact hnx _ _ ⟨s,nM s hsM,rfl,hd,B4,k4⟩
 ·rintro _ H4 ⟨x5,x6,ss,hss,rfl,hd,hl,hne,B4,k4⟩
  walk_at "go"
  refine k D H4 ⟨ss,hd,hne (by omega),by omega,hss⟩ B4 (((D1.of_same s3).trans (k1.trans k2)).trans k4) ?_
  exact(D1.of_same (b:=b) s3).none (k1.none (k2.none hD))
theorem d2h:(10:Int) ^ (12:Int).toNat=1000000000000:=by decide
theorem c3c{K:Fg}{E:XK}(hB:Bag H b c)(k:∀n H',0<=n->n<1000000000000->Bag H' b c->D1 b H H'->Q (.int n) H'):a7W K [.ref b] H Q E:=by
 refine⟨rfl,?_⟩
 unfold b9t
 walk_at "go"
 refine a2G ⟨by decide,by decide,by decide⟩ ?_
 walk_at "go"
 refine F2 hB (by decide) (by decide) fun n1 H1 a0 a1 B1 k1=>?_
 walk_at "go"
 refine F2 B1 (by decide) (by decide) fun n2 H2 b0 b1 B2 k2=>?_
 walk_at "go"
 refine D9 (by simp) fun p G hp e s=>?_
 walk_at "go"
 refine F2 (B2.same s) (by decide) (by decide) fun n3 H3 c0 c1 B3 k3=>?_
 have hp3:=k3.1 p _ e (B2.nb hp).1
 rw[d2h]at hp3
 have kk:D1 b H H3:=(k1.trans k2).trans ((D1.of_same s).trans k3)
 obtain⟨v,hv,hv2⟩:=a1A (xs:=([.int 0,.int 1,.int (1000000000000 - 1 - n1),.int n2]:List V)) c0 (by simpa using c1)
 refine M4 hp3 hv ?_
 have:∃n,v=.int n/\0<=n/\n<1000000000000:=by
  have m:=mI hv2
  simp only[c5,p8,or_false]at m
  rcases m with rfl | rfl | rfl | rfl
  ·exact⟨0,rfl,by decide,by decide⟩
  ·exact⟨1,rfl,by decide,by decide⟩
  ·exact⟨_,rfl,by omega,by omega⟩
  ·exact⟨_,rfl,by omega,by omega⟩
 obtain⟨n,rfl,q0,q1⟩:=this
 exact k n H3 q0 q1 B3 kk
theorem a3D{K:Fg}{E:XK}(hB:Bag H b c)(hN:a7G H a)(k:∀v H',OpN v->Bag H' b c->D1 b H H'->Q v H'):a0E K [.ref b,.ref a] H Q E:=by
 refine⟨rfl,?_⟩
 unfold b2V
 nofun
 exists F2 hB (by decide) (by decide) fun n1 H1 a0 a1 B1 k1=>?_
 refine Y8 (fun _=>?_) (fun _=>?_)
 ·ext
  exact c3c B1 fun n H2 q0 q1 B2 k2=>k _ _ (.inr ⟨n,rfl,q0,q1⟩) B2 (k1.trans k2)
 ·ext
  obtain⟨N1,ne⟩:=hN.kept hB k1
  obtain⟨ss,h1,h2,h3,h4⟩:=N1.ex
  exists K5 h1 ?_
  have hl:0<ss.length:=A9.mpr h2
  refine F2 B1 (by rw[a9];omega) (by rw[a9];omega) fun n2 H2 b0 b1 B2 k2=>?_
  obtain⟨v,hv,hv2⟩:=a1A (xs:=ss.map V.str) b0 b1
  obtain⟨s,hs,rfl⟩:=y7.mp (mI hv2)
  exact M4 (k2.1 _ _ h1 ne) hv (k _ _ (.inl ⟨s,rfl,h4 s hs⟩) B2 (k1.trans k2))
theorem c7S{K:Fg}{E:XK}(hB:Bag H b c)(hN:a7G H a)(k:∀p H',a8F H' p->H p=none->Bag H' b c->D1 b H H'->Q (.ref p) H'):b0k K [.ref b,.ref a] H Q E:=by
 refine⟨rfl,?_⟩
 unfold c3n
 nofun
 exists D9 (by decide) fun p G hp e s=>?_
 refine F2 (hB.same s) (by decide) (by decide) fun n1 H1 a0 a1 B1 k1=>?_
 have hp1:=k1.1 p _ e (hB.nb hp).1
 have k01:D1 b H H1:=(D1.of_same s).trans k1
 obtain⟨v,hv,hv2⟩:=a1A (xs:=([.str "plus",.str "minus",.str "times",.str "less",.str "same"]:List V)) a0 (by simpa using a1)
 refine M4 hp1 hv ?_
 have:∃kd:Str,v=.str kd/\kd∈(["plus","minus","times","less","same"]:List Str):=by
  have m:=mI hv2
  simp only[c5,p8,or_false]at m
  rcases m with rfl | rfl | rfl | rfl | rfl <;> exact⟨_,rfl,by simp⟩
 obtain⟨kd,rfl,hkd⟩:=this
 ext
 nofun
 obtain⟨N1,_⟩:=hN.kept hB k01
 exists a3D B1 N1 fun v1 H2 o1 B2 k2=>?_
 nofun
 obtain⟨N2,_⟩:=N1.kept B1 k2
 exists a3D B2 N2 fun v2 H3 o2 B3 k3=>?_
 exact_mod_cast a0n (P:=fun σ H4=>∃v2,σ=[some (.ref b),some (.ref a),some (.str kd),some v1,some v2]/\OpN v2/\Bag H4 b c/\D1 b H3 H4) ?_ ?_
 ·rintro _ H4 ⟨v2,rfl,o2,B4,k4⟩
  ext
  refine D9 (by simp) fun q G hq e s=>?_
  exact k q _ ⟨kd,v1,v2,e,o1,o2,hkd⟩ (k01.none (k2.none (k3.none (k4.none hq)))) (B4.same s) ((((k01.trans k2).trans k3).trans k4).trans (D1.of_same s))
 ·intro nx hnx
  ext
  exists F2 B3 (by decide) (by decide) fun n4 H4 d0 d1 B4 k4=>?_
  refine Y8 (fun _=>?_) (fun _=>?_)
  ·ext
   exact hnx _ _ ⟨v1,rfl,o1,B4,k4⟩
  ·ext
   exact hnx _ _ ⟨v2,rfl,o2,B4,k4⟩
theorem c9t{K:Fg}{E:XK}(hB:Bag H b c)(hN:a7G H a)(hP:b7e H p)(k:∀v H',a5u H' v (m == 2)->Bag H' b c->D1 b H H'->Q v H'):b3L K [.ref b,.ref a,.ref p,.int (m:Int)] H Q E:=by
 refine⟨rfl,?_⟩
 unfold c8y
 nofun
 by_cases h2:m=2
 ·subst h2
  exists A8 (by decide) ?_
  exists a3D hB hN fun v H1 o1 B1 k1=>?_
  refine D9 (by simp) fun q G hq e s=>?_
  exact k _ _ ⟨q,_,rfl,e,.ask v o1,_,_,rfl,by decide⟩ (B1.same s) (k1.trans (D1.of_same s))
 have hm:(m == 2)=false:=by simpa using h2
 rw[hm]at k
 exists v7 (d4L (by intro z;have:=V.int.inj z;omega)) ?_
 nofun
 exists F2 hB (by decide) (by decide) fun w H1 w0 w1 B1 k1=>?_
 nofun
 obtain⟨N1,na⟩:=hN.kept hB k1
 have P1:=hP.kept hB k1
 obtain⟨ss,s1,s2,s3,s4⟩:=N1.ex
 exists K5 s1 ?_
 refine b0q B1 s1 na (by simpa using s2) (by rw[a9];omega) fun n v H2 e1 e2 a2 B2 k2=>?_
 refine M4 a2 e1 ?_
 obtain⟨s,hs,rfl⟩:=y7.mp e2
 have ns:=s4 s hs
 ext
 obtain⟨N2,_⟩:=N1.kept B1 k2
 have P2:=P1.kept B1 k2
 have k02:=k1.trans k2
 nofun
 refine Y8 (fun _=>?_) (fun _=>?_)
 ·obtain⟨ps,p1,p2,p3,p4⟩:=P2.ex
  ext
  exists K5 p1 ?_
  refine b0q B2 p1 (a6s B2 p1) (by simpa using p2) (by rw[a9];omega) fun n v H3 f1 f2 a3 B3 k3=>?_
  refine M4 a3 f1 ?_
  obtain⟨d,hd,rfl⟩:=y7.mp f2
  have hd3:=(p4 d hd).ts (D1.ts k3 B2)
  ext
  refine D9 (by simp) fun q G hq e s=>?_
  exact k _ _ ⟨q,_,rfl,e,.set _ d ns (hd3.ts (t7.ts s)),_,_,rfl,by decide⟩ (B3.same s) ((k02.trans k3).trans (D1.of_same s))
 ext
 nofun
 refine Y8 (fun _=>?_) (fun _=>?_)
 ·ext
  exists a3D B2 N2 fun v H3 o1 B3 k3=>?_
  refine D9 (by simp) fun q G hq e s=>?_
  exact k _ _ ⟨q,_,rfl,e,.copy _ v ns o1,_,_,rfl,by decide⟩ (B3.same s) ((k02.trans k3).trans (D1.of_same s))
 ext
 nofun
 refine Y8 (fun _=>?_) (fun _=>?_)
 ·ext
  refine D9 (by simp) fun q G hq e s=>?_
  exact k _ _ ⟨q,_,rfl,e,.take _ ns,_,_,rfl,by decide⟩ (B2.same s) (k02.trans (D1.of_same s))
 ext
 exists a3D B2 N2 fun v H3 o1 B3 k3=>?_
 exists D9 (by simp) fun q1 G1 hq1 e1 s1=>?_
 exists D9 (by simp) fun q2 G2 hq2 e2 s2=>?_
 exists D9 (by simp) fun q3 G3 hq3 e3 s3=>?_
 have sB:=(B3.same s1).same s2
 refine F2 (sB.same s3) (by decide) (by decide) fun j H4 j0 j1 B4 k4=>?_
 obtain⟨x,hx,hx2⟩:=a1A (xs:=[V.ref q1,V.ref q2]) j0 (by simpa using j1)
 refine M4 (k4.1 _ _ e3 (sB.nb hq3).1) hx ?_
 have kk:D1 b H H4:=(k02.trans k3).trans ((D1.of_same ((s1.trans s2).trans s3)).trans k4)
 have f1:H4 q1=_:=k4.1 _ _ (s3 _ _ (s2 _ _ e1)) (B3.nb hq1).1
 have f2:H4 q2=_:=k4.1 _ _ (s3 _ _ e2) ((B3.same s1).nb hq2).1
 have m:=mI hx2
 simp only[c5,p8,or_false]at m
 rcases m with rfl | rfl
 ·exact k _ _ ⟨q1,_,rfl,f1,.tell v o1,_,_,rfl,by decide⟩ B4 kk
 ·exact k _ _ ⟨q2,_,rfl,f2,.skip,_,_,rfl,by decide⟩ B4 kk
theorem d0B{K:Fg}{E:XK}(hB:Bag H b c)(m0:0<m)(m1:m<=24)
  (k:∀a N H',F9 H' a N->N.length=m->(∀l∈N,l.length<=2/\∀t∈l,t<m)->N[m - 1]? = some []->Bag H' b c->D1 b H H'->Q (.ref a) H'):b3M K [.ref b,.int (m:Int)] H Q E:=by
 refine⟨rfl,?_⟩
 unfold c8z
 nofun
 exists D9 (by simp) fun D H1 hD e1 s1=>?_
 obtain⟨nb,nc⟩:=hB.nb hD
 have B1:=hB.same s1
 exact_mod_cast a0X ?_
 specialize a2n (a1X ?_)
 refine⟨m,rfl,by omega,by omega,?_⟩
 rw[E7]
 refine a1G (fun i σ H2=>∃x3 x4 x5 x6 as N,σ=[some (.ref b),some (.int (m:Int)),some (.ref D),x3,x4,x5,x6]/\b2H H H2 b c D m as N/\N.length=i/\(i=m->N[m - 1]? = some [])) ?_ ?_ ?_
 ·exact⟨_,_,_,_,[],[],rfl,⟨B1,D1.of_same s1,e1,nb,nc,rfl,fun i x l e=>by simp at e,fun l h=>by simp at h⟩,rfl,fun z=>by omega⟩
 ·rintro i _ H2 hi ⟨x3,x4,x5,x6,as,N,rfl,I2,hlen,_⟩
  ext
  rw[a2K]
  nofun
  exists d2a ?_
  obtain⟨r,hr,hrm⟩:∃r:Nat,(if(m:Int) - 1<(i:Int)+1 then (m:Int) - 1 else (i:Int)+1)=(r:Int)/\r<m:=by
   by_cases h:(m:Int) - 1<(i:Int)+1
   ·exact⟨m - 1,by rw[if_pos h];omega,by omega⟩
   ·exact⟨i+1,by rw[if_neg h];omega,by omega⟩
  rw[hr]
  nofun
  refine F2 I2.bag (by omega) (by omega) fun j H3 j0 j1 B3 k3=>?_
  obtain⟨j,rfl⟩:=L7 j0
  ext
  exists D9 (by simp) fun q H4 hq e4 s4=>?_
  have I3:=I2.next B3 k3
  have I4:=I3.next (B3.same s4) (D1.of_same s4)
  have S4:a8E H4 b D q m [r,j]:=⟨e4,(c6 I3.hD hq).symm,(B3.nb hq).1,by simp,fun t ht=>by
   simp only[c5,p8,or_false]at ht
   rcases ht with rfl | rfl
   ·exact hrm
   ·omega⟩
  nofun
  exists F2 I4.bag (by decide) (by decide) fun w H5 w0 w1 B5 k5=>?_
  have I5:=I4.next B5 k5
  have S5:=S4.next k5
  exact_mod_cast a0n (P:=fun σ H6=>∃q l,σ=[some (.ref b),some (.int (m:Int)),some (.ref D),some (.int (i:Int)),some (.int (r:Int)),some (.ref q),some (.int w)]/\b2H H H6 b c D m as N/\a8E H6 b D q m l/\l.length=2) ?_ ?_
  rotate_left
  ·intro nx hnx
   ext
   refine Y8 (fun _=>?_) (fun _=>?_)
   ·ext
    exists M4 S5.h (a8B _ _ _) ?_
    refine D9 (by simp) fun q6 H6 hq6 e6 s6=>?_
    exact hnx _ _ ⟨q6,[j,r],rfl,I5.next (B5.same s6) (D1.of_same s6),⟨e6,(c6 I5.hD hq6).symm,(B5.nb hq6).1,by simp,fun t ht=>by
     simp only[c5,p8,or_false]at ht
     rcases ht with rfl | rfl
     ·exact S5.lt _ (by simp)
     ·exact S5.lt _ (by simp)⟩,rfl⟩
   ·ext
    exact hnx _ _ ⟨q,[r,j],rfl,I5,S5,rfl⟩
  rintro _ H6 ⟨q,l,rfl,I6,S6,hl6⟩
  obtain⟨l0,l1,rfl⟩:∃l0 l1,l=[l0,l1]:=by
   match l,hl6 with
   | [a,b],_=>exact⟨a,b,rfl⟩
  exact_mod_cast a0n (P:=fun σ H6=>∃q l,σ=[some (.ref b),some (.int (m:Int)),some (.ref D),some (.int (i:Int)),some (.int (r:Int)),some (.ref q),some (.int w)]/\b2H H H6 b c D m as N/\a8E H6 b D q m l/\l.length=2) ?_ ?_
  rotate_left
  ·intro nx hnx
   ext
   refine Y8 (fun _=>?_) (fun _=>?_)
   ·ext
    exists M4 S6.h (a8B _ _ _) ?_
    refine F2 I6.bag (by omega) (by omega) fun j2 H7 z0 z1 B7 k7=>?_
    obtain⟨j2,rfl⟩:=L7 z0
    ext
    have I7:=I6.next B7 k7
    refine D9 (by simp) fun q8 H8 hq8 e8 s8=>?_
    exact hnx _ _ ⟨q8,[l1,j2],rfl,I7.next (B7.same s8) (D1.of_same s8),⟨e8,(c6 I7.hD hq8).symm,(B7.nb hq8).1,by simp,fun t ht=>by
     simp only[c5,p8,or_false]at ht
     rcases ht with rfl | rfl
     ·exact S6.lt _ (by simp)
     ·omega⟩,rfl⟩
   ·ext
    exact hnx _ _ ⟨q,_,rfl,I6,S6,rfl⟩
  clear S6 I6 l0 l1 hl6 S5 I5 S4 I4 I3 B3 k3 B5 k5 s4 e4 hq
  rintro _ H6 ⟨q,l,rfl,I6,S6,hl6⟩
  obtain⟨l0,l1,rfl⟩:∃l0 l1,l=[l0,l1]:=by
   match l,hl6 with
   | [a,b],_=>exact⟨a,b,rfl⟩
  exact_mod_cast a0n (P:=fun σ H6=>∃q l,σ=[some (.ref b),some (.int (m:Int)),some (.ref D),some (.int (i:Int)),some (.int (r:Int)),some (.ref q),some (.int w)]/\b2H H H6 b c D m as N/\a8E H6 b D q m l/\(w=7->1<m->l.length=2)) ?_ ?_
  rotate_left
  ·intro nx hnx
   have one:∀H7,H7=H6->((w=7/\1<m)->False)->New (.lst [V.int (r:Int)]) 1 H7 fun v H1=>nx [some (.ref b),some (.int (m:Int)),some (.ref D),some (.int (i:Int)),some (.int (r:Int)),some v,some (.int w)] H1:=by
    rintro _ rfl hw
    refine D9 (by simp) fun q8 H8 hq8 e8 s8=>?_
    exact hnx _ _ ⟨q8,[r],rfl,I6.next (I6.bag.same s8) (D1.of_same s8),⟨e8,(c6 I6.hD hq8).symm,(I6.bag.nb hq8).1,by simp,fun t ht=>by rw[g8.mp ht];exact hrm⟩,fun h1 h2=>(hw ⟨h1,h2⟩).elim⟩
   ext
   refine Y8 (fun a3=>?_) (fun a3=>?_)
   ·ext
    refine Y8 (fun a7=>?_) (fun a7=>?_)
    ·exists A8 rfl ?_
     exact one _ rfl fun⟨z,_⟩=>by have:=of_decide_eq_true a7;omega
    ·ext
     refine Y8 (fun a1=>?_) (fun a1=>?_)
     ·ext
      rw[b3q]at a1
      exact one _ rfl fun⟨_,z⟩=>by have:=of_decide_eq_true a1;omega
     ·ext
      exact hnx _ _ ⟨q,_,rfl,I6,S6,fun _ _=>rfl⟩
   ·ext
    exists v7 rfl ?_
    refine Y8 (fun a1=>?_) (fun a1=>?_)
    ·ext
     rw[b3q]at a1
     exact one _ rfl fun⟨_,z⟩=>by have:=of_decide_eq_true a1;omega
    ·ext
     exact hnx _ _ ⟨q,_,rfl,I6,S6,fun _ _=>rfl⟩
  clear S6 I6 l0 l1 hl6
  rintro _ H6 ⟨q,l,rfl,I6,S6,hl6⟩
  exact_mod_cast a0n (P:=fun σ H6=>∃q l,σ=[some (.ref b),some (.int (m:Int)),some (.ref D),some (.int (i:Int)),some (.int (r:Int)),some (.ref q),some (.int w)]/\b2H H H6 b c D m as N/\a8E H6 b D q m l) ?_ ?_
  rotate_left
  ·intro nx hnx
   ext
   refine Y8 (fun a7=>?_) (fun a7=>?_)
   ·ext
    refine Y8 (fun a1=>?_) (fun a1=>?_)
    ·rw[b3q]at a7
     have a7:=of_decide_eq_true a7
     have a1:=of_decide_eq_true a1
     have hl:=hl6 a7 (by omega)
     obtain⟨l0,l1,rfl⟩:∃l0 l1,l=[l0,l1]:=by
      match l,hl with
      | [a,b],_=>exact⟨a,b,rfl⟩
     ext
     exists M4 S6.h (a8B _ _ _) ?_
     refine D9 (by simp) fun q8 H8 hq8 e8 s8=>?_
     exact hnx _ _ ⟨q8,[l1],rfl,I6.next (I6.bag.same s8) (D1.of_same s8),⟨e8,(c6 I6.hD hq8).symm,(I6.bag.nb hq8).1,by simp,fun t ht=>by rw[g8.mp ht];exact S6.lt _ (by simp)⟩⟩
    ·ext
     exact hnx _ _ ⟨q,_,rfl,I6,S6⟩
   ·exists v7 rfl ?_
    exact hnx _ _ ⟨q,_,rfl,I6,S6⟩
  clear S6 I6 hl6 l
  rintro _ H6 ⟨q,l,rfl,I6,S6⟩
  exact_mod_cast a0n (P:=fun σ H6=>∃q l,σ=[some (.ref b),some (.int (m:Int)),some (.ref D),some (.int (i:Int)),some (.int (r:Int)),some (.ref q),some (.int w)]/\b2H H H6 b c D m as N/\a8E H6 b D q m l/\(i+1=m->l=[])) ?_ ?_
  rotate_left
  ·intro nx hnx
   have none:∀H7,b2H H H7 b c D m as N->New (.lst []) 0 H7 fun v H1=>nx [some (.ref b),some (.int (m:Int)),some (.ref D),some (.int (i:Int)),some (.int (r:Int)),some v,some (.int w)] H1:=by
    intro H7 I7
    refine D9 (by simp) fun q8 H8 hq8 e8 s8=>?_
    exact hnx _ _ ⟨q8,[],rfl,I7.next (I7.bag.same s8) (D1.of_same s8),⟨e8,(c6 I7.hD hq8).symm,(I7.bag.nb hq8).1,by simp,fun t ht=>by simp at ht⟩,fun _=>rfl⟩
   ext
   refine Y8 (fun a1=>?_) (fun a1=>?_)
   ·exists A8 rfl ?_
    exact none _ I6
   ·rw[b3q]at a1
    have a1:¬((i:Int)=(m:Int) - 1):=fun z=>a1 (d4M z)
    ext
    refine Y8 (fun a6=>?_) (fun a6=>?_)
    ·ext
     exists F2 I6.bag (by decide) (by decide) fun z H7 z0 z1 B7 k7=>?_
     refine Y8 (fun a0=>?_) (fun a0=>?_)
     ·ext
      exact none _ (I6.next B7 k7)
     ·ext
      exact hnx _ _ ⟨q,l,rfl,I6.next B7 k7,S6.next k7,fun z=>by omega⟩
    ·exists v7 rfl ?_
     exact hnx _ _ ⟨q,l,rfl,I6,S6,fun z=>by omega⟩
  clear S6 I6 l
  rintro _ H6 ⟨q,l,rfl,I6,S6,hlast⟩
  ext
  specialize a6E ?_
  exists ⟨a4H I6.hD,?_⟩
  refine a2a I6.hD (K0 (by rw[a9,I6.len];omega)) ?_
  have nqc:D≠c:=I6.nc
  refine⟨_,_,_,_,as++[q],N++[l],rfl,⟨I6.bag.put I6.nb nqc,I6.kept.put hD,by rw[c7];simp,I6.nb,I6.nc,by simp[I6.len],?_,?_⟩,by simp[hlen],?_⟩
  ·intro i' x' l' e1' e2'
   rcases a0g e1' with ⟨hi1,f1⟩ | ⟨hi1,f1⟩
   ·rcases a0g e2' with ⟨hi2,f2⟩ | ⟨hi2,f2⟩
    ·obtain⟨g1,g2,g3⟩:=I6.at_ i' x' l' f1 f2
     exact⟨by rw[g7 g2];exact g1,g2,g3⟩
    ·have:=I6.len;omega
   ·rcases a0g e2' with ⟨hi2,f2⟩ | ⟨hi2,f2⟩
    ·have:=I6.len;omega
    ·subst f1 f2
     exact⟨by rw[g7 S6.nD];exact S6.h,S6.nD,S6.nb⟩
  ·intro l' hl'
   rcases j8.mp hl' with z | z
   ·exact I6.small l' z
   ·rw[g8.mp z];exact⟨S6.len,S6.lt⟩
  ·intro z
   rw[hlast z]
   have:m - 1=N.length:=by omega
   rw[this];simp
 ·rintro _ H2 ⟨x3,x4,x5,x6,as,N,rfl,I2,hlen,hlast⟩
  ext
  exact k D N H2 ⟨as,I2.hD,I2.len,fun i x l e1 e2=>(I2.at_ i x l e1 e2).1⟩ hlen I2.small (hlast rfl) I2.bag I2.kept
theorem d2H(xs:List V):a1J xs (some 1) none=xs.drop 1:=by
 cases xs with
 | nil=>rfl
 | cons a r=>rw[d1a];rfl
theorem c8l(l:List Nat)(n:Nat):(IL l).drop n=IL (l.drop n):=by unfold IL;rw[d2T]
theorem b8R(xs:List V):a2u xs []=decide (xs.length=0):=by
 unfold a2u
 rw[show min xs.length ([]:List V).length=0 by simp]
 simp only[List.range_zero,a3R,Z9,a0B]
 by_cases h:xs.length=0
 ·rw[h];rfl
 ·rw[d4L h]
  simpa using h
theorem c5x{G:List Nat}(h:(l.map fun t=>decide (t∈G)).any id=true):∃t∈l,t∈G:=by
 obtain⟨x,hx,e⟩:=a5z.mp h
 obtain⟨t,ht,rfl⟩:=y7.mp hx
 exact⟨t,ht,of_decide_eq_true e⟩
theorem c0b{α:Type}(l:List Nat)(f:Nat->α)(i:Nat)(e:l[i]? = some t):(l.take (i+1)).map f=(l.take i).map f++[f t]:=by
 rw[C7,e];simp
structure a5q(H0 H:Hp)(d:Addr)(N:Nt)(G:List Nat):Prop where
 same:t7 H0 H
 hd:H d=some (.dK (KS G))
 nd:G.Nodup
 lt:∀k∈G,k<N.length
 gd:∀k∈G,Gd N k
theorem a5q.next{G:List Nat}(h:a5q H0 H d N G)(s:t7 H H'):a5q H0 H' d N G:=⟨h.same.trans s,s _ _ h.hd,h.nd,h.lt,h.gd⟩
theorem a5q.put{G:List Nat}(h:a5q H0 H d N G)(n:H0 d=none){k:Nat}(hk:k<N.length)(g:Gd N k):a5q H0 (upd H d (.dK (KS (a1x G k)))) d N (a1x G k):=
 ⟨fun b o e=>by rw[g7 (c6 e n)];exact h.same b o e,c7,a8r h.nd,fun j hj=>(W6.mp hj).elim (h.lt j) fun z=>z ▸ hk,fun j hj=>(W6.mp hj).elim (h.gd j) fun z=>z ▸ g⟩
theorem c7M{K:Fg}{x2 x4 x5 x6:Option V}{G:List Nat}{D:b0d}(n0:H0 d=none)(hn:F9 H a N)(hN:N.length<=24)(hl:N[i]? = some l)(hl2:l.length<=2)(hG:a5q H0 H d N G)
  (k:∀H' G',a5q H0 H' d N G'->(∀j∈G,j∈G')->(l=[]->i∈G')->F9 H' a N->D.nx [some (.ref a),some (.ref d),x2,some (.int (i:Int)),x4,x5,x6] H') :
  M0 (tOr (D7 (tOp qEq (tOp qIx (b5 0) (b5 3)) (Y2 (d6)))) (tB (tCB b8c (a8 (T5 (a0b K (tOp qIx (b5 0) (b5 3))) (U4) (b3I (b5 0) (b5 2))) (d6))))) (a8j (b5 1) (b5 3) (tC (.bl true))) (E6) D
   [some (.ref a),some (.ref d),x2,some (.int (i:Int)),x4,x5,x6] H:=by
 have hi:i<N.length:=(gI hl)
 have hGl:G.length<100000:=by
  have:=a8s _ _ hG.nd hG.lt
  omega
 have put:∀H1,F9 H1 a N->a5q H0 H1 d N G->a≠d->(∀x,H1 x=some (.dK (KS G))->True)->Gd N i->a8j (b5 1) (b5 3) (tC (.bl true)) D [some (.ref a),some (.ref d),x2,some (.int (i:Int)),x4,x5,x6] H1:=by
  intro H1 n1 g1 nad _ gd
  specialize b7W ?_
  refine⟨d,_,rfl,b4C g1.hd hGl i,?_⟩
  refine k _ (a1x G i) (g1.put n0 hi gd) (fun j hj=>W6.mpr (.inl hj)) (fun _=>W6.mpr (.inr rfl)) ?_
  obtain⟨as,q1,q2,q3⟩:=n1.ex
  refine⟨as,by rw[g7 nad];exact q1,q2,fun j x l' e1 e2=>?_⟩
  have q:=q3 j x l' e1 e2
  rw[g7 (R1 q g1.hd (by intro z;cases z))]
  exact q
 obtain⟨xs,x,h1,h2,h3,_⟩:=hn.at hl
 have nad:a≠d:=R1 h1 hG.hd (by intro z;cases z)
 ext
 exists M4 h1 h2 ?_
 refine D9 (by simp) fun p H1 hp e1 s1=>?_
 refine⟨_,c0i (s1 _ _ h3) e1 (c0A l) rfl,?_⟩
 rw[b8R,Q0]
 ext
 by_cases hz:l=[]
 ·refine A8 (d4M (by rw[hz];rfl)) ?_
  refine A8 rfl ?_
  exact put H1 (hn.same s1) (hG.next s1) nad (fun _ _=>trivial) (.stop (hz ▸ hl))
 exists v7 (d4L fun z=>hz (P0.mp z)) ?_
 specialize T7 (Z5 ?_)
 refine M4 (s1 _ _ h1) h2 ?_
 refine⟨x,rfl,⟨_,SqL.of (s1 _ _ h3)⟩,fun E hE=>?_⟩
 have G1:=hG.next s1
 refine W8 (xs:=IL l) (fun j ys H2=>ys=(l.take j).map (fun t=>V.bl (decide (t∈G)))/\H2 E=some (.lst ys)/\t7 H1 H2) ⟨by simp,c7,u0 hE⟩ ?_ ?_ ?_ ?_
 ·rintro j ys H2 ⟨_,h,_⟩
  exact h
 ·rintro j ys H2 _ ⟨_,_,s2⟩
  exact SqL.of (s2 _ _ (s1 _ _ h3))
 ·rintro j y ys H2 hy ⟨rfl,hE2,s2⟩ R hR
  have hy:(l.map fun(n:Nat)=>V.int (n:Int))[j]? = some y:=hy
  rw[c8]at hy
  cases ht:l[j]? with
  | none=>rw[ht]at hy;cases hy
  | some t=>
   rw[ht]at hy
   cases hy
   have hj:=(gI ht)
   specialize c3I ?_
   obtain⟨o,g1,g2⟩:=a3f (s2 _ _ G1.hd) t
   refine⟨d,o,rfl,g1,?_⟩
   rw[g2]
   refine hR _ _ hE2 (K0 ?_) ⟨?_,c7,fun b o e=>?_⟩
   ·rw[a9,E1]
    omega
   ·rw[c0b l _ j ht]
   ·rw[g7 (c6 e hE)];exact s2 b o e
 ·rintro ys H2 ⟨rfl,hE2,s2⟩
  rw[Q0,a1t]at hE2
  have he:l.map (fun t=>V.bl (decide (t∈G)))=(l.map fun t=>decide (t∈G)).map V.bl:=by rw[G6];rfl
  rw[he]at hE2
  ext
  exists d2c hE2 ?_
  refine Y8 (fun c=>?_) (fun c=>?_)
  ·obtain⟨t,t1,t2⟩:=c5x c
   exact put H2 ((hn.same s1).same s2) (G1.next s2) nad (fun _ _=>trivial) (.step hl t1 (hG.gd t t2))
  ·ext
   exact k H2 G (G1.next s2) (fun j hj=>hj) (fun z=>(hz z).elim) ((hn.same s1).same s2)
structure b4X(H0 H:Hp)(d:Addr)(N:Nt)(S:List Nat):Prop where
 same:t7 H0 H
 hd:H d=some (.dK (KS S))
 nd:S.Nodup
 lt:∀k∈S,k<N.length
 rc:∀k∈S,Rc N k
 zero:0∈S
theorem b4X.put{S:List Nat}(h:b4X H0 H d N S)(n:H0 d=none){k:Nat}(hk:k<N.length)(g:Rc N k):b4X H0 (upd H d (.dK (KS (a1x S k)))) d N (a1x S k):=
 ⟨fun b o e=>by rw[g7 (c6 e n)];exact h.same b o e,c7,a8r h.nd,fun j hj=>(W6.mp hj).elim (h.lt j) fun z=>z ▸ hk,fun j hj=>(W6.mp hj).elim (h.rc j) fun z=>z ▸ g,W6.mpr (.inl h.zero)⟩
def a7H(N:Nt)(S:List Nat):Prop:=∀k∈S,∀l,N[k]? = some l->∀t∈l,t∈S
theorem b9R{S:List Nat}{k:Nat}(h:k∈S):a1x S k=S:=by unfold a1x;rw[if_pos h]
theorem F9.dput{ks:List (Key×V)}(h:F9 H a N)(hd:H d=some (.dK ks)):F9 (upd H d o) a N:=by
 obtain⟨as,q1,q2,q3⟩:=h.ex
 exact⟨as,by rw[g7 (R1 q1 hd (by intro z;cases z))];exact q1,q2,fun j x l e1 e2=>by
  have q:=q3 j x l e1 e2
  rw[g7 (R1 q hd (by intro z;cases z))];exact q⟩
theorem c3T{K:Fg}{x1 x2 x5 x6:Option V}{S:List Nat}{D:b0d}(n0:H0 d=none)(hn:F9 H a N)(hN:N.length<=24)(hl:N[i]? = some l)(hlt:∀t∈l,t<N.length)(hS:b4X H0 H d N S)
  (k:∀H' S' x5,b4X H0 H' d N S'->(∀j∈S,j∈S')->(i∈S->∀t∈l,t∈S')->(a7H N S->S'=S)->F9 H' a N->D.nx [some (.ref a),x1,x2,some (.int (i:Int)),some (.ref d),x5,x6] H') :
  M0 (tB (b3I (b5 3) (b5 4))) (a3X (a0b K (tOp qIx (b5 0) (b5 3))) (v0 5) (a8j (b5 4) (b5 5) (tC (.bl true)))) (E6) D [some (.ref a),x1,x2,some (.int (i:Int)),some (.ref d),x5,x6] H:=by
 ext
 specialize c3I ?_
 obtain⟨o,g1,g2⟩:=a3f hS.hd i
 refine⟨d,o,rfl,g1,?_⟩
 rw[g2]
 ext
 refine Y8 (fun c=>?_) (fun c=>?_)
 ·have hi:i∈S:=of_decide_eq_true c
  obtain⟨xs,x,h1,h2,h3,_⟩:=hn.at hl
  specialize a2n (Z5 ?_)
  refine M4 h1 h2 ?_
  refine⟨x,rfl,⟨_,SqL.of h3⟩,a5Y (xs:=IL l) (fun j σ H2=>∃S' x5,σ=[some (.ref a),x1,x2,some (.int (i:Int)),some (.ref d),x5,x6]/\b4X H0 H2 d N S'/\(∀j∈S,j∈S')/\(∀t∈l.take j,t∈S')/\(a7H N S->S'=S)/\F9 H2 a N/\H2 x=some (.lst (IL l))) ?_ ?_ ?_ ?_⟩
  ·exact⟨S,x5,rfl,hS,fun _ h=>h,by simp,fun _=>rfl,hn,h3⟩
  ·rintro j σ H2 _ ⟨_,_,_,_,_,_,_,_,h⟩
   exact SqL.of h
  ·rintro j y _ H2 hy ⟨S',x5,rfl,I2,i1,i2,i3,n2,hx2⟩
   have hy:(l.map fun(n:Nat)=>V.int (n:Int))[j]? = some y:=hy
   rw[c8]at hy
   cases ht:l[j]? with
   | none=>rw[ht]at hy;cases hy
   | some t=>
    rw[ht]at hy
    cases hy
    have tm:=mI ht
    ext
    specialize b7W ?_
    refine⟨d,_,rfl,b4C I2.hd (by have:=a8s _ _ I2.nd I2.lt;omega) t,?_⟩
    refine⟨a1x S' t,_,rfl,I2.put n0 (hlt t tm) (.step (hS.rc i hi) hl tm),fun j hj=>W6.mpr (.inl (i1 j hj)),fun z hz=>?_,fun hc=>?_,n2.dput I2.hd,?_⟩
    ·rw[C7,ht]at hz
     rcases j8.mp hz with q | q
     ·exact W6.mpr (.inl (i2 z q))
     ·exact W6.mpr (.inr (by simpa using q))
    ·rw[i3 hc]
     exact b9R (hc i hi l hl t tm)
    ·rw[g7 (R1 hx2 I2.hd (by intro z;cases z))];exact hx2
  ·rintro _ H2 ⟨S',x5,rfl,I2,i1,i2,i3,n2,hx2⟩
   refine k H2 S' x5 I2 i1 (fun _ t ht=>i2 t ?_) i3 n2
   rw[Q0,a1t];exact ht
 ·ext
  exact k H S x5 hS (fun _ h=>h) (fun h=>(c (d4M h)).elim) (fun _=>rfl) hn
theorem b6t{ms:List Int}{S:List Nat}(h:ms.Perm (S.map fun(n:Nat)=>(n:Int))):∃O:List Nat,O.Perm S/\ms=O.map fun(n:Nat)=>(n:Int):=by
 refine⟨ms.map c0F,?_,?_⟩
 ·have:=h.map c0F
  rw[G6]at this
  have e:(c0F ∘ fun(n:Nat)=>(n:Int))=id:=by funext n;simp
  rw[e,c2I]at this
  exact this
 ·rw[G6]
  have:∀x∈ms,((fun(n:Nat)=>(n:Int)) ∘ c0F) x=id x:=by
   intro x hx
   obtain⟨n,_,rfl⟩:=y7.mp (h.subset hx)
   simp
  rw[a0j this,c2I]
theorem b7G{O:List Nat}(h:(O.map fun(n:Nat)=>(n:Int)).Pairwise (· <= ·)):O.Pairwise (· <= ·):=by
 rw[List.pairwise_map]at h
 exact h.imp fun q=>by omega
theorem c4W(O:List Nat)(t:Nat):(O.map fun(n:Nat)=>(n:Int)).idxOf (t:Int)=O.idxOf t:=by
 induction O with
 | nil=>rfl
 | cons a r ih=>
  rw[C6,d1o,d1o]
  by_cases e:a=t
  ·subst e;simp
  ·have:((a:Int) == (t:Int))=false:=by simp;omega
   have e2:(a == t)=false:=by simpa using e
   rw[this,e2,ih]
theorem P9(h:i<N.length):N[i]? = some N[i]:=by simp
theorem c1M{K:Fg}{E:XK}(hn:F9 H a N)(hp:0<N.length)(hN:N.length<=24)(hs:∀l∈N,l.length<=2/\∀t∈l,t<N.length)(hl:N[N.length - 1]? = some [])
  (k:∀a' N' H',F9 H' a' N'->a0c N'->N'.length<=24->t7 H H'->Q (.ref a') H'):a6o K [.ref a] H Q E:=by
 refine⟨rfl,?_⟩
 unfold b5z
 nofun
 exists b7X fun d H1 hd e1 s1=>?_
 have n1:=hn.same s1
 obtain⟨xs0,hx0,lx0⟩:=hn.len
 exact_mod_cast a0n (P:=fun σ H2=>∃x2 x3 G,σ=[some (.ref a),some (.ref d),x2,x3,none,none,none]/\a5q H H2 d N G/\N.length - 1∈G/\F9 H2 a N) ?_ ?_
 rotate_left
 ·intro nx hnx
  specialize a2n (a1X ?_)
  refine K5 (s1 _ _ hx0) ?_
  refine⟨N.length,by rw[lx0],by omega,by omega,?_⟩
  rw[E7]
  refine a1G (fun i σ H2=>∃x2 x3 G,σ=[some (.ref a),some (.ref d),x2,x3,none,none,none]/\a5q H H2 d N G/\(0<i->N.length - 1∈G)/\F9 H2 a N) ?_ ?_ ?_
  ·exact⟨_,_,[],rfl,⟨s1,e1,by simp,by simp,by simp⟩,by omega,n1⟩
  ·rintro i _ H2 hi ⟨x2,x3,G,rfl,I2,g2,n2⟩
   ext
   obtain⟨xs2,hx2,lx2⟩:=n2.len
   specialize a2n (a1X ?_)
   refine K5 hx2 ?_
   refine⟨N.length,by rw[lx2],by omega,by omega,?_⟩
   rw[E7]
   refine a1G (fun j σ H3=>∃x3 G,σ=[some (.ref a),some (.ref d),some (.int (0+(i:Int))),x3,none,none,none]/\a5q H H3 d N G/\(j=N.length->N.length - 1∈G)/\F9 H3 a N) ?_ ?_ ?_
   ·exact⟨_,G,rfl,I2,by omega,n2⟩
   ·rintro j _ H3 hj ⟨x3,G3,rfl,I3,g3,n3⟩
    exact_mod_cast b3X ?_
    rw[a2K (j:Int)]
    refine c7M hd n3 hN (P9 hj) (hs _ (G0 _)).1 I3 fun H4 G4 I4 sub4 h4 n4=>?_
    refine⟨_,G4,rfl,I4,fun z=>?_,n4⟩
    have e:N.length - 1=j:=by omega
    rw[e]at hl ⊢
    refine h4 ?_
    rw[P9 hj]at hl
    exact Option.some.inj hl
   ·rintro _ H3 ⟨x3,G3,rfl,I3,g3,n3⟩
    exact⟨_,_,G3,rfl,I3,fun _=>g3 rfl,n3⟩
  ·rintro _ H2 ⟨x2,x3,G,rfl,I2,g2,n2⟩
   exact hnx _ _ ⟨x2,x3,G,rfl,I2,g2 hp,n2⟩
 rintro _ H2 ⟨x2,x3,G,rfl,I2,hlast,n2⟩
 nofun
 exact_mod_cast T7 (a1X ?_)
 obtain⟨xs2,hx2,lx2⟩:=n2.len
 ext
 refine K5 hx2 ?_
 refine⟨N.length,by rw[lx2],by omega,by omega,fun A hA=>?_⟩
 rw[E7]
 refine a8y (fun i ys H3=>∃as:List Addr,ys=as.map V.ref/\as.length=i/\(∀(j:Nat) x l,as[j]? = some x->(a3P N G)[j]? = some l->H3 x=some (.lst (IL l))/\x≠A)/\H3 A=some (.lst ys)/\t7 H2 H3) ?_ ?_ ?_ ?_
 ·exact⟨[],rfl,rfl,by simp,c7,u0 hA⟩
 ·rintro i ys H3 ⟨_,_,_,_,h,_⟩
  exact h
 ·rintro i ys H3 hi ⟨as,rfl,la,at3,hA3,s3⟩ R hR
  rw[a2K]
  obtain⟨ys0,x,f1,f2,f3,f4⟩:=(n2.same s3).at (P9 hi)
  have more:∀q H4,t7 H3 H4->(∀l,(a3P N G)[i]? = some l->H4 q=some (.lst (IL l)))->q≠A->R (.ref q) H4:=by
   intro q H4 s4 hq nq
   refine hR _ _ (s4 _ _ hA3) (K0 (by rw[a9];omega)) ⟨as++[q],by simp,by simp[la],?_,c7,fun b o e=>?_⟩
   ·intro j y l' h1 h2
    rcases a0g h1 with ⟨_,g1⟩ | ⟨hj,g1⟩
    ·obtain⟨g2,g3⟩:=at3 j y l' g1 h2
     exact⟨by rw[g7 g3];exact s4 _ _ g2,g3⟩
    ·rw[hj,la]at h2
     subst g1
     exact⟨by rw[g7 nq];exact hq l' h2,nq⟩
   ·rw[g7 (c6 e hA)]
    exact s4 _ _ (s3 _ _ e)
  ext
  specialize c3I ?_
  obtain⟨o,g1,g2⟩:=a3f (s3 _ _ I2.hd) i
  refine⟨d,o,rfl,g1,?_⟩
  rw[g2]
  ext
  refine Y8 (fun c=>?_) (fun c=>?_)
  ·ext
   refine M4 f1 f2 ?_
   refine more x H3 (t7.refl _) (fun l hl'=>?_) ?_
   ·rw[a8t (P9 hi) (of_decide_eq_true c)]at hl'
    cases hl'
    exact f3
   ·refine(c6 (H:=H2) (a:=x) (b:=A) (o:=.lst (IL N[i])) ?_ hA)
    obtain⟨ys1,x',f1',f2',f3',_⟩:=n2.at (P9 hi)
    have e1:=s3 _ _ f1'
    rw[f1]at e1
    cases e1
    rw[f2]at f2'
    cases f2'
    exact f3'
  ·ext
   exists K5 f1 ?_
   exists D9 (by simp) fun p1 H4 hp1 e4 s4=>?_
   exists M4 (s4 _ _ f1) f2 ?_
   refine b9O (s4 _ _ f3) fun p2 H5 hp2 e5 s5=>?_
   rw[d2H,c8l]at e5
   have hl2:=(hs _ (G0 (l:=N) (h:=hi))).1
   refine a4U (s5 _ _ e4) e5 (D9 (by simp[Q0];omega) fun p3 H6 hp3 e6 s6=>?_)
   refine more p3 H6 ((s4.trans s5).trans s6) (fun l hl'=>?_) ?_
   ·rw[b3g (P9 hi) (fun z=>c (d4M z))]at hl'
    cases hl'
    rw[e6,f4]
    have:((N.length:Int) - 1)=((N.length - 1:Nat):Int):=by omega
    rw[this]
    rfl
   ·exact(c6 ((s4.trans s5) _ _ hA3) hp3).symm
 rintro ys H3 ⟨as,rfl,la,at3,hA3,s3⟩
 obtain⟨N2,hN2⟩:∃N2,N2=a3P N G:=⟨_,rfl⟩
 have len2:N2.length=N.length:=by rw[hN2,b3h]
 have n3:F9 H3 A N2:=⟨as,hA3,by rw[len2,la],fun i x l h1 h2=>(at3 i x l h1 (hN2 ▸ h2)).1⟩
 have small2:∀l∈N2,l.length<=2/\∀t∈l,t<N2.length:=by
  rw[len2,hN2]
  exact b6w hp hs hl hlast
 have gd2:∀k,k<N2.length->Gd N2 k:=by
  rw[len2,hN2]
  exact c7O I2.gd hl hlast
 have s03:t7 H H3:=I2.same.trans s3
 clear at3 hN2 la
 ext
 nofun
 intro r hr
 refine⟨c7,[(Sum.inl 0,V.bl true)],rfl,by simp,?_⟩
 have e4:(upd (upd H3 r (.dK [])) r (.dK (a9t [] [(Sum.inl 0,V.bl true)])))=upd H3 r (.dK (KS [0])):=by
  rw[a6k];rfl
 rw[e4]
 ext
 obtain⟨H4,hH4⟩:∃H4,H4=upd H3 r (.dK (KS [0])):=⟨_,rfl⟩
 rw[<-hH4]
 have s4:t7 H3 H4:=hH4 ▸ u0 hr
 have er:H4 r=some (.dK (KS [0])):=hH4 ▸ c7
 have n4:=n3.same s4
 clear hH4 e4
 have hp2:0<N2.length:=by omega
 exact_mod_cast a0n (P:=fun σ H5=>∃x2 x3 x5 S,σ=[some (.ref A),some (.ref d),x2,x3,some (.ref r),x5,none]/\b4X H3 H5 r N2 S/\a7H N2 S/\F9 H5 A N2) ?_ ?_
 rotate_left
 ·intro nx hnx
  obtain⟨ys4,hy4,ly4⟩:=n4.len
  specialize a2n (a1X ?_)
  refine K5 hy4 ?_
  refine⟨N2.length,by rw[ly4],by omega,by omega,?_⟩
  rw[E7]
  refine a1G (fun i σ H5=>∃x2 x3 x5 S,σ=[some (.ref A),some (.ref d),x2,x3,some (.ref r),x5,none]/\b4X H3 H5 r N2 S/\(a7H N2 S\/i+1<=S.length)/\F9 H5 A N2) ?_ ?_ ?_
  ·exact⟨_,_,_,[0],rfl,⟨s4,er,by simp,by simpa using hp2,by simpa using Rc.zero,by simp⟩,.inr (by simp),n4⟩
  ·rintro i _ H5 hi ⟨x2,x3,x5,S,rfl,I5,g5,n5⟩
   ext
   obtain⟨ys5,hy5,ly5⟩:=n5.len
   specialize a2n (a1X ?_)
   refine K5 hy5 ?_
   refine⟨N2.length,by rw[ly5],by omega,by omega,?_⟩
   rw[E7]
   refine a1G (fun j σ H6=>∃x3 x5 S',σ=[some (.ref A),some (.ref d),some (.int (0+(i:Int))),x3,some (.ref r),x5,none]/\b4X H3 H6 r N2 S'/\(∀k∈S,k∈S')/\(∀k∈S,k<j->∀l,N2[k]? = some l->∀t∈l,t∈S')/\(a7H N2 S->S'=S)/\F9 H6 A N2) ?_ ?_ ?_
   ·exact⟨_,_,S,rfl,I5,fun _ h=>h,by omega,fun _=>rfl,n5⟩
   ·rintro j _ H6 hj ⟨x3,x5,S',rfl,I6,b1,b2,b3,n6⟩
    exact_mod_cast b3X ?_
    rw[a2K (j:Int)]
    refine c3T hr n6 (by omega) (P9 hj) (small2 _ (G0 _)).2 I6 fun H7 S7 x5 I7 c1 c2 c3 n7=>?_
    refine⟨_,x5,S7,rfl,I7,fun k hk=>c1 k (b1 k hk),fun k hk hkj l hl' t ht=>?_,fun hc=>?_,n7⟩
    ·by_cases e:k=j
     ·subst e
      rw[P9 hj]at hl'
      cases hl'
      exact c2 (b1 k hk) t ht
     ·exact c1 t (b2 k hk (by omega) l hl' t ht)
    ·have:=b3 hc
     rw[this]at c3
     exact c3 hc
   ·rintro _ H6 ⟨x3,x5,S',rfl,I6,b1,b2,b3,n6⟩
    refine⟨_,x3,x5,S',rfl,I6,?_,n6⟩
    rcases g5 with hc | hc
    ·exact .inl (by rw[b3 hc];exact hc)
    ·by_cases hcl:a7H N2 S
     ·exact .inl (by rw[b3 hcl];exact hcl)
     ·right
      obtain⟨t,t1,t2⟩:∃t,t∈S'/\¬t∈S:=by
       refine Classical.byContradiction fun hno=>hcl fun k hk l hl' t ht=>?_
       refine Classical.byContradiction fun hts=>hno ⟨t,b2 k hk (I5.lt k hk) l hl' t ht,hts⟩
      have:(t::S).length<=S'.length:=by
       have nd:(t::S).Nodup:=Z0.mpr ⟨t2,I5.nd⟩
       have sub:∀k∈t::S,k∈S':=fun k hk=>(c5.mp hk).elim (fun z=>z ▸ t1) (b1 k)
       exact c4G _ _ nd sub
      rw[j9]at this
      omega
  ·rintro _ H5 ⟨x2,x3,x5,S,rfl,I5,g5,n5⟩
   refine hnx _ _ ⟨x2,x3,x5,S,rfl,I5,g5.elim id fun h=>?_,n5⟩
   have:=a8s _ _ I5.nd I5.lt
   omega
 rintro _ H5 ⟨y2,y3,y5,S,rfl,I5,hcl,n5⟩
 have hSl:=a8s _ _ I5.nd I5.lt
 nofun
 have ek:(KS S).map (fun kv=>kV kv.1)=(S.map fun(n:Nat)=>(n:Int)).map V.int:=by
  unfold KS;rw[G6,G6];rfl
 have ld:a9g [.ref r] H5=fun Q=>∀l,H5 l=none->Q (.ref l) (upd H5 l (.lst ((KS S).map fun kv=>kV kv.1))):=by
  unfold a9g
  simp only[I5.hd]
 rw[ld]
 intro p6 hp6
 rw[ek]
 obtain⟨H6,hH6⟩:∃H6,H6=upd H5 p6 (.lst ((S.map fun(n:Nat)=>(n:Int)).map V.int)):=⟨_,rfl⟩
 rw[<-hH6]
 have s6:t7 H5 H6:=hH6 ▸ u0 hp6
 have e6:H6 p6=some (.lst ((S.map fun(n:Nat)=>(n:Int)).map V.int)):=hH6 ▸ c7
 clear hH6 ld
 ext
 have so:a6t [.ref p6] H6=fun Q=>∃ns,a2T ((S.map fun(n:Nat)=>(n:Int)).map V.int)=some ns/\ns.length<64/\∀(p:Addr) (ms:List Int),ms.Perm ns->ms.Pairwise (· <= ·)->H6 p=none->Q (.ref p) (upd H6 p (.lst (ms.map V.int))):=by
  unfold a6t
  simp only[e6]
 rw[so]
 refine⟨_,b1Q _,by rw[a9];omega,fun p7 ms hperm hsort hp7=>?_⟩
 obtain⟨O,hO,rfl⟩:=b6t hperm
 have hsO:=b7G hsort
 have ndO:O.Nodup:=hO.nodup_iff.mpr I5.nd
 have memO:∀k,k∈O↔k∈S:=fun k=>hO.mem_iff
 obtain⟨H7,hH7⟩:∃H7,H7=upd H6 p7 (.lst ((O.map fun(n:Nat)=>(n:Int)).map V.int)):=⟨_,rfl⟩
 rw[<-hH7]
 have s7:t7 H6 H7:=hH7 ▸ u0 hp7
 have e7:H7 p7=some (.lst ((O.map fun(n:Nat)=>(n:Int)).map V.int)):=hH7 ▸ c7
 clear hH7 so
 have hOl:O.length<=24:=by rw[hO.length_eq];omega
 ext
 have n7:=(n5.same s6).same s7
 have s07:t7 H H7:=((s03.trans I5.same).trans s6).trans s7
 have valid:a0c (a7g N2 O):=c0V ((memO 0).mpr I5.zero) hsO ndO (fun k hk=>I5.lt k ((memO k).mp hk)) (by omega) (fun k hk l hl' t ht=>(memO t).mpr (hcl k ((memO k).mp hk) l hl' t ht)) (fun k hk=>I5.rc k ((memO k).mp hk))
  (fun l hl'=>(small2 l hl').1) gd2
 specialize T7 (Z5 ?_)
 refine⟨p7,rfl,⟨_,SqL.of e7⟩,fun B hB=>?_⟩
 refine W8 (xs:=(O.map fun(n:Nat)=>(n:Int)).map V.int) (fun i ys H8=>∃bs:List Addr,ys=bs.map V.ref/\bs.length=i/\(∀(j:Nat) x l,bs[j]? = some x->(a7g N2 O)[j]? = some l->H8 x=some (.lst (IL l))/\x≠B)/\H8 B=some (.lst ys)/\t7 H7 H8) ?_ ?_ ?_ ?_ ?_
 ·exact⟨[],rfl,rfl,by simp,c7,u0 hB⟩
 ·rintro i ys H8 ⟨_,_,_,_,h,_⟩
  exact h
 ·rintro i ys H8 _ ⟨_,_,_,_,_,s8⟩
  exact SqL.of (s8 _ _ e7)
 ·rintro i x ys H8 hx ⟨bs,rfl,lb,at8,hB8,s8⟩ R hR
  rw[c8,c8]at hx
  cases ho:O[i]? with
  | none=>rw[ho]at hx;cases hx
  | some kk=>
   rw[ho]at hx
   cases hx
   have hko:=mI ho
   have hks:=(memO kk).mp hko
   have hkl:=I5.lt kk hks
   obtain⟨ys8,x8,f1,f2,f3,_⟩:=(n7.same s8).at (P9 hkl)
   obtain⟨l8,hl8⟩:∃l8,l8=N2[kk]:=⟨_,rfl⟩
   rw[<-hl8]at f3
   have hN8:N2[kk]? = some l8:=by rw[hl8];exact P9 hkl
   specialize T7 (Z5 ?_)
   refine M4 f1 f2 ?_
   refine⟨x8,rfl,⟨_,SqL.of f3⟩,fun C hC=>?_⟩
   refine W8 (xs:=IL l8) (fun j zs H9=>zs=IL ((l8.take j).map fun t=>O.idxOf t)/\H9 C=some (.lst zs)/\t7 H8 H9) ⟨rfl,c7,u0 hC⟩ ?_ ?_ ?_ ?_
   ·rintro j zs H9 ⟨_,h,_⟩
    exact h
   ·rintro j zs H9 _ ⟨_,_,s9⟩
    exact SqL.of (s9 _ _ f3)
   ·rintro j y zs H9 hy ⟨rfl,hC9,s9⟩ R' hR'
    have hy:(l8.map fun(n:Nat)=>V.int (n:Int))[j]? = some y:=hy
    rw[c8]at hy
    cases ht:l8[j]? with
    | none=>rw[ht]at hy;cases hy
    | some t=>
     rw[ht]at hy
     cases hy
     have htO:t∈O:=(memO t).mpr (hcl kk hks l8 hN8 t (mI ht))
     specialize a6E ?_
     have e9:H9 p7=_:=s9 _ _ (s8 _ _ e7)
     exists ⟨a4H e9,?_⟩
     have ix:a9h (.ref p7) [.int (t:Int)] H9=fun Q=>∃ns,a2T ((O.map fun(n:Nat)=>(n:Int)).map V.int)=some ns/\ns.length<10000/\(t:Int)∈ns/\Q (.int (ns.idxOf (t:Int):Nat)) H9:=by
      unfold a9h
      simp only[e9]
     rw[ix]
     refine⟨_,b1Q _,by rw[a9];omega,y7.mpr ⟨t,htO,rfl⟩,?_⟩
     rw[c4W]
     have hl2:=(small2 l8 (mI hN8)).1
     refine hR' _ _ hC9 (K0 ?_) ⟨?_,c7,fun b o e=>?_⟩
     ·rw[Q0,a9,E1];omega
     ·unfold IL
      rw[c0b l8 (fun t=>O.idxOf t) j ht]
      simp
     ·rw[g7 (c6 e hC)];exact s9 _ _ e
   ·rintro zs H9 ⟨rfl,hC9,s9⟩
    rw[Q0,a1t]at hC9
    refine hR _ _ (s9 _ _ hB8) (K0 (by rw[a9];have:=(gI ho);omega)) ⟨bs++[C],by simp,by simp[lb],?_,c7,fun b o e=>?_⟩
    ·have nCB:C≠B:=(c6 hB8 hC).symm
     intro j y l' h1 h2
     rcases a0g h1 with ⟨_,g1⟩ | ⟨hj,g1⟩
     ·obtain⟨g2,g3⟩:=at8 j y l' g1 h2
      exact⟨by rw[g7 g3];exact s9 _ _ g2,g3⟩
     ·rw[hj,lb]at h2
      subst g1
      refine⟨?_,nCB⟩
      rw[g7 nCB,hC9]
      have h2':(a7g N2 O)[i]? = some (l8.map fun t=>O.idxOf t):=by
       unfold a7g
       rw[c8,ho]
       simp[M5,hN8]
      rw[h2']at h2
      cases h2
      rfl
    ·rw[g7 (c6 e hB)]
     exact s9 _ _ (s8 _ _ e)
 ·rintro ys H8 ⟨bs,rfl,lb,at8,hB8,s8⟩
  rw[a9,a9]at lb
  have hlen:(a7g N2 O).length=O.length:=by simp[a7g]
  exact k B (a7g N2 O) H8 ⟨bs,hB8,by rw[lb,hlen],fun i x l h1 h2=>(at8 i x l h1 h2).1⟩ valid (by rw[hlen];exact hOl) (s07.trans s8)
structure R4(H:Hp)(a:Addr)(N:Nt):Prop where
 ex:∃rs:List Addr,H a=some (.lst (rs.map V.ref))/\rs.length=N.length/\∀(i:Nat) x l,rs[i]? = some x->N[i]? = some l->a5u H (.ref x) (l.length == 2)
theorem R4.same(h:R4 H a N)(k:t7 H H'):R4 H' a N:=by
 obtain⟨rs,h1,h2,h3⟩:=h.ex
 exact⟨rs,k a _ h1,h2,fun i x l e1 e2=>(h3 i x l e1 e2).ts (t7.ts k)⟩
theorem R4.kept(h:R4 H a N)(hB:Bag H b c)(k:D1 b H H'):R4 H' a N:=by
 obtain⟨rs,h1,h2,h3⟩:=h.ex
 exact⟨rs,k.1 a _ h1 (a6s hB h1),h2,fun i x l e1 e2=>(h3 i x l e1 e2).ts (D1.ts k hB)⟩
theorem c5e{K:Fg}{E:XK}(hB:Bag H b c)
  (k:∀p ra na N H',H' p=some (.tup [.ref ra,.ref na])->R4 H' ra N->F9 H' na N->a0c N->N.length<=24->Bag H' b c->D1 b H H'->Q (.ref p) H'):a8a K [.ref b] H Q E:=by
 refine⟨rfl,?_⟩
 unfold b9w
 nofun
 exists F2 hB (by decide) (by decide) fun n1 H1 a0 a1 B1 k1=>?_
 exact_mod_cast a0n (P:=fun σ H2=>∃m:Nat,σ=[some (.ref b),some (.int (m:Int)),none,none,none]/\0<m/\m<=24/\Bag H2 b c/\D1 b H H2) ?_ ?_
 rotate_left
 ·intro nx hnx
  ext
  exists F2 B1 (by decide) (by decide) fun n2 H2 b0 b1 B2 k2=>?_
  refine Y8 (fun _=>?_) (fun _=>?_)
  ·ext
   exists F2 B2 (by decide) (by decide) fun n3 H3 c0 c1 B3 k3=>?_
   obtain⟨n3,rfl⟩:=L7 c0
   exact hnx _ _ ⟨15+n3,rfl,by omega,by omega,B3,(k1.trans k2).trans k3⟩
  ·ext
   obtain⟨n1,rfl⟩:=L7 a0
   exact hnx _ _ ⟨1+n1,rfl,by omega,by omega,B2,k1.trans k2⟩
 rintro _ H2 ⟨m,rfl,m0,m1,B2,k2⟩
 nofun
 exists d0B B2 m0 m1 fun a N0 H3 n3 l3 s3 z3 B3 k3=>?_
 exists c1M n3 (by omega) (by omega) (by rw[l3];exact s3) (by rw[l3];exact z3) fun na N H4 n4 v4 lN s4=>?_
 have B4:=B3.same s4
 have k4:D1 b H H4:=(k2.trans k3).trans (D1.of_same s4)
 nofun
 exists c4H B4 fun sa H5 N5 B5 k5 _=>?_
 have n5:=n4.kept B4 v4.two k5
 nofun
 specialize T7 (a1X ?_)
 exists F2 B5 (by decide) (by decide) fun n6 H6 d0 d1 B6 k6=>?_
 obtain⟨n6,rfl⟩:=L7 d0
 refine⟨1+n6,rfl,by omega,by omega,fun D hD=>?_⟩
 obtain⟨nb,nc⟩:=B6.nb hD
 have n6':=n5.kept B5 v4.two k6
 obtain⟨N6,_⟩:=N5.kept B5 k6
 refine a8y (fun i ys H7=>∃ps:List Addr,ys=ps.map V.ref/\ps.length=i/\(∀p∈ps,a8F H7 p)/\H7 D=some (.lst ys)/\Bag H7 b c/\D1 b H6 H7) ?_ ?_ ?_ ?_
 ·exact⟨[],rfl,rfl,by simp,c7,B6.new hD,D1.new hD⟩
 ·rintro i ys H7 ⟨_,_,_,_,h,_⟩
  exact h
 ·rintro i ys H7 hi ⟨ps,rfl,lp,hp,hD7,B7,k7⟩ R hR
  obtain⟨N7,_⟩:=N6.kept B6 k7
  ext
  refine c7S B7 N7 fun p H8 hd8 _ B8 k8=>?_
  have hD8:=k8.1 _ _ hD7 nb
  refine hR _ _ hD8 (K0 (by rw[a9];omega)) ⟨ps++[p],by simp,by simp[lp],fun q hq=>?_,c7,B8.put nb nc,(k7.trans k8).put hD⟩
  rcases j8.mp hq with z | z
  ·exact((hp q z).ts (D1.ts k8 B7)).ts (a0o.put hD8)
  ·rw[g8.mp z];exact hd8.ts (a0o.put hD8)
 rintro ys H7 ⟨ps,rfl,lp,hp,hD7,B7,k7⟩
 ext
 have P7:b7e H7 D:=⟨ps,hD7,by intro z;subst z;simp at lp;omega,by omega,hp⟩
 obtain⟨N7,_⟩:=N6.kept B6 k7
 have n7:=n6'.kept B6 v4.two k7
 have k07:D1 b H H7:=((k4.trans k5).trans k6).trans k7
 specialize T7 (Z5 ?_)
 obtain⟨as,q1,q2,q3⟩:=id n7.ex
 refine⟨na,rfl,⟨_,SqL.of q1⟩,fun R' hR'=>?_⟩
 obtain⟨rb,rc⟩:=B7.nb hR'
 refine W8 (xs:=as.map V.ref) (fun i ys H8=>∃rs:List Addr,ys=rs.map V.ref/\rs.length=i/\(∀(j:Nat) x l,rs[j]? = some x->N[j]? = some l->a5u H8 (.ref x) (l.length == 2))/\H8 R'=some (.lst ys)/\Bag H8 b c/\D1 b H7 H8) ?_ ?_ ?_ ?_ ?_
 ·exact⟨[],rfl,rfl,by simp,c7,B7.new hR',D1.new hR'⟩
 ·rintro i ys H8 ⟨_,_,_,_,h,_⟩
  exact h
 ·rintro i ys H8 _ ⟨_,_,_,_,_,_,k8⟩
  exact SqL.of (k8.1 _ _ q1 (a6s B7 q1))
 ·rintro i x ys H8 hx ⟨rs,rfl,lr,hr,hR8,B8,k8⟩ R hR
  rw[c8]at hx
  cases hxa:as[i]? with
  | none=>rw[hxa]at hx;cases hx
  | some xa=>
   rw[hxa]at hx
   cases hx
   have hi:i<N.length:=by rw[<-q2];exact(gI hxa)
   have n8:=n7.kept B7 v4.two k8
   have hx8:=q3 i xa _ hxa (P9 hi)
   have hx8:=k8.1 _ _ hx8 (b5L B7 hx8 (by rw[Q0];have:=v4.two _ (G0 hi);omega))
   obtain⟨N8,_⟩:=N7.kept B7 k8
   have P8:=P7.kept B7 k8
   ext
   exists K5 hx8 ?_
   rw[Q0]
   refine c9t B8 N8 P8 fun v H9 r9 B9 k9=>?_
   obtain⟨pv,xv,rfl,_⟩:=id r9
   have hR9:=k9.1 _ _ hR8 rb
   refine hR _ _ hR9 (K0 (by rw[a9];omega)) ⟨rs++[pv],by simp,by simp[lr],?_,c7,B9.put rb rc,(k8.trans k9).put hR'⟩
   intro j y l h1 h2
   rcases a0g h1 with ⟨_,g1⟩ | ⟨hj,g1⟩
   ·exact((hr j y l g1 h2).ts (D1.ts k9 B8)).ts (a0o.put hR9)
   ·rw[hj,lr,P9 hi]at h2
    cases h2
    subst g1
    exact r9.ts (a0o.put hR9)
 ·rintro ys H8 ⟨rs,rfl,lr,hr,hR8,B8,k8⟩
  rw[a9]at lr
  ext
  refine D9 (by simp) fun p H9 hp9 e9 s9=>?_
  exact k p R' na N H9 e9 ((⟨rs,hR8,by rw[lr,q2],hr⟩:R4 H8 R' N).same s9) ((n7.kept B7 v4.two k8).same s9) v4 lN (B8.same s9) ((k07.trans k8).trans (D1.of_same s9))
theorem big(h:n<=1000000):n<=j7:=t5 h (by rw[a2v];decide)
theorem a1s{K:Fg}{E:XK}(ha:H a=some (.lst xs))(h1:1<=xs.length)(h2:xs.length<=400)(k:Q .non H):a0m K [.ref a,.int 0,.int 1] H Q E:=by
 refine⟨rfl,?_⟩
 unfold a5K
 nofun
 exists Z7 (s := "list") (by simp only[J9,ha]) (by decide) ?_
 exists v7 (by decide) ?_
 exists K5 ha ?_
 exists v7 (d4L (by omega)) ?_
 exists K5 ha ?_
 exists v7 (d4L (by omega)) ?_
 exact k
theorem a2x{K:Fg}{E:XK}(ha:H a=some (.lst (u6 n (V.bl true))))(k:∀H',t7 H H'->Q .non H'):a0s K [.ref a] H Q E:=by
 refine⟨rfl,?_⟩
 unfold a7U
 specialize a2n (a8f ?_)
 refine⟨a,rfl,⟨_,SqL.of ha⟩,?_⟩
 refine c0g n (fun i σ H2=>∃x1 x2,σ=[some (.ref a),x1,x2]/\t7 H H2) ⟨_,_,rfl,t7.refl _⟩ ?_ ?_ ?_
 ·rintro _ H2 ⟨x1,x2,rfl,s2⟩
  exact⟨⟨_,SqL.of (s2 _ _ ha),by simp⟩,k H2 s2⟩
 ·rintro i _ H2 hi ⟨x1,x2,rfl,s2⟩
  exact⟨_,V.bl true,SqL.of (s2 _ _ ha),by rw[J4,if_pos hi]⟩
 ·rintro i _ H2 hi ⟨x1,x2,rfl,s2⟩ x H3 ⟨p,y,hp,rfl,rfl,hy⟩
  have hy:=hy _ (SqL.of (s2 _ _ ha))
  rw[J4,if_pos hi]at hy
  cases hy
  exists a8g (SqT.of c7) ?_
  exists v7 rfl ?_
  exact⟨_,_,rfl,s2.trans (u0 hp)⟩
theorem b0O(n:Nat):u6 n (V.bl true)++[V.bl true]=u6 (n+1) (V.bl true):=by
 rw[a7J]
theorem d0E(h:n=0\/n=1):inV (.int (n:Int)) [.int 0,.int 1]=true:=by
 rcases h with rfl | rfl <;> decide
theorem b4S{K:Fg}{x:Addr}{E:XK}(hv:a5u H v (l.length == 2))(hx:H x=some (.lst (IL l)))(h2:l.length<=2)(hlt:∀t∈l,t<m)(k:∀H',t7 H H'->Q (.bl true) H') :
  a0f K [v,.ref x,.int (m:Int)] H Q E:=by
 obtain⟨p,xs,rfl,hp,_,kd,r,rfl,hk⟩:=hv
 refine⟨rfl,?_⟩
 unfold a5L
 nofun
 exists Z7 (s := "list") (by simp only[J9,hx]) (by decide) ?_
 exists v7 (by decide) ?_
 exact_mod_cast a0n (P:=fun σ H1=>∃w ws,σ=[some (.ref p),some (.ref x),some (.int (m:Int)),some (.ref w)]/\H1 w=some (.tup ws)/\ws.all K8=true/\inV (.int (l.length:Int)) ws=true/\t7 H H1) ?_ ?_
 rotate_left
 ·intro nx hnx
  ext
  exists Z6 hp (a3g _ _) ?_
  by_cases e:kd = "ask"
  ·exists A8 (d4M (by rw[e])) ?_
   refine D9 (by simp) fun w H1 hw e1 s1=>?_
   rw[d4M e]at hk
   have:l.length=2:=by simpa using hk.symm
   exact hnx _ _ ⟨w,_,rfl,e1,rfl,by rw[this];decide,s1⟩
  ·exists v7 (d4L (fun z=>e (V.str.inj z))) ?_
   refine D9 (by simp) fun w H1 hw e1 s1=>?_
   rw[d4L e]at hk
   have:¬l.length=2:=by
    intro z
    rw[z]at hk
    exact absurd hk (by decide)
   exact hnx _ _ ⟨w,_,rfl,e1,rfl,d0E (by omega),s1⟩
 rintro _ H1 ⟨w,ws,rfl,hw,fw,iw,s1⟩
 ext
 exists K5 (s1 _ _ hx) ?_
 rw[Q0]
 refine b1r hw rfl fw ?_
 exists ⟨_,rfl,A8 iw ?_⟩
 specialize T7 (Z5 ?_)
 refine⟨x,rfl,⟨_,SqL.of (s1 _ _ hx)⟩,fun D hD=>?_⟩
 refine W8 (xs:=IL l) (fun i ys H2=>ys=u6 i (V.bl true)/\H2 D=some (.lst ys)/\t7 H1 H2) ⟨rfl,c7,u0 hD⟩ ?_ ?_ ?_ ?_
 ·rintro i ys H2 ⟨_,h,_⟩
  exact h
 ·rintro i ys H2 _ ⟨_,_,s2⟩
  exact SqL.of (s2 _ _ (s1 _ _ hx))
 ·rintro i y ys H2 hy ⟨rfl,hD2,s2⟩ R hR
  have hy:(l.map fun(n:Nat)=>V.int (n:Int))[i]? = some y:=hy
  rw[c8]at hy
  cases ht:l[i]? with
  | none=>rw[ht]at hy;cases hy
  | some t=>
   rw[ht]at hy
   cases hy
   have hi:=(gI ht)
   have:=hlt t (mI ht)
   ext
   refine b4w (by omega) (by omega) ?_
   refine hR _ _ hD2 (K0 (by rw[J1];omega)) ⟨b0O i,c7,fun b o e=>?_⟩
   rw[g7 (c6 e hD)];exact s2 _ _ e
 ·rintro ys H2 ⟨rfl,hD2,s2⟩
  ext
  have e:u6 (IL l).length (V.bl true)=(u6 l.length true).map V.bl:=by rw[Q0];simp
  rw[e]at hD2
  refine c8H hD2 ?_
  have:(u6 l.length true).all id=true:=by simp
  rw[this]
  exact k H2 (s1.trans s2)
theorem a6b{K:Fg}{E:XK}(hr:R4 H ra N)(hn:F9 H na N)(h400:N.length<=400)(h2:∀l∈N,l.length<=2)(hlt:∀l∈N,∀t∈l,t<N.length)(k:∀H',t7 H H'->Q .non H') :
  a0H K [.ref ra,.ref na] H Q E:=by
 obtain⟨rs,r1,r2,r3⟩:=id hr.ex
 obtain⟨as,a1,a2,a3⟩:=id hn.ex
 refine⟨rfl,?_⟩
 unfold a6O
 nofun
 exists Z7 (s := "list") (by simp only[J9,a1]) (by decide) ?_
 exists v7 (by decide) ?_
 exists K5 a1 ?_
 exists K5 r1 ?_
 exists v7 (by rw[a9,a9,r2,a2];simp) ?_
 specialize b0n (b7U ?_)
 refine⟨ra,na,rfl,⟨_,SqL.of r1⟩,⟨_,SqL.of a1⟩,fun D hD=>?_⟩
 refine b4E N.length (fun i ys H2=>ys=u6 i (V.bl true)/\H2 D=some (.lst ys)/\t7 H H2) ⟨rfl,c7,u0 hD⟩ ?_ ?_ ?_ ?_
 ·rintro i ys H2 ⟨_,h,_⟩
  exact h
 ·rintro ys H2 ⟨rfl,hD2,s2⟩
  exists ⟨⟨_,_,SqL.of (s2 _ _ r1),SqL.of (s2 _ _ a1),.inl (by rw[a9,r2];exact d9 _)⟩,?_⟩
  exact a2x hD2 fun H3 s3=>k H3 (s2.trans s3)
 ·rintro i ys H2 hi ⟨_,_,s2⟩
  have e1:rs[i]? = some (rs[i]'(by omega)):=by simp[r2,hi]
  have e2:as[i]? = some (as[i]'(by omega)):=by simp[a2,hi]
  exact⟨_,_,_,_,SqL.of (s2 _ _ r1),SqL.of (s2 _ _ a1),by rw[c8,e1];rfl,by rw[c8,e2];rfl⟩
 ·rintro i ys H2 hi ⟨rfl,hD2,s2⟩ x H3 ⟨p,y1,y2,hp,rfl,rfl,g1,g2⟩
  obtain⟨rx,e1⟩:∃rx,rs[i]? = some rx:=⟨_,b9 (by omega)⟩
  obtain⟨ax,e2⟩:∃ax,as[i]? = some ax:=⟨_,b9 (by omega)⟩
  have g1:=g1 _ (SqL.of (s2 _ _ r1))
  have g2:=g2 _ (SqL.of (s2 _ _ a1))
  rw[c8,e1]at g1
  rw[c8,e2]at g2
  cases g1
  cases g2
  refine⟨p,_,_,rfl,SqT.of c7,fun R S hR hS=>?_⟩
  have s3:t7 H2 (upd H2 p (.tup [V.ref rx,V.ref ax])):=u0 hp
  obtain⟨H3,hH3⟩:∃H3,H3=upd H2 p (.tup [V.ref rx,V.ref ax]):=⟨_,rfl⟩
  rw[<-hH3]at s3 ⊢
  ext
  exists A8 rfl ?_
  have s03:=s2.trans s3
  exists K5 (s03 _ _ r1) ?_
  have hl:=P9 hi
  rw[a9,r2]
  refine b4S ((r3 i _ _ e1 hl).ts (t7.ts s03)) (s03 _ _ (a3 i _ _ e2 hl)) (h2 _ (G0 hi)) (hlt _ (G0 hi)) fun H4 s4=>?_
  refine hR _ _ (s4 _ _ (s3 _ _ hD2)) (K0 (by rw[J1];omega)) ⟨b0O i,c7,fun b o e=>?_⟩
  rw[g7 (c6 e hD)];exact s4 _ _ (s03 _ _ e)
def a4b(N:Nt)(k:Nat):Bool:=(N.getD k []).isEmpty
def a7h(N:Nt):List Nat:=(l6 N.length).filter (a4b N)
theorem b3i{k:Nat}(h:N[k]? = some []):k∈a7h N:=by
 refine Z1.mpr ⟨E5.mpr (gI h),?_⟩
 unfold a4b
 simp[M5,h]
theorem a9N{K:Fg}{E:XK}(hn:F9 H na N)(h400:N.length<=400)(k:∀a H',H a=none->H' a=some (.lst (IL (a7h N)))->t7 H H'->Q (.ref a) H'):a2D K [.ref na] H Q E:=by
 obtain⟨as,a1,a2,a3⟩:=id hn.ex
 refine⟨rfl,?_⟩
 unfold b0S
 ext
 specialize b0n (a8f ?_)
 refine⟨na,rfl,⟨_,SqL.of a1⟩,fun D hD=>?_⟩
 refine b4E N.length (fun i ys H2=>ys=IL ((l6 i).filter (a4b N))/\H2 D=some (.lst ys)/\t7 H H2) ⟨rfl,c7,u0 hD⟩ ?_ ?_ ?_ ?_
 ·rintro i ys H2 ⟨_,h,_⟩
  exact h
 ·rintro ys H2 ⟨rfl,hD2,s2⟩
  exact⟨⟨_,SqL.of (s2 _ _ a1),by rw[a9,a2];exact d9 _⟩,k D H2 hD hD2 s2⟩
 ·rintro i ys H2 hi ⟨_,_,s2⟩
  exact⟨_,_,SqL.of (s2 _ _ a1),by rw[c8,b9 (show i<as.length by omega)];rfl⟩
 ·rintro i ys H2 hi ⟨rfl,hD2,s2⟩ x H3 ⟨p,y,hp,rfl,rfl,g1⟩
  obtain⟨ax,e1⟩:∃ax,as[i]? = some ax:=⟨_,b9 (by omega)⟩
  have g1:=g1 _ (SqL.of (s2 _ _ a1))
  rw[c8,e1]at g1
  cases g1
  refine⟨p,_,_,rfl,SqT.of c7,fun R S hR hS=>?_⟩
  have s3:t7 H2 (upd H2 p (.tup [V.int (i:Int),V.ref ax])):=u0 hp
  obtain⟨H3,hH3⟩:∃H3,H3=upd H2 p (.tup [V.int (i:Int),V.ref ax]):=⟨_,rfl⟩
  rw[<-hH3]at s3 ⊢
  have s03:=s2.trans s3
  have hl:=P9 hi
  ext
  exists K5 (s03 _ _ (a3 i _ _ e1 hl)) ?_
  have hst:a4b N i=decide (V.int ((IL N[i]).length:Int)=V.int 0):=by
   rw[b3q,Q0]
   unfold a4b
   simp only[M5,hl,a2N]
   cases N[i] with
   | nil=>rfl
   | cons a r=>
    rw[List.isEmpty_cons,eq_comm,decide_eq_false_iff_not,j9]
    omega
  rw[<-hst]
  cases hb:a4b N i with
  | true=>
   exists A8 rfl ?_
   refine hR _ _ (s3 _ _ hD2) (K0 ?_) ⟨?_,c7,fun b o e=>?_⟩
   ·rw[Q0]
    have:=R8 (a4b N) (l6 i)
    rw[O2]at this
    omega
   ·rw[a3H,a4i]
    unfold IL
    rw[E9]
    congr 1
    simp[hb]
   ·rw[g7 (c6 e hD)];exact s03 _ _ e
  | false=>
   refine v7 rfl ?_
   refine hS _ ⟨?_,s3 _ _ hD2,s03⟩
   rw[a3H,a4i]
   simp[hb]
theorem c8K{α:Type}{l:List α}(nd:l.Nodup){x:α}(h1:l[i]? = some x)(h2:l[j]? = some x):i=j:=
 (List.getElem?_inj (gI h1) nd).mp (h1.trans h2.symm)
structure a6e(H0 H:Hp)(a:Addr)(as:List Addr)(M:Nt):Prop where
 same:t7 H0 H
 h:H a=some (.lst (as.map V.ref))
 len:as.length=M.length
 nd:as.Nodup
 na:a∉as
 at_:∀(i:Nat) x l,as[i]? = some x->M[i]? = some l->H x=some (.lst (IL l))
 new:H0 a=none/\∀x∈as,H0 x=none
theorem a6e.next(h:a6e H0 H a as M)(s:t7 H H'):a6e H0 H' a as M:=
 ⟨h.same.trans s,s _ _ h.h,h.len,h.nd,h.na,fun i x l e1 e2=>s _ _ (h.at_ i x l e1 e2),h.new⟩
theorem a6e.add(h:a6e H0 H a as M){p:Nat}{x:Addr}(e1:as[t]? = some x)(e2:M[t]? = some l) :
  a6e H0 (upd H x (.lst (IL (l++[p])))) a as (M.set t (l++[p])):=by
 have hx:=mI e1
 have hxa:x≠a:=fun z=>h.na (z ▸ hx)
 refine⟨fun b o e=>by rw[g7 (c6 e (h.new.2 x hx))];exact h.same b o e,by rw[g7 hxa.symm];exact h.h,by rw[V5];exact h.len,h.nd,h.na,fun i y l' f1 f2=>?_,h.new⟩
 by_cases e:i=t
 ·subst e
  rw[e1]at f1
  cases f1
  rw[K7 (gI e2)]at f2
  cases f2
  exact c7
 ·rw[L8 (Ne.symm e)]at f2
  have:y≠x:=by
   rintro rfl
   exact e (c8K h.nd f1 e1)
  rw[g7 this]
  exact h.at_ i y l' f1 f2
theorem a6e.net(h:a6e H0 H a as M):F9 H a M:=⟨as,h.h,h.len,h.at_⟩
theorem a6e.nil(n:H0 a=none)(s:t7 H0 H)(e:H a=some (.lst [])):a6e H0 H a [] []:=⟨s,e,rfl,by simp,by simp,by simp,n,by simp⟩
theorem a6e.snoc(h:a6e H0 H a as M)(hp:H p=none)(ep:H' p=some (.lst (IL [])))(s:t7 H H') :
  a6e H0 (upd H' a (.lst ((as++[p]).map V.ref))) a (as++[p]) (M++[[]]):=by
 have npa:p≠a:=(c6 h.h hp).symm
 have npas:p∉as:=fun z=>by
  obtain⟨i,hi⟩:=F4.mp z
  have hl:i<M.length:=by rw[<-h.len];exact(gI hi)
  have:=h.at_ i p _ hi (P9 hl)
  rw[hp]at this
  cases this
 have fr0:H0 p=none:=h.same.free hp
 refine⟨fun b o e=>by rw[g7 (c6 e h.new.1)];exact s _ _ (h.same b o e),c7,by simp[h.len],?_,?_,fun i x l f1 f2=>?_,h.new.1,fun x hx=>?_⟩
 ·rw[c8q]
  exact⟨h.nd,by simp,fun x hx y hy=>by rw[g8.mp hy];intro z;exact npas (z ▸ hx)⟩
 ·intro z
  rcases j8.mp z with q | q
  ·exact h.na q
  ·exact npa (g8.mp q).symm
 ·rcases a0g f1 with ⟨hi,g1⟩ | ⟨hi,g1⟩
  ·rcases a0g f2 with ⟨hj,g2⟩ | ⟨hj,g2⟩
   ·have:x≠a:=fun z=>h.na (z ▸ mI g1)
    rw[g7 this]
    exact s _ _ (h.at_ i x l g1 g2)
   ·have:=h.len;omega
  ·rcases a0g f2 with ⟨hj,g2⟩ | ⟨hj,g2⟩
   ·have:=h.len;omega
   ·subst g1 g2
    rw[g7 npa]
    exact ep
 ·rcases j8.mp hx with q | q
  ·exact h.new.2 x q
  ·rw[g8.mp q];exact fr0
theorem b9D{u:Nat}{l':List Nat}(h:(M.set t l)[u]? = some l'):(u=t/\l'=l)\/(u≠t/\M[u]? = some l'):=by
 by_cases e:u=t
 ·subst e
  have hl:=(gI h)
  rw[V5]at hl
  rw[K7 hl]at h
  exact .inl ⟨rfl,(Option.some.inj h).symm⟩
 ·rw[L8 (Ne.symm e)]at h
  exact .inr ⟨e,h⟩
theorem b2R{K:Fg}{E:XK}(hn:F9 H na N)(h400:N.length<=400)(h2:∀l∈N,l.length<=2)(hlt:∀l∈N,∀t∈l,t<N.length)
  (k:∀a M H',F9 H' a M->M.length=N.length->(∀(p:Nat) (l:List Nat),N[p]? = some l->∀t∈l,∃l',M[t]? = some l'/\p∈l')->(∀l∈M,l.length<=2 * N.length/\∀p∈l,p<N.length)->(∀(t:Nat) (l':List Nat),M[t]? = some l'->∀p∈l',∃l,N[p]? = some l/\t∈l)->t7 H H'->Q (.ref a) H'):a4q K [.ref na] H Q E:=by
 obtain⟨ns,a1,a2,a3⟩:=id hn.ex
 refine⟨rfl,?_⟩
 unfold b5x
 exact_mod_cast a0X ?_
 specialize T7 (Z5 ?_)
 refine⟨na,rfl,⟨_,SqL.of a1⟩,fun A hA=>?_⟩
 refine W8 (xs:=ns.map V.ref) (fun i ys H2=>∃as,ys=as.map V.ref/\a6e H H2 A as (u6 i [])) ?_ ?_ ?_ ?_ ?_
 ·exact⟨[],rfl,.nil hA (u0 hA) c7⟩
 ·rintro i ys H2 ⟨as,rfl,I⟩
  exact I.h
 ·rintro i ys H2 _ ⟨as,rfl,I⟩
  exact SqL.of (I.same _ _ a1)
 ·rintro i x ys H2 hx ⟨as,rfl,I⟩ R hR
  have hi:i<N.length:=by
   have:=(gI hx)
   rw[a9,a2]at this
   exact this
  ext
  refine D9 (by simp) fun p H3 hp e3 s3=>?_
  have:=I.len
  rw[J1]at this
  refine hR _ _ (s3 _ _ I.h) (K0 (by rw[a9];omega)) ⟨as++[p],by simp,?_⟩
  have q:=I.snoc hp e3 s3
  rw[show u6 i ([]:List Nat)++[[]]=u6 (i+1) [] from by rw[a7J]]at q
  rw[show as.map V.ref++[V.ref p]=(as++[p]).map V.ref by simp]
  exact q
 rintro ys H2 ⟨as,rfl,I2⟩
 rw[a9,a2]at I2
 ext
 exact_mod_cast a0X ?_
 specialize a2n (a8f ?_)
 refine⟨na,rfl,⟨_,SqL.of (I2.same _ _ a1)⟩,?_⟩
 refine c0g N.length (fun i σ H3=>∃x2 x3 x4 M,σ=[some (.ref na),some (.ref A),x2,x3,x4]/\a6e H H3 A as M/\M.length=N.length/\(∀(p:Nat) (l:List Nat),p<i->N[p]? = some l->∀t∈l,∃l',M[t]? = some l'/\p∈l')/\(∀l∈M,l.length<=2 * i/\∀p∈l,p<N.length)/\(∀(t:Nat) (l':List Nat),M[t]? = some l'->∀p∈l',∃l,N[p]? = some l/\t∈l)) ?_ ?_ ?_ ?_
 ·exact⟨_,_,_,_,rfl,I2,by simp,by omega,fun l hl=>by rw[b7o hl];simp,fun t l' e p hp=>by rw[b7o (mI e)]at hp;cases hp⟩
 ·rintro _ H3 ⟨x2,x3,x4,M,rfl,I3,lM,g1,g2,g3⟩
  exists ⟨⟨_,SqL.of (I3.same _ _ a1),by rw[a9,a2];exact d9 _⟩,?_⟩
  exact k A M H3 I3.net lM (fun p l hl=>g1 p l (gI hl) hl) g2 g3 I3.same
 ·rintro i _ H3 hi ⟨x2,x3,x4,M,rfl,I3,lM,g1,g2,g3⟩
  exact⟨_,_,SqL.of (I3.same _ _ a1),by rw[c8,b9 (show i<ns.length by omega)];rfl⟩
 ·rintro i _ H3 hi ⟨x2,x3,x4,M,rfl,I3,lM,g1,g2,g3⟩ x H4 ⟨p,y,hp,rfl,rfl,gy⟩
  obtain⟨nx,e1⟩:∃nx,ns[i]? = some nx:=⟨_,b9 (by omega)⟩
  have gy:=gy _ (SqL.of (I3.same _ _ a1))
  rw[c8,e1]at gy
  cases gy
  refine a8g (SqT.of c7) ?_
  have s4:t7 H3 (upd H3 p (.tup [V.int (i:Int),V.ref nx])):=u0 hp
  obtain⟨H4,hH4⟩:∃H4,H4=upd H3 p (.tup [V.int (i:Int),V.ref nx]):=⟨_,rfl⟩
  rw[<-hH4]at s4 ⊢
  have I4:=I3.next s4
  have hl:=P9 hi
  obtain⟨l,hle⟩:∃l,l=N[i]:=⟨_,rfl⟩
  rw[<-hle]at hl
  have hx:H nx=some (.lst (IL l)):=a3 i nx l e1 hl
  have hll:=h2 l (mI hl)
  specialize a2n (Z5 ?_)
  refine⟨nx,rfl,⟨_,SqL.of (I4.same _ _ hx)⟩,a5Y (xs:=IL l) (fun j σ H5=>∃x4 M',σ=[some (.ref na),some (.ref A),some (.int (i:Int)),some (.ref nx),x4]/\a6e H H5 A as M'/\M'.length=N.length/\(∀(p:Nat) (l:List Nat),p<i->N[p]? = some l->∀t∈l,∃l',M'[t]? = some l'/\p∈l')/\(∀t∈l.take j,∃l',M'[t]? = some l'/\i∈l')/\(∀l∈M',l.length<=2 * i+j/\∀p∈l,p<N.length)/\(∀(t:Nat) (l':List Nat),M'[t]? = some l'->∀p∈l',∃l,N[p]? = some l/\t∈l)) ?_ ?_ ?_ ?_⟩
  ·exact⟨_,M,rfl,I4,lM,g1,by simp,g2,g3⟩
  ·rintro j σ H5 _ ⟨_,_,_,I5,_⟩
   exact SqL.of (I5.same _ _ hx)
  ·rintro j y _ H5 hy ⟨x4,M',rfl,I5,lM',c1,c2,c3,c4⟩
   have hy:(l.map fun(n:Nat)=>V.int (n:Int))[j]? = some y:=hy
   rw[c8]at hy
   cases ht:l[j]? with
   | none=>rw[ht]at hy;cases hy
   | some t=>
    rw[ht]at hy
    cases hy
    have tm:=mI ht
    have hj:=(gI ht)
    have htn:t<N.length:=hlt l (mI hl) t tm
    ext
    obtain⟨z,hz⟩:∃z,as[t]? = some z:=⟨_,b9 (by have:=I5.len;omega)⟩
    have hMt:=P9 (show t<M'.length by omega)
    have hMz:=I5.at_ t z _ hz hMt
    specialize a6E ?_
    refine M4 I5.h (a2z (by rw[c8,hz];rfl)) ?_
    exists ⟨a4H hMz,?_⟩
    have hb:=c3 _ (G0 (show t<M'.length by omega))
    refine a2a hMz (K0 (by rw[Q0];omega)) ?_
    refine⟨_,M'.set t (M'[t]++[i]),rfl,?_,by rw[V5];exact lM',?_,?_,?_,?_⟩
    ·have:=I5.add (p:=i) hz hMt
     rw[show IL M'[t]++[V.int (i:Int)]=IL (M'[t]++[i]) by simp[IL]]
     exact this
    ·intro p' l' hp' hl' u hu
     obtain⟨l'',q1,q2⟩:=c1 p' l' hp' hl' u hu
     by_cases e:u=t
     ·subst e
      rw[hMt]at q1
      cases q1
      exact⟨_,K7 (by omega),v9 _ q2⟩
     ·exact⟨l'',by rw[L8 (Ne.symm e)];exact q1,q2⟩
    ·intro u hu
     rw[C7,ht]at hu
     by_cases e:u=t
     ·subst e
      exact⟨_,K7 (by omega),by simp⟩
     ·rcases j8.mp hu with q | q
      ·obtain⟨l'',q1,q2⟩:=c2 u q
       exact⟨l'',by rw[L8 (Ne.symm e)];exact q1,q2⟩
      ·exact absurd (by simpa using q) e
    ·intro l' hl'
     obtain⟨u,hu⟩:=F4.mp hl'
     rcases b9D hu with ⟨_,rfl⟩ | ⟨_,q⟩
     ·refine⟨by rw[j4,O6];omega,fun p' hp'=>?_⟩
      rcases j8.mp hp' with q | q
      ·exact hb.2 p' q
      ·rw[g8.mp q];exact hi
     ·obtain⟨r1,r2⟩:=c3 l' (mI q)
      exact⟨by omega,r2⟩
    ·intro u l' hu q hq
     rcases b9D hu with ⟨rfl,rfl⟩ | ⟨_,z⟩
     ·rcases j8.mp hq with z | z
      ·exact c4 _ _ hMt q z
      ·rw[g8.mp z];exact⟨l,hl,tm⟩
     ·exact c4 u l' z q hq
  ·rintro _ H5 ⟨x4,M',rfl,I5,lM',c1,c2,c3,c4⟩
   rw[Q0,a1t]at c2
   refine⟨_,_,x4,M',rfl,I5,lM',fun p' l' hp' hl' t ht=>?_,fun l' hl'=>?_,fun t l' hl' q hq=>?_⟩
   ·by_cases e:p'=i
    ·subst e
     rw[hl]at hl'
     cases hl'
     exact c2 t ht
    ·exact c1 p' l' (by omega) hl' t ht
   ·obtain⟨r1,r2⟩:=c3 l' hl'
    rw[Q0]at r1
    exact⟨by omega,r2⟩
   ·exact c4 t l' hl' q hq
theorem a4S{K:Fg}{ba la:Addr}{bs:List Nat}{B:Nat}{E:XK}(hb:H ba=some (.lst (IL bs)))(hm:F9 H la M)(h400:M.length<=400)(hB:B<=800)(hl:∀l∈M,l.length<=B/\∀t∈l,t<M.length)(hbs:∀x∈bs,x<M.length)(lb:bs.length<=400)(P:Nat->Prop)(p0:∀x∈bs,P x)(p1:∀k l,P k->M[k]? = some l->∀t∈l,P t)
  (k:∀d S H',H' d=some (.dK (KS S))->S.Nodup->(∀x∈S,x<M.length)->(∀x∈bs,x∈S)->a7H M S->(∀x∈S,P x)->t7 H H'->Q (.ref d) H'):a1w K [.ref ba,.ref la] H Q E:=by
 refine⟨rfl,?_⟩
 unfold b2U
 nofun
 exists b7X fun d H1 hd e1 s1=>?_
 nofun
 exists b4c (s1 _ _ hb) fun w H2 hw e2 s2=>?_
 have s02:=s1.trans s2
 have hw0:H w=none:=s1.free hw
 have ndw:d≠w:=c6 e1 hw
 exact_mod_cast a0X ?_
 exact_mod_cast c6r ?_
 refine⟨fun m σ H3=>∃x4 ws S,σ=[some (.ref ba),some (.ref la),some (.ref d),some (.ref w),x4]/\H3 w=some (.lst (IL ws))/\H3 d=some (.dK (KS S))/\t7 H H3/\S.Nodup/\(∀x∈S,x<M.length)/\(∀x∈ws,x<M.length/\P x)/\(∀x∈S,P x) /\
  (∀x∈bs,x∈S\/x∈ws)/\(∀k∈S,∀l,M[k]? = some l->∀t∈l,t∈S\/t∈ws)/\ws.length<=400+S.length * B/\m=(M.length - S.length) * (B+1)+ws.length,?_,?_⟩
 ·exact⟨_,_,bs,[],rfl,e2,s2 _ _ e1,s02,by simp,by simp,fun x hx=>⟨hbs x hx,p0 x hx⟩,by simp,fun x hx=>.inr hx,by simp,by omega,rfl⟩
 rintro m _ H3 ⟨x4,ws,S,rfl,hw3,hd3,s3,nd,hS,hws,hP,c1,c2,c3,rfl⟩
 ext
 exists K5 hw3 ?_
 have hSl:=a8s _ _ nd hS
 rcases b7H ws with rfl | ⟨r,p,rfl⟩
 ·exists v7 (d4L (by rw[Q0];simp)) ?_
  refine k d S H3 hd3 nd hS (fun x hx=>(c1 x hx).elim id fun z=>by simp at z) (fun a ha l hl' t ht=>(c2 a ha l hl' t ht).elim id fun z=>by simp at z) hP s3
 refine A8 (d4M (by rw[Q0,j4,O6];omega)) ?_
 have hp:p<M.length:=(hws p (by simp)).1
 have hPp:P p:=(hws p (by simp)).2
 have eIL:IL (r++[p])=IL r++[V.int (p:Int)]:=by simp[IL]
 rw[eIL]at hw3
 refine⟨fun σ H4=>∃m' x4 ws S',σ=[some (.ref ba),some (.ref la),some (.ref d),some (.ref w),x4]/\H4 w=some (.lst (IL ws))/\H4 d=some (.dK (KS S'))/\t7 H H4/\S'.Nodup/\(∀x∈S',x<M.length)/\(∀x∈ws,x<M.length/\P x)/\(∀x∈S',P x) /\
  (∀x∈bs,x∈S'\/x∈ws)/\(∀k∈S',∀l,M[k]? = some l->∀t∈l,t∈S'\/t∈ws)/\ws.length<=400+S'.length * B/\m'=(M.length - S'.length) * (B+1)+ws.length/\m'<(M.length - S.length) * (B+1)+(r++[p]).length,?_,?_⟩
 ·rintro σ' H4 ⟨m',x4,ws,S',e,r1,r2,r3,r4,r5,r6,r6',r7,r8,r9,r10,r11⟩
  exact⟨m',r11,x4,ws,S',e,r1,r2,r3,r4,r5,r6,r6',r7,r8,r9,r10⟩
 nofun
 specialize d1S ?_
 exists ⟨a4H hw3,d1Z hw3 ?_⟩
 have sW:t7 H (upd H3 w (.lst (IL r))):=fun b o e=>by rw[g7 (c6 e hw0)];exact s3 b o e
 have hdW:(upd H3 w (.lst (IL r))) d=some (.dK (KS S)):=by rw[g7 ndw];exact hd3
 have hwW:(upd H3 w (.lst (IL r))) w=some (.lst (IL r)):=c7
 obtain⟨H4,hH4⟩:∃H4,H4=upd H3 w (.lst (IL r)):=⟨_,rfl⟩
 rw[<-hH4]at sW hdW hwW ⊢
 rw[j4,O6]at c3 ⊢
 specialize a4t ?_
 obtain⟨o,g1,g2⟩:=a3f hdW p
 refine⟨d,o,rfl,g1,?_⟩
 rw[g2]
 ext
 by_cases hps:p∈S
 ·exists v7 (by rw[d4M hps];rfl) ?_
  refine⟨_,_,r,S,rfl,hwW,hdW,sW,nd,hS,fun x hx=>hws x (v9 _ hx),hP,fun x hx=>?_,fun a ha l hl' t ht=>?_,by omega,rfl,by omega⟩
  ·rcases c1 x hx with z | z
   ·exact .inl z
   ·rcases j8.mp z with q | q
    ·exact .inr q
    ·exact .inl (g8.mp q ▸ hps)
  ·rcases c2 a ha l hl' t ht with z | z
   ·exact .inl z
   ·rcases j8.mp z with q | q
    ·exact .inr q
    ·exact .inl (g8.mp q ▸ hps)
 refine A8 (by rw[d4L hps];rfl) ?_
 obtain⟨xs,y,f1,f2,f3,_⟩:=(hm.same sW).at (P9 hp)
 obtain⟨l,hle⟩:∃l,l=M[p]:=⟨_,rfl⟩
 have hlp:M[p]? = some l:=by rw[hle];exact P9 hp
 rw[<-hle]at f3
 obtain⟨b1,b2⟩:=hl l (mI hlp)
 have hput:a1x S p=S++[p]:=by unfold a1x;rw[if_neg hps]
 have hS1:S.length<M.length:=by
  have:=a8s _ _ (a8r (k:=p) nd) fun x hx=>(W6.mp hx).elim (hS x) fun z=>z ▸ hp
  rw[hput,j4,O6]at this
  omega
 exact_mod_cast a0X ?_
 specialize b7W ?_
 refine⟨d,_,rfl,b4C hdW (by omega) p,?_⟩
 rw[hput]
 obtain⟨H5,hH5⟩:∃H5,H5=upd H4 d (.dK (KS (S++[p]))):=⟨_,rfl⟩
 have hd5:H5 d=some (.dK (KS (S++[p]))):=hH5 ▸ c7
 have oth:∀b o,H4 b=some o->b≠d->H5 b=some o:=fun b o e n=>by rw[hH5,g7 n];exact e
 have s5:t7 H H5:=fun b o e=>oth b o (sW b o e) (c6 e hd)
 rw[<-hH5]
 have hw5:=oth w _ hwW (Ne.symm ndw)
 have fx5:=oth _ _ f1 (R1 f1 hdW (by intro z;cases z))
 have fy5:=oth _ _ f3 (R1 f3 hdW (by intro z;cases z))
 ext
 specialize a6E ?_
 exists ⟨a4H hw5,?_⟩
 refine M4 fx5 f2 ?_
 have hSB:S.length * B<=400 * 800:=d2S (by omega) hB
 ext
 refine a8m hw5 fy5 (big (by rw[Q0,Q0];omega)) ?_
 have e6:IL r++IL l=IL (r++l):=by simp[IL]
 rw[e6]
 ext
 have key:(M.length - (S.length+1)) * (B+1)+(B+1)=(M.length - S.length) * (B+1):=by
  rw[<-c2x]
  congr 1
  omega
 refine⟨_,_,r++l,S++[p],rfl,c7,by rw[g7 ndw];exact hd5,fun b o e=>by rw[g7 (c6 e hw0)];exact s5 b o e,hput ▸ a8r nd,fun x hx=>?_,fun x hx=>?_,fun x hx=>(j8.mp hx).elim (hP x) fun q=>g8.mp q ▸ hPp,fun x hx=>?_,fun a ha l' hl' t ht=>?_,?_,rfl,?_⟩
 ·rcases j8.mp hx with q | q
  ·exact hS x q
  ·rw[g8.mp q];exact hp
 ·rcases j8.mp hx with q | q
  ·exact hws x (v9 _ q)
  ·exact⟨b2 x q,p1 p l hPp hlp x q⟩
 ·rcases c1 x hx with z | z
  ·exact .inl (v9 _ z)
  ·rcases j8.mp z with q | q
   ·exact .inr (v9 _ q)
   ·exact .inl (t9 _ q)
 ·rcases j8.mp ha with q | q
  ·rcases c2 a q l' hl' t ht with z | z
   ·exact .inl (v9 _ z)
   ·rcases j8.mp z with u | u
    ·exact .inr (v9 _ u)
    ·exact .inl (t9 _ u)
  ·rw[g8.mp q,hlp]at hl'
   cases hl'
   exact .inr (t9 _ ht)
 ·rw[j4,j4,O6,c2x]
  omega
 ·rw[j4,j4,O6]
  omega
theorem b2A{K:Fg}{E:XK}(hn:F9 H na N)(hv:a0c N)(k:∀H',t7 H H'->Q .non H'):a1h K [.ref na] H Q E:=by
 refine⟨rfl,?_⟩
 unfold a7T
 nofun
 exists D9 (by simp) fun p1 H1 hp1 e1 s1=>?_
 exists a4S (bs:=[0]) (B:=2) e1 (hn.same s1) hv.le (by decide) (fun l hl=>⟨hv.two l hl,hv.lt l hl⟩) (by simpa using hv.pos) (by simp) (fun _=>True) (fun _ _=>trivial) (fun _ _ _ _ _ _=>trivial) fun d1 S1 H2 hd1 nd1 hS1 hb1 cl1 _ s2=>?_
 have in1:∀x,Rc N x->x∈S1:=by
  intro x h
  induction h with
  | zero=>exact hb1 0 (by simp)
  | @step a t l _ hl ht ih=>exact cl1 a ih l hl t ht
 nofun
 exists a9N ((hn.same s1).same s2) hv.le fun sa H3 _ e3 s3=>?_
 exists b2R (((hn.same s1).same s2).same s3) hv.le hv.two hv.lt fun ta M H4 m4 lM hM1 hM2 _ s4=>?_
 have lst:(a7h N).length<=N.length:=by
  have:=R8 (a4b N) (l6 N.length)
  rwa [O2]at this
 have hle:=hv.le
 refine a4S (bs:=a7h N) (B:=2 * N.length) (s4 _ _ e3) m4 (by omega) (by omega) (fun l hl=>⟨(hM2 l hl).1,by rw[lM];exact(hM2 l hl).2⟩) (fun x hx=>by
  rw[lM]
  exact E5.mp (Z1.mp hx).1) (by omega) (fun _=>True) (fun _ _=>trivial) (fun _ _ _ _ _ _=>trivial) fun d2 S2 H5 hd2 nd2 hS2 hb2 cl2 _ s5=>?_
 have in2:∀x,Gd N x->x∈S2:=by
  intro x h
  induction h with
  | @stop a h=>exact hb2 a (b3i h)
  | @step a t l h ht _ ih=>
   obtain⟨l',q1,q2⟩:=hM1 a l h t ht
   exact cl2 t ih l' q1 a q2
 have s05:=(((s1.trans s2).trans s3).trans s4).trans s5
 have hd1':H5 d1=_:=s5 _ _ (s4 _ _ (s3 _ _ hd1))
 obtain⟨ys,hy,ly⟩:=(hn.same s05).len
 ext
 specialize a2n (a1X ?_)
 refine K5 hy ?_
 refine⟨N.length,by rw[ly],by omega,by omega,?_⟩
 rw[E7]
 refine a1G (fun i σ H6=>∃x3,σ=[some (.ref na),some (.ref d1),some (.ref d2),x3]/\H6=H5) ⟨_,rfl,rfl⟩ ?_ ?_
 ·rintro i _ H6 hi ⟨x3,rfl,rfl⟩
  ext
  rw[a2K]
  specialize a4t ?_
  obtain⟨o,g1,g2⟩:=a3f hd1' i
  refine⟨d1,o,rfl,g1,?_⟩
  rw[g2,d4M (in1 i (hv.rc i hi))]
  ext
  exists v7 rfl ?_
  specialize a4t ?_
  obtain⟨o',g1',g2'⟩:=a3f hd2 i
  refine⟨d2,o',rfl,g1',?_⟩
  rw[g2',d4M (in2 i (hv.gd i hi))]
  ext
  exists v7 rfl ?_
  exact⟨_,rfl,rfl⟩
 ·rintro _ H6 ⟨x3,rfl,rfl⟩
  exact k _ s05
abbrev Stp:=Int×Int
variable{s:Stp}
def FST:Stp:=(-1,0)
def a4J(N:Nt)(p:Nat):List Stp:=(l6 (N.getD p []).length).map fun(a:Nat)=>((p:Int),(a:Int))
def a7i(N:Nt)(i:Nat):List Stp:=FST::(l6 i).flatMap (a4J N)
def a3w(N:Nt):List Stp:=a7i N N.length
def a5W(N:Nt)(s:Stp):Nat:=if s=FST then 0 else (N.getD s.1.toNat []).getD s.2.toNat 0
theorem a9O(N:Nt)(i:Nat):a7i N (i+1)=a7i N i++a4J N i:=by
 unfold a7i
 rw[a3H,List.flatMap_append]
 simp
def b9j(N:Nt)(s:Stp):Prop:=s=FST\/∃(p q:Nat) (l:List Nat) (t:Nat),s=((p:Int),(q:Int))/\N[p]? = some l/\l[q]? = some t
theorem c1V(h:s∈a3w N):b9j N s:=by
 rcases c5.mp h with z | z
 ·exact .inl z
 ·obtain⟨p,hp,q⟩:=List.mem_flatMap.mp z
  have hp:=E5.mp hp
  obtain⟨a,ha,rfl⟩:=y7.mp q
  have ha:=E5.mp ha
  have e:N.getD p []=N[p]:=by simp[M5,hp]
  rw[e]at ha
  exact .inr ⟨p,a,N[p],N[p][a],rfl,P9 hp,by simp⟩
theorem c7G(hv:a0c N)(h:b9j N s):a5W N s<N.length:=by
 unfold a5W
 rcases h with rfl | ⟨p,q,l,t,rfl,h1,h2⟩
 ·rw[if_pos rfl];exact hv.pos
 ·split
  ·exact hv.pos
  ·have:(N.getD ((p:Int),(q:Int)).1.toNat []).getD ((p:Int),(q:Int)).2.toNat 0=t:=by
    show(N.getD (p:Int).toNat []).getD (q:Int).toNat 0=t
    rw[E7,E7]
    simp[M5,h1,h2]
   rw[this]
   exact hv.lt l (mI h1) t (mI h2)
def a6Y(K:Fg)(H:Hp)(a:Addr)(s:Stp):Prop:=H a=some (.tup [.int s.1,.int s.2])\/(s=FST/\∀H,SqT K H a [.int (-1),.int 0])
theorem a6Y.ts{K:Fg}(h:a6Y K H a s)(t:a0o H H'):a6Y K H' a s:=by
 rcases h with h | h
 ·exact .inl (t _ _ h)
 ·exact .inr h
theorem a6Y.sq{K:Fg}(h:a6Y K H a s):SqT K H a [.int s.1,.int s.2]:=by
 rcases h with h | ⟨e,h⟩
 ·exact SqT.of h
 ·subst e;exact h H
structure a2c(K:Fg)(H:Hp)(l:Addr)(S:List Stp):Prop where
 ex:∃vs:List Addr,H l=some (.lst (vs.map V.ref))/\vs.length=S.length/\∀(i:Nat) x s,vs[i]? = some x->S[i]? = some s->a6Y K H x s
theorem a2c.same{K:Fg}{l:Addr}{S:List Stp}(h:a2c K H l S)(s:t7 H H'):a2c K H' l S:=by
 obtain⟨vs,h1,h2,h3⟩:=h.ex
 exact⟨vs,s _ _ h1,h2,fun i x t e1 e2=>(h3 i x t e1 e2).ts (t7.ts s)⟩
theorem a2c.put{K:Fg}{l y:Addr}{S:List Stp}(h:a2c K H l S)(hy:H y=some (.lst xs))(n:l≠y):a2c K (upd H y (.lst ys)) l S:=by
 obtain⟨vs,h1,h2,h3⟩:=h.ex
 exact⟨vs,by rw[g7 n];exact h1,h2,fun i x t e1 e2=>(h3 i x t e1 e2).ts (a0o.put hy)⟩
theorem b5D{K:Fg}{c:Cn}{E:XK}(ck:a4y K c)(hn:F9 H na N)(h400:N.length<=400)(h2:∀l∈N,l.length<=2)
  (k:∀a H',H a=none->a2c K H' a (a3w N)->t7 H H'->Q (.ref a) H'):a3L K c [.ref na] H Q E:=by
 obtain⟨ns,a1,a2,a3⟩:=id hn.ex
 refine⟨rfl,?_⟩
 unfold b0T
 nofun
 exists D9 (by simp) fun D H1 hD e1 s1=>?_
 exact_mod_cast a0X ?_
 specialize a2n (a8f ?_)
 refine⟨na,rfl,⟨_,SqL.of (s1 _ _ a1)⟩,?_⟩
 refine c0g N.length (fun i σ H2=>∃x2 x3 vs,σ=[some (.ref na),some (.ref D),x2,x3]/\H2 D=some (.lst ((vs:List Addr).map V.ref))/\vs.length=(a7i N i).length/\vs.length<=1+2 * i/\(∀(j:Nat) x s,vs[j]? = some x->(a7i N i)[j]? = some s->a6Y K H2 x s)/\t7 H H2) ?_ ?_ ?_ ?_
 ·refine⟨_,_,[c.a2i],rfl,e1,rfl,by simp,fun j x s f1 f2=>?_,s1⟩
  cases j with
  | zero=>
   cases f1
   cases f2
   exact .inr ⟨rfl,ck.a8G⟩
  | succ j=>simp at f1
 ·rintro _ H2 ⟨x2,x3,vs,rfl,hD2,lv,_,at2,s2⟩
  exists ⟨⟨_,SqL.of (s2 _ _ a1),by rw[a9,a2];exact d9 _⟩,?_⟩
  exact k D H2 hD ⟨vs,hD2,lv,at2⟩ s2
 ·rintro i _ H2 hi ⟨x2,x3,vs,rfl,hD2,lv,_,at2,s2⟩
  exact⟨_,_,SqL.of (s2 _ _ a1),by rw[c8,b9 (show i<ns.length by omega)];rfl⟩
 ·rintro i _ H2 hi ⟨x2,x3,vs,rfl,hD2,lv,lv2,at2,s2⟩ x H3 ⟨p,y,hp,rfl,rfl,gy⟩
  obtain⟨nx,f1⟩:∃nx,ns[i]? = some nx:=⟨_,b9 (by omega)⟩
  have gy:=gy _ (SqL.of (s2 _ _ a1))
  rw[c8,f1]at gy
  cases gy
  refine a8g (SqT.of c7) ?_
  have s3:t7 H2 (upd H2 p (.tup [V.int (i:Int),V.ref nx])):=u0 hp
  obtain⟨H3,hH3⟩:∃H3,H3=upd H2 p (.tup [V.int (i:Int),V.ref nx]):=⟨_,rfl⟩
  rw[<-hH3]at s3 ⊢
  have s03:=s2.trans s3
  have hl:=P9 hi
  obtain⟨l,hle⟩:∃l,l=N[i]:=⟨_,rfl⟩
  rw[<-hle]at hl
  have hll:=h2 l (mI hl)
  have hx:=s03 _ _ (a3 i nx l f1 hl)
  ext
  specialize a6E ?_
  exists ⟨a4H (s3 _ _ hD2),?_⟩
  specialize T7 (a1X ?_)
  refine K5 hx ?_
  rw[Q0]
  refine⟨l.length,rfl,by omega,by omega,fun A hA=>?_⟩
  rw[E7]
  refine a8y (fun j ys H4=>∃ws:List Addr,ys=ws.map V.ref/\ws.length=j/\(∀(q:Nat) x,ws[q]? = some x->H4 x=some (.tup [.int (i:Int),.int (q:Int)]))/\H4 A=some (.lst ys)/\t7 H3 H4) ?_ ?_ ?_ ?_
  ·exact⟨[],rfl,rfl,by simp,c7,u0 hA⟩
  ·rintro j ys H4 ⟨_,_,_,_,h,_⟩
   exact h
  ·rintro j ys H4 hj ⟨ws,rfl,lw,at4,hA4,s4⟩ R hR
   ext
   refine D9 (by simp) fun z H5 hz e5 s5=>?_
   rw[a2K]at e5
   have nzA:z≠A:=(c6 hA4 hz).symm
   refine hR _ _ (s5 _ _ hA4) (K0 (by rw[a9];omega)) ⟨ws++[z],by simp,by simp[lw],fun q x hq=>?_,c7,fun b o e=>?_⟩
   ·rcases a0g hq with ⟨_,g⟩ | ⟨hq',g⟩
    ·have:=s5 _ _ (at4 q x g)
     rw[g7 (R1 this (s5 _ _ hA4) (by intro z;cases z))]
     exact this
    ·subst g
     rw[g7 nzA,e5,hq',lw]
   ·rw[g7 (c6 e hA)];exact s5 _ _ (s4 _ _ e)
  ·rintro ys H4 ⟨ws,rfl,lw,at4,hA4,s4⟩
   ext
   have hD4:H4 D=_:=s4 _ _ (s3 _ _ hD2)
   have s04:=s03.trans s4
   refine a8m hD4 hA4 (big (by rw[a9,a9];omega)) ?_
   rw[<-E9]
   have hon:a4J N i=(l6 l.length).map fun(a:Nat)=>((i:Int),(a:Int)):=by
    unfold a4J
    simp[M5,hl]
   have hU:=a9O N i
   have lon:(a4J N i).length=l.length:=by rw[hon];simp
   refine⟨_,_,vs++ws,rfl,c7,by rw[hU,j4,j4,lv,lw,lon],by rw[j4];omega,fun j x s g1 g2=>?_,fun b o e=>?_⟩
   ·rw[hU]at g2
    by_cases hj:j<vs.length
    ·rw[F8 hj]at g1
     rw[F8 (by omega)]at g2
     exact((at2 j x s g1 g2).ts (t7.ts (s3.trans s4))).ts (a0o.put hD4)
    ·rw[Q5 (by omega)]at g1
     rw[Q5 (by omega),<-lv,hon,c8]at g2
     have hq:j - vs.length<l.length:=by
      have:=(gI g1)
      omega
     rw[a1H hq]at g2
     cases g2
     have:=at4 _ _ g1
     exact .inl (by rw[g7 (R1 this hD4 (by intro z;cases z))];exact this)
   ·rw[g7 (c6 e hD)];exact s04 _ _ e
def d2O(c:Cn)(H:Hp)(x:Addr)(N:Nt):Prop:=∃dx fs n,H x=some (.ins c.S9 dx fs)/\fs.lookup ("nexts" : Str)=some (V.ref n)/\F9 H n N
theorem eq2(p q:Int):a2u [.int p,.int q] [.int (-1),.int 0]=decide ((p,q)=FST):=by
 unfold a2u
 simp only[j9,a0B,Nat.zero_add,Nat.reduceAdd,Nat.min_self]
 rw[show l6 2=[0,1] from rfl]
 simp only[a0L,a3R,d2U,M5,b9l,List.getElem?_cons_succ,a2N,beq_self_eq_true]
 unfold FST
 by_cases h:p = -1
 ·by_cases h':q=0
  ·subst h h';decide
  ·subst h
   simp[eqV,h']
 ·simp[eqV,h]
theorem b6B{K:Fg}{c:Cn}{x:Addr}{E:XK}(ck:a4y K c)(hp:d2O c H x N)(ha:a6Y K H a s)(hs:b9j N s)(k:Q (.int (a5W N s:Nat)) H):a0P K c [.ref x,.ref a] H Q E:=by
 refine⟨rfl,?_⟩
 unfold a5k
 nofun
 refine⟨_,_,_,_,rfl,rfl,ha.sq,ck.a8G H,rfl,rfl,?_⟩
 rw[eq2]
 ext
 by_cases e:s=FST
 ·exists A8 (d4M e) ?_
  unfold a5W at k
  rw[if_pos e]at k
  exact k
 ·exists v7 (d4L e) ?_
  rcases hs with z | ⟨p,q,l,t,rfl,h1,h2⟩
  ·exact(e z).elim
  rcases ha with ha | ⟨z,_⟩
  rotate_left
  ·exact(e z).elim
  obtain⟨dx,fs,n,hx,hf,hn⟩:=hp
  specialize b1k ?_
  exists ⟨x,_,dx,fs,_,rfl,hx,ck.a0M,ck.Y4,hf,?_⟩
  refine Z6 ha (a3g _ _) ?_
  obtain⟨xs,y,f1,f2,f3,_⟩:=hn.at h1
  exists M4 f1 f2 ?_
  refine Z6 ha (a8B _ _ _) ?_
  refine M4 f3 (c5F h2) ?_
  have:a5W N ((p:Int),(q:Int))=t:=by
   unfold a5W
   rw[if_neg e]
   show(N.getD (p:Int).toNat []).getD (q:Int).toNat 0=t
   rw[E7,E7]
   simp[M5,h1,h2]
  rw[this]at k
  exact k
structure c5G(K:Fg)(H0 H:Hp)(e:Addr)(es:List Addr)(P:List (List Stp)):Prop where
 same:t7 H0 H
 h:H e=some (.lst (es.map V.ref))
 len:es.length=P.length
 nd:es.Nodup
 na:e∉es
 at_:∀(i:Nat) y S,es[i]? = some y->P[i]? = some S->a2c K H y S
 new:H0 e=none/\∀y∈es,H0 y=none
theorem c5G.add{K:Fg}{e:Addr}{es:List Addr}{P:List (List Stp)}(h:c5G K H0 H e es P){y:Addr}{S:List Stp}{vs:List Addr}(e1:es[t]? = some y)(e2:P[t]? = some S)(hy:H y=some (.lst (vs.map V.ref)))
  (lv:vs.length=S.length) (at2:∀(i:Nat) x s,vs[i]? = some x->S[i]? = some s->a6Y K H x s) (ha:a6Y K H a s):c5G K H0 (upd H y (.lst ((vs++[a]).map V.ref))) e es (P.set t (S++[s])):=by
 have hm:=mI e1
 have ye:y≠e:=fun z=>h.na (z ▸ hm)
 refine⟨fun b o q=>by rw[g7 (c6 q (h.new.2 y hm))];exact h.same b o q,by rw[g7 ye.symm];exact h.h,by rw[V5];exact h.len,h.nd,h.na,fun i z S' f1 f2=>?_,h.new⟩
 by_cases q:i=t
 ·subst q
  rw[e1]at f1
  cases f1
  rw[K7 (gI e2)]at f2
  cases f2
  refine⟨vs++[a],c7,by simp[lv],fun j x s' g1 g2=>?_⟩
  rcases a0g g1 with ⟨_,k1⟩ | ⟨j1,k1⟩
  ·rcases a0g g2 with ⟨_,k2⟩ | ⟨j2,k2⟩
   ·exact(at2 j x s' k1 k2).ts (a0o.put hy)
   ·omega
  ·rcases a0g g2 with ⟨_,k2⟩ | ⟨j2,k2⟩
   ·omega
   ·subst k1 k2
    exact ha.ts (a0o.put hy)
 ·rw[L8 (Ne.symm q)]at f2
  have:z≠y:=by
   rintro rfl
   exact q (c8K h.nd f1 e1)
  exact(h.at_ i z S' f1 f2).put hy this
structure d3z(K:Fg)(c:Cn)(H:Hp)(x:Addr)(N:Nt):Prop where
 ex:∃dx r n e es,H x=some (.ins c.S9 dx [("rows",.ref r),("nexts",.ref n),("entries",.ref e)])/\R4 H r N/\F9 H n N/\H e=some (.lst ((es:List Addr).map V.ref))/\es.length=N.length /\
  ∀(t:Nat) y,es[t]? = some y->a2c K H y ((a3w N).filter fun s=>decide (a5W N s=t))
structure d2N(K:Fg)(c:Cn)(Z:Addr->Prop)(rs:List Addr)(H:Hp)(x:Addr)(N:Nt):Prop where
 ex:∃dx r n e es ns,H x=some (.ins c.S9 dx [("rows",.ref r),("nexts",.ref n),("entries",.ref e)])/\(R4 H r N/\H r=some (.lst (rs.map V.ref)))/\H n=some (.lst ((ns:List Addr).map V.ref))/\ns.length=N.length/\(∀(i:Nat) y l,ns[i]? = some y->N[i]? = some l->H y=some (.lst (IL l))) /\
  H e=some (.lst ((es:List Addr).map V.ref))/\es.length=N.length/\(∀(t:Nat) y,es[t]? = some y->a2c K H y ((a3w N).filter fun s=>decide (a5W N s=t)))/\∀z,Z z->z≠r/\z≠n/\z≠e/\z∉ns/\z∉es
theorem F9.ins{H:Hp}{a x C dx:Addr}{N:Nt}{fs:List (Str×V)}{o:HO}(h:F9 H a N)(hx:H x=some (.ins C dx fs)):F9 (upd H x o) a N:=by
 obtain⟨as,q1,q2,q3⟩:=h.ex
 exact⟨as,by rw[g7 (R1 q1 hx (by intro z;cases z))];exact q1,q2,fun j y l e1 e2=>by
  have q:=q3 j y l e1 e2
  rw[g7 (R1 q hx (by intro z;cases z))];exact q⟩
theorem a0o.ins{H:Hp}{x C dx:Addr}{fs:List (Str×V)}{o:HO}(hx:H x=some (.ins C dx fs)):a0o H (upd H x o):=fun a xs e=>by
 rw[g7 (R1 e hx (by intro z;cases z))];exact e
theorem R4.ins{H:Hp}{a x C dx:Addr}{N:Nt}{fs:List (Str×V)}{o:HO}(h:R4 H a N)(hx:H x=some (.ins C dx fs)):R4 (upd H x o) a N:=by
 obtain⟨as,q1,q2,q3⟩:=h.ex
 exact⟨as,by rw[g7 (R1 q1 hx (by intro z;cases z))];exact q1,q2,fun j y l e1 e2=>(q3 j y l e1 e2).ts (a0o.ins hx)⟩
theorem c1b(h:∀l∈N,l.length<=2):(a3w N).length<=1+2 * N.length:=by
 have go:∀i,i<=N.length->(a7i N i).length<=1+2 * i:=by
  intro i
  induction i with
  | zero=>intro _;show 1<=1;exact d9 _
  | succ i ih=>
   intro hi
   rw[a9O,j4]
   have:=ih (by omega)
   have h2:(a4J N i).length<=2:=by
    unfold a4J
    rw[a9,O2]
    have e:N.getD i []=N[i]:=by simp[M5,show i<N.length by omega]
    rw[e]
    exact h _ (G0 _)
   omega
 exact go _ (d9 _)
theorem b8T{S:List Stp}{f:Stp->Nat}(h:S[i]? = some s):(S.take (i+1)).filter (fun s=>decide (f s=t))=(S.take i).filter (fun s=>decide (f s=t))++(if f s=t then [s] else []):=by
 rw[C7,h,a4i]
 congr 1
 by_cases e:f s=t
 ·rw[if_pos e];simp[e]
 ·rw[if_neg e];simp[e]
theorem a4W{K:Fg}{c:Cn}{x:Addr}{E:XK}(ck:a4y K c)(hrs:H ra=some (.lst (rs.map V.ref)))(hr:R4 H ra N)(hn:F9 H na N)(hv:a0c N)(hx:H x=some (.ins c.S9 dx []))
  (k:∀H',d2N K c (fun z=>∃o,H z=some o/\z≠x) rs H' x N->(∀b o,H b=some o->b≠x->H' b=some o)->Q .non H'):a1U K c [.ref x,.ref ra,.ref na] H Q E:=by
 obtain⟨rs',r1,r2,r3⟩:=id hr.ex
 obtain rfl:rs'=rs:=by
  rw[hrs]at r1
  exact(a4h (f:=V.ref) (fun a b h=>V.ref.inj h) |>.mp (HO.lst.inj (Option.some.inj r1))).symm
 obtain⟨ns,n1,n2,n3⟩:=id hn.ex
 have hpos:=hv.pos
 have h400:=hv.le
 refine⟨rfl,?_⟩
 unfold a9M
 nofun
 exists a1s r1 (by rw[a9];omega) (by rw[a9];omega) ?_
 nofun
 specialize T7 (Z5 ?_)
 refine⟨ra,rfl,⟨_,SqL.of r1⟩,fun D hD=>?_⟩
 refine W8 (xs:=rs'.map V.ref) (fun i ys H2=>ys=u6 i (V.bl true)/\H2 D=some (.lst ys)/\t7 H H2) ⟨rfl,c7,u0 hD⟩ ?_ ?_ ?_ ?_
 ·rintro i ys H2 ⟨_,h,_⟩
  exact h
 ·rintro i ys H2 _ ⟨_,_,s2⟩
  exact SqL.of (s2 _ _ r1)
 ·rintro i y ys H2 hy ⟨rfl,hD2,s2⟩ R hR
  rw[c8]at hy
  cases hrx:rs'[i]? with
  | none=>rw[hrx]at hy;cases hy
  | some rx=>
   rw[hrx]at hy
   cases hy
   have hi:i<N.length:=by rw[<-r2];exact(gI hrx)
   ext
   refine b3n ck ((r3 i rx _ hrx (P9 hi)).ts (t7.ts s2)) fun H3 s3=>?_
   refine hR _ _ (s3 _ _ hD2) (K0 (by rw[J1];omega)) ⟨b0O i,c7,fun b o e=>?_⟩
   rw[g7 (c6 e hD)];exact s3 _ _ (s2 _ _ e)
 rintro ys H2 ⟨rfl,hD2,s2⟩
 ext
 refine a2x hD2 fun H3 s3=>?_
 have s03:=s2.trans s3
 ext
 nofun
 refine a6b (hr.same s03) (hn.same s03) h400 hv.two hv.lt fun H4 s4=>?_
 have s04:=s03.trans s4
 ext
 nofun
 refine b2A (hn.same s04) hv fun H5 s5=>?_
 have s05:=s04.trans s5
 ext
 exact_mod_cast a0X ?_
 specialize b7T ?_
 refine b4c (s05 _ _ r1) fun rp H6 hrp e6 s6=>?_
 have s06:=s05.trans s6
 ext
 refine⟨x,_,dx,[],rfl,s06 _ _ hx,ck.a0M,ck.a2h,by simp,?_⟩
 obtain⟨H7,hH7⟩:∃H7,H7=upd H6 x (.ins c.S9 dx (a3I "rows" (.ref rp) [])):=⟨_,rfl⟩
 have x7:H7 x=some (.ins c.S9 dx [("rows",.ref rp)]):=hH7 ▸ c7
 have f7:∀b o,H6 b=some o->b≠x->H7 b=some o:=fun b o e n=>by rw[hH7,g7 n];exact e
 have rows7:R4 H7 rp N:=by
  have q:R4 H6 rp N:=⟨rs',e6,r2,fun i y l a b=>(r3 i y l a b).ts (t7.ts s06)⟩
  rw[hH7]
  exact q.ins (s06 _ _ hx)
 have net7:F9 H7 na N:=by rw[hH7];exact(hn.same s06).ins (s06 _ _ hx)
 have ra7:H7 ra=some (.lst (rs'.map V.ref)):=f7 _ _ (s06 _ _ r1) (R1 r1 hx (by intro z;cases z))
 rw[<-hH7]
 clear hH7
 exact_mod_cast a0X ?_
 exact_mod_cast b7T ?_
 exact_mod_cast T7 (Z5 ?_)
 obtain⟨ns',m1,m2,m3⟩:=id net7.ex
 ext
 refine⟨na,rfl,⟨_,SqL.of m1⟩,fun np hnp=>?_⟩
 refine W8 (xs:=ns'.map V.ref) (fun i ys H8=>∃as:List Addr,ys=as.map V.ref/\as.length=i/\(∀(j:Nat) y l,as[j]? = some y->N[j]? = some l->H8 y=some (.lst (IL l))/\y≠np)/\H8 np=some (.lst ys)/\t7 H7 H8/\∀y∈as,H7 y=none) ?_ ?_ ?_ ?_ ?_
 ·exact⟨[],rfl,rfl,by simp,c7,u0 hnp,by simp⟩
 ·rintro i ys H8 ⟨_,_,_,_,h,_⟩
  exact h
 ·rintro i ys H8 _ ⟨_,_,_,_,_,s8,_⟩
  exact SqL.of (s8 _ _ m1)
 ·rintro i y ys H8 hy ⟨as,rfl,la,at8,hnp8,s8,fr8⟩ R hR
  rw[c8]at hy
  cases hnx:ns'[i]? with
  | none=>rw[hnx]at hy;cases hy
  | some nx=>
   rw[hnx]at hy
   cases hy
   have hi:i<N.length:=by rw[<-m2];exact(gI hnx)
   ext
   refine b4c (s8 _ _ (m3 i nx _ hnx (P9 hi))) fun q H9 hq e9 s9=>?_
   have nq:q≠np:=(c6 hnp8 hq).symm
   refine hR _ _ (s9 _ _ hnp8) (K0 (by rw[a9];omega)) ⟨as++[q],by simp,by simp[la],fun j y l g1 g2=>?_,c7,fun b o e=>?_,fun y hy=>?_⟩
   ·rcases a0g g1 with ⟨_,f1⟩ | ⟨hj,f1⟩
    ·obtain⟨f2,f3⟩:=at8 j y l f1 g2
     exact⟨by rw[g7 f3];exact s9 _ _ f2,f3⟩
    ·rw[hj,la,P9 hi]at g2
     cases g2
     subst f1
     exact⟨by rw[g7 nq];exact e9,nq⟩
   ·rw[g7 (c6 e hnp)];exact s9 _ _ (s8 _ _ e)
   ·rcases j8.mp hy with z | z
    ·exact fr8 y z
    ·rw[g8.mp z];exact s8.free hq
 rintro ys H8 ⟨as,rfl,la,at8,hnp8,s8,fr8⟩
 rw[a9,m2]at la
 have net8:F9 H8 np N:=⟨as,hnp8,la,fun i y l a b=>(at8 i y l a b).1⟩
 ext
 refine⟨x,_,dx,_,rfl,s8 _ _ x7,ck.a0M,ck.Y4,by simp,?_⟩
 obtain⟨H9,hH9⟩:∃H9,H9=upd H8 x (.ins c.S9 dx (a3I "nexts" (.ref np) [("rows",.ref rp)])):=⟨_,rfl⟩
 have x9:H9 x=some (.ins c.S9 dx [("rows",.ref rp),("nexts",.ref np)]):=by
  rw[hH9,c7]
  simp only[a3I]
  rw[if_neg (by decide)]
 have f9:∀b o,H8 b=some o->b≠x->H9 b=some o:=fun b o e n=>by rw[hH9,g7 n];exact e
 have rows9:R4 H9 rp N:=by rw[hH9];exact(rows7.same s8).ins (s8 _ _ x7)
 have net9:F9 H9 np N:=by rw[hH9];exact net8.ins (s8 _ _ x7)
 have ra9:H9 ra=some (.lst (rs'.map V.ref)):=f9 _ _ (s8 _ _ ra7) (R1 ra7 x7 (by intro z;cases z))
 rw[<-hH9]
 clear hH9
 exact_mod_cast a0X ?_
 exact_mod_cast b7T ?_
 specialize T7 (Z5 ?_)
 refine⟨ra,rfl,⟨_,SqL.of ra9⟩,fun ep hep=>?_⟩
 refine W8 (xs:=rs'.map V.ref) (fun i ys H10=>∃es,ys=es.map V.ref/\a6e H9 H10 ep es (u6 i [])) ?_ ?_ ?_ ?_ ?_
 ·exact⟨[],rfl,.nil hep (u0 hep) c7⟩
 ·rintro i ys H10 ⟨es,rfl,I⟩
  exact I.h
 ·rintro i ys H10 _ ⟨es,rfl,I⟩
  exact SqL.of (I.same _ _ ra9)
 ·rintro i y ys H10 hy ⟨es,rfl,I⟩ R hR
  have hi:i<N.length:=by
   have:=(gI hy)
   rw[a9,r2]at this
   exact this
  ext
  refine D9 (by simp) fun p H11 hp e11 s11=>?_
  have:=I.len
  rw[J1]at this
  refine hR _ _ (s11 _ _ I.h) (K0 (by rw[a9];omega)) ⟨es++[p],by simp,?_⟩
  have q:=I.snoc hp e11 s11
  rw[show u6 i ([]:List Nat)++[[]]=u6 (i+1) [] from by rw[a7J]]at q
  rw[show es.map V.ref++[V.ref p]=(es++[p]).map V.ref by simp]
  exact q
 rintro ys H10 ⟨es,rfl,I10⟩
 rw[a9,r2]at I10
 ext
 have x10:=I10.same _ _ x9
 refine⟨x,_,dx,_,rfl,x10,ck.a0M,ck.a1u,by simp,?_⟩
 obtain⟨F,hF⟩:∃F:List (Str×V),F=([("rows",.ref rp),("nexts",.ref np),("entries",.ref ep)]:List (Str×V)):=⟨_,rfl⟩
 have hput:a3I "entries" (.ref ep) [("rows",.ref rp),("nexts",.ref np)]=F:=by
  rw[hF]
  simp only[a3I]
  rw[if_neg (by decide),if_neg (by decide)]
 rw[hput]
 obtain⟨H11,hH11⟩:∃H11,H11=upd H10 x (.ins c.S9 dx F):=⟨_,rfl⟩
 obtain⟨H0,hH0⟩:∃H0,H0=upd H9 x (.ins c.S9 dx F):=⟨_,rfl⟩
 have x0:H0 x=some (.ins c.S9 dx F):=hH0 ▸ c7
 have f0:∀b o,H9 b=some o->b≠x->H0 b=some o:=fun b o e n=>by rw[hH0,g7 n];exact e
 have rows0:R4 H0 rp N:=by rw[hH0];exact rows9.ins x9
 have net0:F9 H0 np N:=by rw[hH0];exact net9.ins x9
 have np0:H0 np=some (.lst (as.map V.ref)):=by
  have:=f9 _ _ hnp8 (R1 hnp8 (s8 _ _ x7) (by intro z;cases z))
  exact f0 _ _ this (R1 this x9 (by intro z;cases z))
 have rp0:H0 rp=some (.lst (rs'.map V.ref)):=by
  have q:=s8 _ _ (f7 _ _ e6 (R1 e6 (s06 _ _ hx) (by intro z;cases z)))
  have q:=f9 _ _ q (R1 q (s8 _ _ x7) (by intro z;cases z))
  exact f0 _ _ q (R1 q x9 (by intro z;cases z))
 have at0:∀(i:Nat) y l,as[i]? = some y->N[i]? = some l->H0 y=some (.lst (IL l)):=fun i y l a b=>by
  have q:=(at8 i y l a b).1
  have q:=f9 _ _ q (R1 q (s8 _ _ x7) (by intro z;cases z))
  exact f0 _ _ q (R1 q x9 (by intro z;cases z))
 have old9:∀b o,H b=some o->b≠x->H9 b=some o:=fun b o e n=>f9 _ _ (s8 _ _ (f7 _ _ (s06 _ _ e) n)) n
 have ent11:c5G K H0 H11 ep es (u6 N.length []):=by
  have nxe:x≠ep:=c6 x9 hep
  have nxes:∀y∈es,x≠y:=fun y hy=>c6 x9 (I10.new.2 y hy)
  refine⟨fun b o e=>?_,by rw[hH11,g7 nxe.symm];exact I10.h,by rw[J1];have:=I10.len;rwa [J1]at this,I10.nd,I10.na,fun i y S a b=>?_,by rw[hH0,g7 nxe.symm];exact hep,fun y hy=>by rw[hH0,g7 (nxes y hy).symm];exact I10.new.2 y hy⟩
  ·rw[hH0]at e
   rw[hH11]
   by_cases q:b=x
   ·subst q
    rw[c7]at e ⊢
    exact e
   ·rw[g7 q]at e ⊢
    exact I10.same _ _ e
  ·have hi:=(gI b)
   rw[J1]at hi
   have q:=I10.at_ i y [] a (by rw[J4,if_pos hi])
   rw[J4,if_pos hi]at b
   cases b
   refine⟨[],?_,rfl,by simp⟩
   rw[hH11,g7 (R1 q x10 (by intro z;cases z))]
   exact q
 have old:∀b o,H b=some o->b≠x->H0 b=some o:=fun b o e n=>f0 _ _ (f9 _ _ (s8 _ _ (f7 _ _ (s06 _ _ e) n)) n) n
 rw[<-hH11]
 clear hH11 hH0 I10 x10 f0 f9 x9 ra9 net9 rows9
 specialize a2n (Z5 ?_)
 specialize b1k ?_
 exists ⟨x,_,dx,F,.ref np,rfl,ent11.same _ _ x0,ck.a0M,ck.Y4,by rw[hF];rfl,?_⟩
 refine b5D ck (net0.same ent11.same) h400 hv.two fun sl H12 hsl S12 s12=>?_
 obtain⟨vs,v1,v2,v3⟩:=id S12.ex
 have nsl:sl∉es:=fun z=>by
  obtain⟨i,hi⟩:=F4.mp z
  have hil:i<N.length:=by
   have:=ent11.len
   rw[J1]at this
   rw[<-this];exact(gI hi)
  obtain⟨ws,w1,_⟩:=(ent11.at_ i sl [] hi (by rw[J4,if_pos hil])).ex
  rw[hsl]at w1
  cases w1
 refine⟨sl,rfl,⟨_,SqL.of v1⟩,a5Y (xs:=vs.map V.ref) (fun i σ H13=>∃x3 P,σ=[some (.ref x),some (.ref ra),some (.ref na),x3]/\c5G K H0 H13 ep es P/\P.length=N.length/\(∀t,t<N.length->P[t]? = some (((a3w N).take i).filter fun s=>decide (a5W N s=t)))/\a2c K H13 sl (a3w N)/\H13 sl=some (.lst (vs.map V.ref))) ?_ ?_ ?_ ?_⟩
 ·refine⟨_,u6 N.length [],rfl,⟨ent11.same.trans s12,s12 _ _ ent11.h,ent11.len,ent11.nd,ent11.na,fun i y S a b=>(ent11.at_ i y S a b).same s12,ent11.new⟩,by simp,fun t ht=>by rw[J4,if_pos ht];simp,S12,v1⟩
 ·rintro i σ H13 _ ⟨_,_,_,_,_,_,_,h⟩
  exact SqL.of h
 ·rintro i y _ H13 hy ⟨x3,P,rfl,I13,lP,hP,S13,hsl13⟩
  rw[c8]at hy
  cases hvx:vs[i]? with
  | none=>rw[hvx]at hy;cases hy
  | some vx=>
   rw[hvx]at hy
   cases hy
   obtain⟨ws,w1,w2,w3⟩:=S13.ex
   have ews:ws=vs:=by
    rw[hsl13]at w1
    have:=a4h (f:=V.ref) (fun a b h=>V.ref.inj h) |>.mp (HO.lst.inj (Option.some.inj w1))
    exact this.symm
   subst ews
   have hi:i<(a3w N).length:=by rw[<-w2];exact(gI hvx)
   obtain⟨s,hs⟩:∃s,(a3w N)[i]? = some s:=⟨_,b9 hi⟩
   have hst:=w3 i vx s hvx hs
   have hm:=mI hs
   have his:=c1V hm
   have hlt:=c7G hv his
   have x13:=I13.same _ _ x0
   ext
   specialize a6E ?_
   specialize b1k ?_
   refine⟨x,_,dx,F,.ref ep,rfl,x13,ck.a0M,ck.a1u,by rw[hF];rfl,?_⟩
   specialize c9k ?_
   exists ⟨x,dx,F,rfl,x13,by rw[hF];rfl,?_⟩
   refine b6B ck ⟨dx,F,np,x13,by rw[hF];rfl,net0.same I13.same⟩ hst his ?_
   obtain⟨z,hz⟩:∃z,es[a5W N s]? = some z:=⟨_,b9 (by have:=I13.len;omega)⟩
   refine M4 I13.h (a2z (by rw[c8,hz];rfl)) ?_
   have hPt:=hP _ hlt
   obtain⟨us,u1,u2,u3⟩:=(I13.at_ _ z _ hz hPt).ex
   exists ⟨a4H u1,?_⟩
   have hul:us.length<=i:=by
    rw[u2]
    refine t5 (R8 _ _) ?_
    rw[E1];omega
   have hlen1:(a3w N).length<=1000:=by
    rw[<-w2]
    have:(a3w N).length<=1+2 * N.length:=c1b hv.two
    omega
   refine a2a u1 (K0 (by rw[a9];omega)) ?_
   have add:=I13.add (a:=vx) (s:=s) hz hPt u1 u2 u3 hst
   rw[show us.map V.ref++[V.ref vx]=(us++[vx]).map V.ref by simp]
   have nz:sl≠z:=fun q=>nsl (q ▸ mI hz)
   refine⟨_,_,rfl,add,by rw[V5];exact lP,fun t ht=>?_,S13.put u1 nz,by rw[g7 nz];exact hsl13⟩
   rw[b8T hs]
   by_cases q:a5W N s=t
   ·subst q
    rw[K7 (by omega),if_pos rfl]
   ·rw[L8 q,if_neg q,F0]
    exact hP t ht
 ·rintro _ H13 ⟨x3,P,rfl,I13,lP,hP,S13,hsl13⟩
  have f8:∀b o,H b=some o->b≠x->H7 b=some o:=fun b o e n=>f7 _ _ (s06 _ _ e) n
  refine k H13 ⟨dx,rp,np,ep,es,as,hF ▸ I13.same _ _ x0,⟨rows0.same I13.same,I13.same _ _ rp0⟩,I13.same _ _ np0,la,fun i y l a b=>I13.same _ _ (at0 i y l a b),I13.h,by rw[I13.len,lP],fun t y hy=>?_,fun z ⟨o,ho,hzx⟩=>⟨c6 (s05 _ _ ho) hrp,c6 (f8 _ _ ho hzx) hnp,c6 (old9 _ _ ho hzx) hep,fun q=>c6 (f8 _ _ ho hzx) (fr8 z q) rfl,fun q=>c6 (old _ _ ho hzx) (I13.new.2 z q) rfl⟩⟩ fun b o e n=>I13.same _ _ (old b o e n)
  have ht:t<N.length:=by
   have:=(gI hy)
   have:=I13.len
   omega
  have q:=I13.at_ t y _ hy (hP t ht)
  rw[a9,v2,a1t]at q
  exact q
open PySem.StrLaws PySem.Builtin.Str in
theorem b1v{x:Str}{s0:Nat}(h0:y.cps.toList[0]? = some s0):∀(ls:List Str) (cuts:List Nat) (a f:Nat),ls≠[]->(∀l∈ls,s0∉l.cps.toList)->a<=x.length->x.cps.toList.drop a=(Str.join y ls).cps.toList->ChainG x y x.length a cuts f->(∀k,f<=k->¬At x y x.length k)->partsFrom x y.length a cuts=ls
 | [],_,_,_,h,_,_,_,_,_=>absurd rfl h
 | l::ls,cuts,a,f,_,hf,ha,hd,hc,hn=>by
  have hlx:x.cps.toList.length=x.length:=z9
  have hl0:=hf l A6
  have begins:∀k,At x y x.length k->x.cps.toList[k]? = some s0:=fun k hk=>by
   have h2:=hk.2
   rw[subAt_eq]at h2
   have h3:=eq_of_beq h2
   have h4:((x.cps.toList.drop k).take y.length)[0]? = some s0:=by rw[h3];exact h0
   rw[List.getElem?_take]at h4
   split at h4
   ·rw[a2k,b2o]at h4;exact h4
   ·cases h4
  have inl:∀ {rest:List Nat},x.cps.toList.drop a=l.cps.toList++rest->∀k,a<=k->k<a+l.length->¬At x y x.length k:=fun {rest} e k h1 h2 hk=>by
   have h3:=begins k hk
   have h4:(x.cps.toList.drop a)[k - a]? = some s0:=by rw[a2k,show a+(k - a)=k by omega];exact h3
   have hll:l.cps.toList.length=l.length:=z9
   rw[e,F8 (by omega)]at h4
   exact hl0 (mI h4)
  have sub_l:∀ {rest:List Nat},x.cps.toList.drop a=l.cps.toList++rest->strSub x a (a+l.length)=l:=fun {rest} e=>by
   apply Str.ext'
   apply c8r.mp
   rw[strSub_toList,e,show a+l.length - a=l.length by omega]
   exact List.take_left' z9
  cases ls with
  | nil=>
   have e:x.cps.toList.drop a=l.cps.toList++[]:=by rw[hd,F0];rfl
   have hlen:a+l.length=x.length:=by
    have:=congrArg P3 e
    rw[X3,hlx,F0,show l.cps.toList.length=l.length from z9]at this
    omega
   cases cuts with
   | nil=>
    show [strSub x a x.length]=[l]
    rw[<-hlen,sub_l e]
   | cons c r=>
    have h1:=hc.1
    have h2:=hc.2.1
    exact absurd h2 (inl e c h1 (by
     have h3:=(o7.mp (begins c h2)).1
     omega))
  | cons l2 ls=>
   have hj:(Str.join y (l::l2::ls)).cps.toList=l.cps.toList++(y.cps.toList++(Str.join y (l2::ls)).cps.toList):=by
    show(l++y++Str.join y (l2::ls)).cps.toList=_
    rw[Str.cps_append,Str.cps_append,N4,N4,C8]
   have e:=hd.trans hj
   have hyl:y.cps.toList.length=y.length:=z9
   have hll:l.cps.toList.length=l.length:=z9
   have hdl:x.cps.toList.drop (a+l.length)=y.cps.toList++(Str.join y (l2::ls)).cps.toList:=by
    rw[<-d1z,e,<-hll,d1y]
   have hdl2:x.cps.toList.drop (a+l.length+y.length)=(Str.join y (l2::ls)).cps.toList:=by
    rw[<-d1z,hdl,<-hyl,d1y]
   have hle:a+l.length+y.length<=x.length:=by
    have:=congrArg P3 hdl
    rw[X3,hlx,j4,hyl]at this
    have hy1:0<y.length:=by rw[<-hyl];exact(gI h0)
    omega
   have hAt:At x y x.length (a+l.length):=by
    refine⟨hle,?_⟩
    rw[subAt_eq,hdl,<-hyl,d1w]
    exact beq_self_eq_true _
   cases cuts with
   | nil=>
    have ef:f=a:=hc
    exact absurd hAt (hn _ (by omega))
   | cons c r=>
    have hcc:c=a+l.length:=by
     by_cases h1:c<a+l.length
     ·exact absurd hc.2.1 (inl e c hc.1 h1)
     ·by_cases h2:a+l.length<c
      ·exact absurd hAt (hc.2.2.1 _ (by omega) h2)
      ·omega
    subst hcc
    show strSub x a (a+l.length)::partsFrom x y.length (a+l.length+y.length) r=_
    rw[sub_l e,b1v h0 (l2::ls) r (a+l.length+y.length) f (by simp) (fun z hz=>hf z (c9 _ hz)) hle hdl2 hc.2.2.2 hn]
open PySem.StrLaws PySem.Builtin.Str in
theorem b1a{s0:Nat}(h0:y.cps.toList[0]? = some s0)(hk:Builtin.Str.strKind y=1){ls:List Str}(hne:ls≠[])(hf:∀l∈ls,s0∉l.cps.toList):Txt.split (Txt.join y ls) y=ls:=by
 have hj:Txt.join y ls=Str.join y ls:=glued_eq_join y ls
 rw[hj]
 have hy1:1<=y.length:=by rw[<-show y.cps.toList.length=y.length from z9];exact(gI h0)
 obtain⟨f,hG,hn⟩:=occ_tight (Str.join y ls) y hy1
 have key:=b1v h0 ls _ 0 f hne hf (K6 _) (by rw[a4j]) hG hn
 have single:∀l,ls=[l]->[Str.join y ls]=ls:=fun l e=>by subst e;rfl
 have two:∀l l2 r,ls=l::l2::r->y.length<=(Str.join y ls).length:=fun l l2 r e=>by
  subst e
  show y.length<=(l++y++Str.join y (l2::r)).length
  rw[Str.length_append,Str.length_append]
  omega
 unfold Txt.split
 split
 ·rename_i hc
  have hkx:¬Builtin.Str.strKind (Str.join y ls)<Builtin.Str.strKind y:=by
   rw[hk]
   unfold Builtin.Str.strKind
   split
   ·omega
   ·split <;> omega
  match ls,hne with
  | [l],_=>rfl
  | l::l2::r,_=>
   rw[L4,decide_eq_true_eq,decide_eq_true_eq]at hc
   have:=two l l2 r rfl
   omega
 ·split
  ·rename_i he
   have e0:occurrences (Str.join y ls) y 0 (Str.join y ls).length ((Str.join y ls).length+1)=[]:=c8Q.mp he
   rw[e0]at key
   refine Eq.trans ?_ key
   show [_]=[strSub _ 0 _]
   rw[sub_whole]
  ·rw[partsBetween_eq]
   exact key
def wT:V->Str
 | .str s=>s
 | .int i=>toString i
 | _=>Str.empty
structure WdS(s:Str):Prop where
 len:s.length<=8
 no1:32∉s.cps.toList
 no2:59∉s.cps.toList
 fst:∃c,s.cps.toList[0]? = some c/\(c<48\/57<c)
def a2W(w:V):Prop:=(∃s,w=.str s/\WdS s)\/∃n:Nat,w=.int (n:Int)/\n<1000000000000
def wdB(s:Str):Bool:=decide (s.length<=8)&&decide (32∉s.cps.toList)&&decide (59∉s.cps.toList)&&(match s.cps.toList[0]? with | some c=>decide (c<48)||decide (57<c) | none=>false)
theorem c3a{s:Str}(h:wdB s=true):WdS s:=by
 unfold wdB at h
 simp only[l9,decide_eq_true_eq]at h
 refine⟨h.1.1.1,h.1.1.2,h.1.2,?_⟩
 have h2:=h.2
 split at h2
 ·rename_i c e
  refine⟨c,e,?_⟩
  simpa using h2
 ·cases h2
theorem b9p{s:Str}(h:NmS s):WdS s:=by
 have h1:=h.1
 unfold a1F at h1
 simp only[l9,decide_eq_true_eq]at h1
 have hm:∀c∈s.cps.toList,c∈SGN.cps.toList:=fun c hc=>by
  have h2:=p9.mp h1.2 c hc
  exact of_decide_eq_true (by rw[<-G8 SGN c];exact h2)
 have n1:32∉SGN.cps.toList:=by decide +kernel
 have n2:59∉SGN.cps.toList:=by decide +kernel
 refine⟨h.2,fun z=>n1 (hm _ z),fun z=>n2 (hm _ z),?_⟩
 have h3:=h1.1.2
 split at h3
 ·rename_i c e
  refine⟨c,by rw[O3];exact e,?_⟩
  have h4:c∈LET.cps.toList:=of_decide_eq_true (by rw[<-G8 LET c];exact h3)
  have h5:∀c∈LET.cps.toList,c<48\/57<c:=by decide +kernel
  exact h5 c h4
 ·cases h3
theorem b5v(h:OpN v):a2W v:=by
 rcases h with ⟨s,rfl,hs⟩ | ⟨n,rfl,h0,h1⟩
 ·exact .inl ⟨s,rfl,b9p hs⟩
 ·exact .inr ⟨n.toNat,by rw[a9L h0],by omega⟩
theorem a4u{c:Nat}(h:c∈(wT (.int (m:Int))).cps.toList):48<=c/\c<=57:=by
 have h:c∈(Str.ofString (toString ((m:Nat):Int))).cps.toList:=h
 rw[a2j]at h
 obtain⟨ch,hch,e⟩:=y7.mp h
 have r:=PyProof.Rows.digit_range (Nat.isDigit_of_mem_toDigits (by decide) (by decide) hch)
 rw[<-e]
 exact r
theorem b4p(h:m<1000000000000):1<=(wT (.int (m:Int))).length/\(wT (.int (m:Int))).length<=13:=by
 constructor
 ·have e:(wT (.int (m:Int))).cps.toList.length=(wT (.int (m:Int))).length:=z9
  rw[<-e]
  show 1<=(Str.ofString (toString ((m:Nat):Int))).cps.toList.length
  rw[a2j,a9]
  exact c0B 10 m
 ·exact PyData.shown_int_le (i:=(m:Int)) (by omega)
theorem c4D(h:m<1000000000000):d1m (wT (.int (m:Int)))=some (m:Int):=by
 have hl:=b4p h
 have hd:PySem.NumText.AllDigits (Str.ofString (toString ((m:Nat):Int))).cps.toList:=fun c hc=>a4u hc
 have hne:(Str.ofString (toString ((m:Nat):Int))).cps.toList≠[]:=fun z=>by
  have e:(wT (.int (m:Int))).cps.toList.length=(wT (.int (m:Int))).length:=z9
  have z':(wT (.int (m:Int))).cps.toList=[]:=z
  rw[z']at e
  have:=hl.1
  simp at e
  omega
 have e:=c2v hd hne (t5 hl.2 (by decide))
 rw[a2j,a5w]at e
 exact e
theorem a7Q{w:V}(h:a2W w):32∉(wT w).cps.toList/\59∉(wT w).cps.toList/\(wT w).length<=13/\1<=(wT w).length:=by
 rcases h with ⟨s,rfl,hs⟩ | ⟨n,rfl,hn⟩
 ·obtain⟨c,e,_⟩:=hs.fst
  have hl:s.cps.toList.length=s.length:=z9
  have:=(gI e)
  have:=hs.len
  exact⟨hs.no1,hs.no2,by show s.length<=13;omega,by show 1<=s.length;omega⟩
 ·have hl:=b4p hn
  exact⟨fun z=>by have:=a4u z;omega,fun z=>by have:=a4u z;omega,hl.2,hl.1⟩
theorem a2W.flat{w:V}(h:a2W w):K8 w=true:=by
 rcases h with ⟨s,rfl,_⟩ | ⟨n,rfl,_⟩ <;> rfl
abbrev FIG:Str := "0123456789"
theorem c0t:(toString (1000000000000:Int):Str).length=13:=by decide +kernel
theorem b5X{K:Fg}{to:TE}{tr:TA}(h:to σ H fun x H1=>tyV K "str" x H1/\tr σ H1 fun xs H2=>f x xs H2 Q):tBM K "str" f to tr σ H Q:=h
theorem b5w{K:Fg}{w:V}{E:XK}(h:a2W w)(k:∀H',t7 H H'->Q w H'):a0D K [.str (wT w)] H Q E:=by
 obtain⟨_,_,l13,l1⟩:=a7Q h
 have hz:=small (show(wT w).length<=100000 by omega)
 have hl:(wT w).cps.toList.length=(wT w).length:=z9
 refine⟨rfl,?_⟩
 unfold a7c
 nofun
 exists a4T hz ?_
 exists A8 (d4M (by omega)) ?_
 refine .inr (.inl ⟨_,rfl,by decide,?_⟩)
 ext
 exists a4T (by rw[c0t];exact small (by decide)) ?_
 rw[c0t]
 exists A8 (d4M (by omega)) ?_
 specialize T7 (b7V ?_)
 refine⟨wT w,rfl,fun D hD=>?_⟩
 refine b1Y (fun i ys H2=>ys=((wT w).cps.toList.take i).map (fun c=>V.bl (sgn FIG c))/\H2=upd H D (.lst ys)) ⟨by simp,rfl⟩ ?_ ?_ ?_
 ·rintro i ys _ ⟨_,rfl⟩
  exact c7
 ·rintro i c ys _ hc ⟨rfl,rfl⟩ R R' hR hR'
  have hc':(wT w).cps.toList[i]? = some c:=by rw[O3];exact hc
  ext
  exists b1O ?_
  refine b1s (S:=FIG) ?_
  refine hR (.bl (sgn FIG c)) _ c7 (K0 ?_) ⟨?_,?_⟩
  ·rw[a9,E1];omega
  ·rw[C7,hc'];simp
  ·rw[a6k]
 ·rintro ys _ ⟨rfl,rfl⟩
  ext
  have eb:R7 (((wT w).cps.toList.take (wT w).length).map (fun c=>V.bl (sgn FIG c)))=some (((wT w).cps.toList.take (wT w).length).map (sgn FIG)):=by
   generalize (wT w).cps.toList.take (wT w).length=l
   induction l with
   | nil=>rfl
   | cons a r ih=>simp[R7,ih]
  refine(show a8n [.ref D] _ _ from ?_)
  unfold a8n
  simp only[c7]
  refine⟨_,eb,?_⟩
  rw[w6 (by omega)]
  refine⟨_,rfl,?_⟩
  have fg:∀c,sgn FIG c=decide (c∈FIG.cps.toList):=fun c=>G8 FIG c
  have fr:∀c∈FIG.cps.toList,48<=c/\c<=57:=by decide +kernel
  have fl:∀c,c<58->48<=c->c∈FIG.cps.toList:=by decide +kernel
  have s1:=u0 (o:=.lst ((wT w).cps.toList.map (fun c=>V.bl (sgn FIG c)))) hD
  rcases id h with ⟨s,rfl,hs⟩ | ⟨n,rfl,hn⟩
  ·obtain⟨c,e,hc⟩:=hs.fst
   have e':(wT (.str s)).cps.toList[0]? = some c:=e
   have ef:(((wT (.str s)).cps.toList.map (sgn FIG)).all id)=false:=by
    rw[a2A]
    intro z
    rw[a6D,p9]at z
    have z1:sgn FIG c=true:=z c (mI e')
    rw[fg]at z1
    have:=fr c (of_decide_eq_true z1)
    omega
   exists v7 ef ?_
   exact k _ s1
  ·have et:(((wT (.int (n:Int))).cps.toList.map (sgn FIG)).all id)=true:=by
    rw[a6D,p9]
    intro c hc
    have:=a4u hc
    show sgn FIG c=true
    rw[fg]
    exact d4M (fl c (by omega) this.1)
   exists A8 et ?_
   exact⟨_,_,rfl,c4D hn,by omega,k _ s1⟩
inductive RWs(H:Hp):List V->List V->Prop
 | set (n:Str) (p:Addr) (kd:Str) (v1 v2:V):NmS n->H p=some (.tup [.str kd,v1,v2])->OpN v1->OpN v2->kd∈a5p->RWs H [.str "set",.str n,.ref p] [.str "set",.str n,.str kd,v1,v2]
 | copy (n:Str) (v:V):NmS n->OpN v->RWs H [.str "copy",.str n,v] [.str "copy",.str n,v]
 | take (n:Str):NmS n->RWs H [.str "take",.str n] [.str "take",.str n]
 | tell (v:V):OpN v->RWs H [.str "tell",v] [.str "tell",v]
 | ask (v:V):OpN v->RWs H [.str "ask",v] [.str "ask",v]
 | skip:RWs H [.str "skip"] [.str "skip"]
theorem RWs.ts(h:RWs H xs ws)(t:a0o H H'):RWs H' xs ws:=by
 cases h with
 | set n p kd v1 v2 a b c d e=>exact .set n p kd v1 v2 a (t _ _ b) c d e
 | copy n v a b=>exact .copy n v a b
 | take n a=>exact .take n a
 | tell v a=>exact .tell v a
 | ask v a=>exact .ask v a
 | skip=>exact .skip
theorem c9r(h:a9C H xs):∃ws,RWs H xs ws:=by
 cases h with
 | set n p a d=>
  obtain⟨k,v1,v2,h,o1,o2,hk⟩:=d
  exact⟨_,.set n p k v1 v2 a h o1 o2 hk⟩
 | copy n v a b=>exact⟨_,.copy n v a b⟩
 | take n a=>exact⟨_,.take n a⟩
 | tell v a=>exact⟨_,.tell v a⟩
 | ask v a=>exact⟨_,.ask v a⟩
 | skip=>exact⟨_,.skip⟩
theorem c5Z{k:Str}(h:k∈a5p):WdS k:=by
 have:∀s∈a5p,wdB s=true:=by decide +kernel
 exact c3a (this k h)
theorem RWs.words(h:RWs H xs ws):(∀w∈ws,a2W w)/\ws.length<=5/\ws≠[]/\∀w∈ws,w≠.str ">" := by
 have no:∀ {v:V},OpN v->v≠.str ">" := fun {v} h z=>by
  subst z
  rcases h with ⟨s,e,hs⟩ | ⟨n,e,_⟩
  ·cases e
   have:=hs.1
   exact absurd this (by decide +kernel)
  ·cases e
 have nn:∀ {n:Str},NmS n->V.str n≠.str ">" := fun {n} h z=>by
  cases z
  exact absurd h.1 (by decide +kernel)
 have nk:∀ {n:Str},n∈a5p->V.str n≠.str ">" := fun {n} h z=>by
  cases z
  exact absurd h (by decide +kernel)
 have wk:∀ {s:Str},wdB s=true->a2W (.str s):=fun h=>.inl ⟨_,rfl,c3a h⟩
 cases h with
 | set n p kd v1 v2 a b c d e=>
  refine⟨fun w hw=>?_,by simp,by simp,fun w hw=>?_⟩
  ·simp only[c5,p8,or_false]at hw
   rcases hw with rfl | rfl | rfl | rfl | rfl
   ·exact wk (by decide +kernel)
   ·exact .inl ⟨_,rfl,b9p a⟩
   ·exact .inl ⟨_,rfl,c5Z e⟩
   ·exact b5v c
   ·exact b5v d
  ·simp only[c5,p8,or_false]at hw
   rcases hw with rfl | rfl | rfl | rfl | rfl
   ·decide +kernel
   ·exact nn a
   ·exact nk e
   ·exact no c
   ·exact no d
 | copy n v a b=>
  refine⟨fun w hw=>?_,by simp,by simp,fun w hw=>?_⟩
  ·simp only[c5,p8,or_false]at hw
   rcases hw with rfl | rfl | rfl
   ·exact wk (by decide +kernel)
   ·exact .inl ⟨_,rfl,b9p a⟩
   ·exact b5v b
  ·simp only[c5,p8,or_false]at hw
   rcases hw with rfl | rfl | rfl
   ·decide +kernel
   ·exact nn a
   ·exact no b
 | take n a=>
  refine⟨fun w hw=>?_,by simp,by simp,fun w hw=>?_⟩
  ·simp only[c5,p8,or_false]at hw
   rcases hw with rfl | rfl
   ·exact wk (by decide +kernel)
   ·exact .inl ⟨_,rfl,b9p a⟩
  ·simp only[c5,p8,or_false]at hw
   rcases hw with rfl | rfl
   ·decide +kernel
   ·exact nn a
 | tell v b=>
  refine⟨fun w hw=>?_,by simp,by simp,fun w hw=>?_⟩
  ·simp only[c5,p8,or_false]at hw
   rcases hw with rfl | rfl
   ·exact wk (by decide +kernel)
   ·exact b5v b
  ·simp only[c5,p8,or_false]at hw
   rcases hw with rfl | rfl
   ·decide +kernel
   ·exact no b
 | ask v b=>
  refine⟨fun w hw=>?_,by simp,by simp,fun w hw=>?_⟩
  ·simp only[c5,p8,or_false]at hw
   rcases hw with rfl | rfl
   ·exact wk (by decide +kernel)
   ·exact b5v b
  ·simp only[c5,p8,or_false]at hw
   rcases hw with rfl | rfl
   ·decide +kernel
   ·exact no b
 | skip=>
  refine⟨fun w hw=>?_,by simp,by simp,fun w hw=>?_⟩
  ·simp only[c5,p8,or_false]at hw
   subst hw
   exact wk (by decide +kernel)
  ·simp only[c5,p8,or_false]at hw
   subst hw
   decide +kernel
def Pt(H:Hp)(x:V)(us:List V):Prop:=(∃q,x=.ref q/\H q=some (.tup us))\/(K8 x=true/\us=[x])
theorem b3o:∀ys:List V,(ys.map fun x=>[x]).flatten=ys
 | []=>rfl
 | y::r=>by rw[C6,List.flatten_cons,b3o r];rfl
theorem c1n(h:RWs H xs ws):∃uss:List (List V),uss.length=xs.length/\uss.flatten=ws/\∀(i:Nat) x us,xs[i]? = some x->uss[i]? = some us->Pt H x us:=by
 have flat:∀ys:List V,ys.all K8=true->∃uss:List (List V),uss.length=ys.length/\uss.flatten=ys/\∀(i:Nat) x us,ys[i]? = some x->uss[i]? = some us->Pt H x us:=fun ys hy=>by
  refine⟨ys.map fun x=>[x],by simp,b3o ys,fun i x us h1 h2=>.inr ⟨p9.mp hy x (mI h1),?_⟩⟩
  rw[c8,h1]at h2
  cases h2
  rfl
 cases h with
 | set n p kd v1 v2 a b c d e=>
  refine⟨[[.str "set"],[.str n],[.str kd,v1,v2]],rfl,rfl,fun i x us h1 h2=>?_⟩
  match i with
  | 0=>cases h1;cases h2;exact .inr ⟨rfl,rfl⟩
  | 1=>cases h1;cases h2;exact .inr ⟨rfl,rfl⟩
  | 2=>cases h1;cases h2;exact .inl ⟨p,rfl,b⟩
  | i+3=>simp at h1
 | copy n v a b=>exact flat _ (by show(true&&(true&&(K8 v&&true)))=true;rw[b.flat];rfl)
 | take n a=>exact flat _ rfl
 | tell v b=>exact flat _ (by show(true&&(K8 v&&true))=true;rw[b.flat];rfl)
 | ask v b=>exact flat _ (by show(true&&(K8 v&&true))=true;rw[b.flat];rfl)
 | skip=>exact flat _ rfl
theorem c7R(h:K8 v=true):∃s,J9 v H=some s/\a4c s "tuple" = false:=by
 cases v with
 | non=>exact⟨_,rfl,by decide⟩
 | bl b=>exact⟨_,rfl,by decide⟩
 | int i=>exact⟨_,rfl,by decide⟩
 | str s=>exact⟨_,rfl,by decide⟩
 | _=>cases h
theorem c6s{K:Fg}(h:ta σ H fun x H2=>∃a,x=.ref a/\(∃xs,SqT K H2 a xs)/\R (Itt K a) H2):c7K K ta σ H R:=h
section
variable {K:Fg}{E:XK}
theorem b5u(hp:H p=some (.tup xs))(h:RWs H xs ws)(k:∀D H',H D=none->H' D=some (.lst ws)->t7 H H'->Q (.ref D) H'):a3K K [.ref p] H Q E:=by
 obtain⟨uss,l1,l2,l3⟩:=c1n h
 have hw5:=h.words.2.1
 refine⟨rfl,?_⟩
 unfold b0R
 nofun
 exists D9 (by simp) fun D G hD eD s0=>?_
 exact_mod_cast a0X ?_
 specialize a2n (c6s ?_)
 refine⟨p,rfl,⟨_,SqT.of (s0 _ _ hp)⟩,c7Q (xs:=xs) (fun i σ H2=>∃x2,σ=[some (.ref p),some (.ref D),x2]/\H2 D=some (.lst (uss.take i).flatten)/\∀b o,H b=some o->H2 b=some o) ⟨_,rfl,by simpa using eD,s0⟩ ?_ ?_ ?_⟩
 ·rintro i σ H2 _ ⟨_,_,_,s2⟩
  exact SqT.of (s2 _ _ hp)
 ·rintro i x _ H2 hx ⟨x2,rfl,d2,s2⟩
  have hi:=(gI hx)
  obtain⟨us,hus⟩:∃us,uss[i]? = some us:=⟨_,b9 (by omega)⟩
  have hlen:(uss.take i).flatten.length+us.length<=5:=by
   have e:(uss.take (i+1)).flatten=(uss.take i).flatten++us:=by rw[C7,hus];simp
   have e2:(uss.take (i+1)).flatten.length<=uss.flatten.length:=by
    conv=>rhs;rw[<-List.take_append_drop (i+1) uss]
    rw[List.flatten_append,j4]
    omega
   rw[e,j4,l2]at e2
   omega
  have step:∀H3:Hp,H3 D=some (.lst ((uss.take i).flatten++us))->(∀b o,H b=some o->H3 b=some o)->∃x2,[some (V.ref p),some (V.ref D),some x]=[some (V.ref p),some (V.ref D),x2]/\H3 D=some (.lst (uss.take (i+1)).flatten)/\∀b o,H b=some o->H3 b=some o:=fun H3 a b=>⟨_,rfl,by rw[a,C7,hus];simp,b⟩
  ext
  specialize a6E ?_
  exists ⟨.inl ⟨rfl,_,SqL.of d2⟩,?_⟩
  rcases l3 i x us hx hus with ⟨q,rfl,hq⟩ | ⟨hf,rfl⟩
  ·exists Z7 (s := "tuple") (by simp only[J9,s2 _ _ hq]) (by decide) ?_
   exists A8 (by decide) ?_
   refine .inr ⟨D,q,_,us,rfl,rfl,d2,s2 _ _ hq,by omega,?_⟩
   exact step _ c7 fun b o e=>by rw[g7 (c6 e hD)];exact s2 b o e
  ·obtain⟨ty,e1,e2⟩:=c7R (H:=H2) hf
   exists Z7 e1 (by decide) ?_
   exists v7 e2 ?_
   exists D9 (by simp) fun q G2 hq eq sq=>?_
   refine .inl (a8m (sq _ _ d2) eq (small (by simp at hlen ⊢;omega)) ?_)
   exact step _ c7 fun b o e=>by rw[g7 (c6 e hD)];exact sq _ _ (s2 b o e)
 ·rintro _ H2 ⟨x2,rfl,d2,s2⟩
  ext
  rw[w6 (by omega),l2]at d2
  exact k D H2 hD d2 s2
end
def S3(ws:List V)(l:List Nat):List V:=ws++(if l=[] then [] else .str ">" :: IL l)
def a5U(ws:List V)(l:List Nat):Str:=Txt.join " " ((S3 ws l).map wT)
theorem c8k(h:∀t∈l,t<400):∀w∈IL l,a2W w:=fun w hw=>by
 obtain⟨t,ht,rfl⟩:=y7.mp hw
 exact .inr ⟨t,rfl,by have:=h t ht;omega⟩
theorem c7L:a2W (.str ">"):=.inl ⟨_,rfl,c3a (by decide +kernel)⟩
theorem a3E(h:RWs H xs ws)(h2:l.length<=2)(hl:∀t∈l,t<400):(∀w∈S3 ws l,a2W w)/\(S3 ws l).length<=8/\S3 ws l≠[]:=by
 obtain⟨a,b,c,_⟩:=h.words
 unfold S3
 refine⟨fun w hw=>?_,?_,fun z=>c (c0E.mp z).1⟩
 ·rcases j8.mp hw with q | q
  ·exact a w q
  ·split at q
   ·cases q
   ·rcases c5.mp q with rfl | q
    ·exact c7L
    ·exact c8k hl w q
 ·rw[j4]
  split
  ·simp;omega
  ·rw[j9,Q0];omega
theorem c3p:∀ {ws:List V},(∀w∈ws,a2W w)->((ws.map wT).map (·.length)).sum<=13 * ws.length
 | [],_=>by simp
 | w::ws,h=>by
  have h1:=(a7Q (h w A6)).2.2.1
  have h2:=c3p (ws:=ws) fun v hv=>h v (c9 _ hv)
  simp only[C6,b7l,j9]
  omega
theorem b6F{P:Nat->Prop}(hy:∀c∈y.cps.toList,P c):∀(ls:List Str),(∀l∈ls,∀c∈l.cps.toList,P c)->∀c∈(Txt.join y ls).cps.toList,P c:=fun ls h=>by
 rw[show Txt.join y ls=Str.join y ls from F7 y ls]
 induction ls with
 | nil=>
  intro c hc
  have hc:c∈(Str.empty).cps.toList:=hc
  simp[Str.empty]at hc
 | cons l r ih=>
  cases r with
  | nil=>exact h l A6
  | cons l2 r=>
   intro c hc
   have hj:(Str.join y (l::l2::r)).cps.toList=l.cps.toList++(y.cps.toList++(Str.join y (l2::r)).cps.toList):=by
    show(l++y++Str.join y (l2::r)).cps.toList=_
    rw[Str.cps_append,Str.cps_append,N4,N4,C8]
   rw[hj]at hc
   rcases j8.mp hc with q | q
   ·exact h l A6 c q
   ·rcases j8.mp q with q | q
    ·exact hy c q
    ·exact ih (fun l' hl=>h l' (c9 _ hl)) c q
theorem c6e:a3v (ws.map fun w=>V.str (wT w))=some (ws.map wT):=by
 rw[show(ws.map fun w=>V.str (wT w))=(ws.map wT).map V.str by rw[G6];rfl]
 exact a3u _
theorem c9v{w:V}(h:a2W w)(k:Q (.str (wT w)) H):b1t [w] H Q:=by
 rcases h with ⟨s,rfl,_⟩ | ⟨n,rfl,hn⟩
 ·exact .inl ⟨s,rfl,k⟩
 ·exact .inr (.inl ⟨_,rfl,by omega,k⟩)
section
variable {K:Fg}{x:Addr}{E:XK}
theorem c4U(hi:σ[i]? = some (some (.ref D)))(hd:H D=some (.lst ws))(hw:∀w∈ws,a2W w)(h8:ws.length<=8)(k:∀H',t7 H H'->Q (.str (Txt.join " " (ws.map wT))) H') :
  tBM K "str" a5n (tC (.str " ")) (a8 (T5 (a0b K (b5 i)) (U4) (tCB b1t (a8 (b5 0) (d6)))) (d6)) σ H Q:=by
 ext
 exact_mod_cast T7 (Z5 ?_)
 exact_mod_cast a9P hi ?_
 refine⟨D,rfl,⟨_,SqL.of hd⟩,fun D2 hD2=>?_⟩
 refine W8 (xs:=ws) (fun i ys H2=>ys=(ws.take i).map (fun w=>V.str (wT w))/\H2=upd H D2 (.lst ys)) ⟨by simp,rfl⟩ ?_ ?_ ?_ ?_
 ·rintro i ys _ ⟨_,rfl⟩
  exact c7
 ·rintro i ys _ _ ⟨_,rfl⟩
  refine SqL.of ?_
  rw[g7 (c6 hd hD2)];exact hd
 ·rintro i w ys _ hx ⟨rfl,rfl⟩ R hR
  ext
  refine c9v (hw w (mI hx)) ?_
  refine hR _ _ c7 (K0 ?_) ⟨?_,?_⟩
  ·rw[a9,E1];omega
  ·rw[C7,hx];simp
  ·rw[a6k]
 ·rintro ys _ ⟨rfl,rfl⟩
  ext
  rw[w6 (d9 _)]
  refine b1p c7 c6e ?_ (k _ (u0 hD2))
  have:=c3p hw
  have e1:((" " : Str)).length=1:=by decide +kernel
  rw[e1,a9]
  omega
theorem b1d(hp:H p=some (.tup xs))(h:RWs H xs ws)(hx:H x=some (.lst (IL l)))(h2:l.length<=2)(hl:∀t∈l,t<400)(k:∀H',t7 H H'->Q (.str (a5U ws l)) H'):a1T K [.ref p,.ref x] H Q E:=by
 obtain⟨w1,w2,_⟩:=a3E h h2 hl
 have hw5:=h.words.2.1
 refine⟨rfl,?_⟩
 unfold a6N
 nofun
 exists b5u hp h fun D H1 hD e1 s1=>?_
 exact_mod_cast a0n (P:=fun σ H2=>σ=[some (.ref p),some (.ref x),some (.ref D)]/\H2 D=some (.lst (S3 ws l))/\t7 H H2) ?_ ?_
 ·rintro _ H2 ⟨rfl,d2,s2⟩
  exact_mod_cast b9F ?_
  exact c4U rfl d2 w1 w2 fun H' s'=>k H' (s2.trans s')
 ·intro nx hnx
  ext
  exists K5 (s1 _ _ hx) ?_
  rw[Q0]
  by_cases hz:l=[]
  ·subst hz
   exists v7 (d4L (by simp)) ?_
   exact hnx _ _ ⟨rfl,by rw[e1];simp[S3],s1⟩
  ·have hpos:0<l.length:=A9.mpr hz
   refine A8 (d4M (by omega)) ?_
   nofun
   specialize a6E ?_
   exists ⟨.inl ⟨rfl,_,SqL.of e1⟩,?_⟩
   exists a2a e1 (K0 (by omega)) ?_
   specialize a6E ?_
   exists ⟨.inl ⟨rfl,_,SqL.of c7⟩,?_⟩
   have nx':x≠D:=c6 hx hD
   refine .inl (a8m c7 (by rw[g7 nx'];exact s1 _ _ hx) (small (by simp[Q0];omega)) ?_)
   refine hnx _ _ ⟨rfl,?_,fun b o e=>?_⟩
   ·rw[c7]
    unfold S3
    rw[if_neg hz]
    simp
   ·rw[g7 (c6 e hD),g7 (c6 e hD)];exact s1 b o e
end
structure a1l(H:Hp)(rs:List Addr)(Ws:List (List V)):Prop where
 len:Ws.length=rs.length
 at_:∀(i:Nat) p,rs[i]? = some p->∃xs,H p=some (.tup xs)/\RWs H xs (Ws.getD i [])
theorem a1l.ts(h:a1l H rs Ws)(t:a0o H H'):a1l H' rs Ws:=⟨h.len,fun i p hp=>by
 obtain⟨xs,a,b⟩:=h.at_ i p hp
 exact⟨xs,t _ _ a,b.ts t⟩⟩
theorem b1l:∀ {rs:List Addr},(∀p∈rs,∃b,a5u H (.ref p) b)->∃Ws,a1l H rs Ws
 | [],_=>⟨[],rfl,fun i p h=>by simp at h⟩
 | p::rs,h=>by
  obtain⟨b,q,xs,e,hq,hr,_⟩:=h p A6
  cases e
  obtain⟨ws,hw⟩:=c9r hr
  obtain⟨Ws,W⟩:=b1l (rs:=rs) fun p hp=>h p (c9 _ hp)
  refine⟨ws::Ws,by simp[W.len],fun i p' hp=>?_⟩
  cases i with
  | zero=>simp at hp;subst hp;exact⟨xs,hq,hw⟩
  | succ i=>
   obtain⟨ys,a,b⟩:=W.at_ i p' (by simpa using hp)
   exact⟨ys,a,by simpa using b⟩
def G7(Ws:List (List V))(N:Nt):List Str:=(l6 N.length).map fun i=>a5U (Ws.getD i []) (N.getD i [])
def a3t(Ws:List (List V))(N:Nt):Str:=Txt.join "; " (G7 Ws N)
theorem a6x(h:i<N.length):N[i]? = some (N.getD i []):=by
 rw[List.getD_eq_getElem?_getD,b9 h];rfl
theorem c5b(h:i<N.length):N.getD i []∈N:=mI (a6x h)
section
variable {K:Fg}{c:Cn}{x:Addr}{E:XK}
theorem a6v(y:Str)(ls:List Str)(m:Nat)(h:∀l∈ls,l.length<=m):(ls.map (·.length)).sum<=m * ls.length:=by
 induction ls with
 | nil=>simp
 | cons l r ih=>
  have h1:=h l A6
  have h2:=ih fun z hz=>h z (c9 _ hz)
  simp only[C6,b7l,j9]
  rw[Nat.mul_add]
  omega
theorem b6A(h:RWs H xs ws)(h2:l.length<=2)(hl:∀t∈l,t<400):(a5U ws l).length<=120:=by
 obtain⟨w1,w2,_⟩:=a3E h h2 hl
 unfold a5U
 rw[show Txt.join " " ((S3 ws l).map wT)=Str.join " " ((S3 ws l).map wT)from F7 _ _]
 have h1:=S8 " " ((S3 ws l).map wT)
 have h3:=c3p w1
 have e1:((" " : Str)).length=1:=by decide +kernel
 rw[e1,a9]at h1
 omega
theorem a3s(hv:a0c N)(h:i<N.length):(N.getD i []).length<=2/\∀t∈N.getD i [],t<400:=by
 have hm:=c5b h
 exact⟨hv.two _ hm,fun t ht=>t8 (hv.lt _ hm t ht) hv.le⟩
theorem a6u(W:a1l H rs Ws)(lr:rs.length=N.length)(hv:a0c N):∀l∈G7 Ws N,l.length<=120:=fun l hl=>by
 obtain⟨i,hi,rfl⟩:=y7.mp hl
 have hi:=E5.mp hi
 obtain⟨xs,_,hw⟩:=W.at_ i _ (b9 (by omega))
 exact b6A hw (a3s hv hi).1 (a3s hv hi).2
theorem c6y(W:a1l H rs Ws)(lr:rs.length=N.length)(hv:a0c N)(hd:H' D=some (.lst ((G7 Ws N).map V.str)))(k:Q (.str (a3t Ws N)) H'):a5n (.str "; ") [.ref D] H' Q:=by
 refine b1p hd (a3u _) ?_ k
 have h1:=a6v "; " (G7 Ws N) 120 (a6u W lr hv)
 have e2:(("; " : Str)).length=2:=by decide +kernel
 have e3:(G7 Ws N).length=N.length:=by simp[G7]
 have:=hv.le
 rw[e2]
 omega
theorem b8D(h:i<N.length):((G7 Ws N).take (i+1))=(G7 Ws N).take i++[a5U (Ws.getD i []) (N.getD i [])]:=by
 rw[C7]
 have e:(G7 Ws N)[i]? = some (a5U (Ws.getD i []) (N.getD i [])):=by
  unfold G7
  rw[c8,a1H h];rfl
 rw[e];rfl
def PlF(c:Cn)(H:Hp)(x:Addr)(rs:List Addr)(N:Nt):Prop:=∃dx r n e,H x=some (.ins c.S9 dx [("rows",.ref r),("nexts",.ref n),("entries",.ref e)])/\H r=some (.lst (rs.map V.ref))/\F9 H n N
theorem PlF.same(h:PlF c H x rs N)(s:t7 H H'):PlF c H' x rs N:=by
 obtain⟨dx,r,n,e,a,b,d⟩:=h
 exact⟨dx,r,n,e,s _ _ a,s _ _ b,d.same s⟩
theorem a8b(ck:a4y K c)(hp:PlF c H x rs N)(lr:rs.length=N.length)(W:a1l H rs Ws)(hv:a0c N)(k:∀H',t7 H H'->Q (.str (a3t Ws N)) H'):a3x K [.ref x] H Q E:=by
 obtain⟨dx,r,n,e,p1,p2,p3⟩:=hp
 obtain⟨as,n1,n2,n3⟩:=p3.ex
 have h400:=hv.le
 refine⟨rfl,?_⟩
 unfold b9u
 ext
 specialize b0n (b7U ?_)
 specialize b1k ?_
 exists ⟨x,_,dx,_,.ref r,rfl,p1,ck.a0M,ck.a2h,rfl,?_⟩
 specialize b1k ?_
 exists ⟨x,_,dx,_,.ref n,rfl,p1,ck.a0M,ck.Y4,rfl,?_⟩
 refine⟨r,n,rfl,⟨_,SqL.of p2⟩,⟨_,SqL.of n1⟩,fun D hD=>?_⟩
 refine b4E (K:=K) N.length (fun i ys H2=>ys=((G7 Ws N).take i).map V.str/\H2 D=some (.lst ys)/\t7 H H2) ⟨by simp,c7,u0 hD⟩ ?_ ?_ ?_ ?_
 ·rintro i ys H2 ⟨_,h,_⟩
  exact h
 ·rintro ys H2 ⟨rfl,h,s2⟩
  exists ⟨⟨_,_,SqL.of (s2 _ _ p2),SqL.of (s2 _ _ n1),.inl (by simp[lr])⟩,?_⟩
  rw[w6 (by simp[G7])]at h
  exact c6y (W.ts (t7.ts s2)) lr hv h (k H2 s2)
 ·rintro i ys H2 hi ⟨_,_,s2⟩
  exact⟨_,_,_,_,SqL.of (s2 _ _ p2),SqL.of (s2 _ _ n1),by rw[c8,b9 (by omega)];rfl,by rw[c8,b9 (by omega)];rfl⟩
 ·rintro i ys H2 hi ⟨rfl,h,s2⟩ v H3 ⟨q,u,w,hq,rfl,rfl,hu,hw⟩
  have hu:=hu _ (SqL.of (s2 _ _ p2))
  have hw:=hw _ (SqL.of (s2 _ _ n1))
  rw[c8]at hu hw
  obtain⟨pi,hpi,rfl⟩:=z7.mp hu
  obtain⟨ai,hai,rfl⟩:=z7.mp hw
  refine⟨q,_,_,rfl,SqT.of c7,fun R S hR hS=>?_⟩
  have s3:t7 H (upd H2 q (.tup [.ref pi,.ref ai])):=s2.trans (u0 hq)
  have hDq:D≠q:=c6 h hq
  have h3:upd H2 q (.tup [.ref pi,.ref ai]) D=some (.lst (((G7 Ws N).take i).map V.str)):=by rw[g7 hDq];exact h
  generalize upd H2 q (.tup [.ref pi,.ref ai])=H3 at s3 h3
  ext
  exists b1O ?_
  obtain⟨xs,g1,g2⟩:=W.at_ i pi hpi
  obtain⟨v1,v2⟩:=a3s hv hi
  refine b1d (s3 _ _ g1) (g2.ts (t7.ts s3)) (s3 _ _ (n3 i ai _ hai (a6x hi))) v1 v2 fun H4 s4=>?_
  refine hR _ _ (s4 _ _ h3) (K0 (by rw[a9,E1];omega)) ⟨?_,c7,fun b o eb=>?_⟩
  ·rw[b8D hi,E9];rfl
  ·have:=(s3.trans s4) b o eb
   rw[g7 (c6 eb hD)];exact this
end
theorem c6u(h:RWs H xs ws):a9C H xs:=by
 cases h with
 | set n p kd v1 v2 a b c d e=>exact .set n p a ⟨kd,v1,v2,b,c,d,e⟩
 | copy n v a b=>exact .copy n v a b
 | take n a=>exact .take n a
 | tell v a=>exact .tell v a
 | ask v a=>exact .ask v a
 | skip=>exact .skip
theorem b5Y(h:RWs H xs ws):∃k r r',xs=.str k::r/\ws=.str k::r':=by
 cases h <;> exact⟨_,_,_,rfl,rfl⟩
def c2u(Ws:List (List V))(N:Nt):Prop:=∀i,i<N.length->∃k r,Ws.getD i []=.str k::r/\decide ((k:Str) = "ask")=((N.getD i []).length == 2)
section
variable {K:Fg}{c:Cn}{x:Addr}{E:XK}
theorem c0x(hR:R4 H ra N)(hr:H ra=some (.lst (rs.map V.ref)))(W:a1l H rs Ws):rs.length=N.length/\c2u Ws N:=by
 obtain⟨rs',r1,r2,r3⟩:=hR.ex
 obtain rfl:rs'=rs:=by
  rw[hr]at r1
  exact(a4h (f:=V.ref) (fun a b h=>V.ref.inj h) |>.mp (HO.lst.inj (Option.some.inj r1))).symm
 refine⟨r2,fun i hi=>?_⟩
 obtain⟨q,hq⟩:∃q,rs'[i]? = some q:=⟨_,b9 (by omega)⟩
 obtain⟨q',ys,e,hy,_,k,r,e2,hk⟩:=r3 i q _ hq (a6x hi)
 cases e
 obtain⟨xs,g1,g2⟩:=W.at_ i q hq
 rw[hy]at g1
 cases g1
 obtain⟨k',a,b,f1,f2⟩:=b5Y g2
 rw[e2]at f1
 cases f1
 exact⟨k,b,f2,hk⟩
theorem c6t(h:RWs H xs ws):(ws.length<=3/\∀H':Hp,RWs H' ws ws)\/∃n kd v1 v2,ws=[.str "set",.str n,.str kd,v1,v2]/\NmS n/\OpN v1/\OpN v2/\kd∈a5p:=by
 cases h with
 | set n p kd v1 v2 a b c d e=>exact .inr ⟨n,kd,v1,v2,rfl,a,c,d,e⟩
 | copy n v a b=>exact .inl ⟨by simp,fun _=>.copy n v a b⟩
 | take n a=>exact .inl ⟨by simp,fun _=>.take n a⟩
 | tell v a=>exact .inl ⟨by simp,fun _=>.tell v a⟩
 | ask v a=>exact .inl ⟨by simp,fun _=>.ask v a⟩
 | skip=>exact .inl ⟨by simp,fun _=>.skip⟩
theorem c1p(hd:H D=some (.lst ws))(h:RWs H0 xs ws)(k:∀q H' ys,H' q=some (.tup ys)->RWs H' ys ws->t7 H H'->Q (.ref q) H'):a4r K [.ref D] H Q E:=by
 refine⟨rfl,?_⟩
 unfold b0U
 nofun
 exists K5 hd ?_
 rcases c6t h with ⟨hl,hw⟩ | ⟨n,kd,v1,v2,rfl,a,c,d,e⟩
 ·refine v7 (d4L fun z=>?_) ?_
  ·have:=V.int.inj z;omega
  ext
  refine(show a2s [.ref D] H _ from ?_)
  unfold a2s
  simp only[hd]
  intro q hq
  exact k q _ ws c7 (hw _) (u0 hq)
 ·exists A8 rfl ?_
  exists M4 hd (a3g _ _) ?_
  exists M4 hd (a8B _ _ _) ?_
  refine(show qSl (.ref D) (some 2) none H _ from ?_)
  unfold qSl
  simp only[hd]
  intro q1 hq1
  have e1:a1J [V.str "set",.str n,.str kd,v1,v2] (some 2) none=[.str kd,v1,v2]:=rfl
  rw[e1]
  ext
  refine(show a2s [.ref q1] (upd H q1 (.lst [.str kd,v1,v2])) _ from ?_)
  unfold a2s
  simp only[c7]
  intro q2 hq2
  have s2:t7 H (upd (upd H q1 (.lst [.str kd,v1,v2])) q2 (.tup [.str kd,v1,v2])):=(u0 hq1).trans (u0 hq2)
  have e2:upd (upd H q1 (.lst [.str kd,v1,v2])) q2 (.tup [.str kd,v1,v2]) q2=some (.tup [.str kd,v1,v2]):=c7
  generalize upd (upd H q1 (.lst [.str kd,v1,v2])) q2 (.tup [.str kd,v1,v2])=H3 at s2 e2
  ext
  refine D9 (by simp) fun q H4 _ e4 s4=>?_
  exact k q H4 _ e4 (.set n q2 kd v1 v2 a (s4 _ _ e2) c d e) (s2.trans s4)
end
section
variable {K:Fg}{c:Cn}{x:Addr}{E:XK}
theorem b4b{zs:List V}(ha:H a=some (.lst zs))(h:∀q,H q=none->Q (.ref q) (upd H q (.lst (a1J zs lo hi)))):qSl (.ref a) lo hi H Q:=by
 unfold qSl
 simp only[ha]
 exact h
theorem c7V(zs:List V):a1J (ys++zs) none (some (ys.length:Int))=ys:=by
 unfold a1J
 have e:HT.sIx (ys++zs).length (ys++zs).length (some (ys.length:Int))=ys.length:=by rw[HT.a4R,j4];omega
 rw[e,HT.a8i,a4j,c2y,d1w]
theorem c7U(l:List Nat):a1J (S3 ys l) (some ((ys.length:Int)+1)) none=IL l:=by
 unfold a1J
 have e:HT.sIx (S3 ys l).length 0 (some ((ys.length:Int)+1))=min (ys.length+1) (S3 ys l).length:=by
  rw[show((ys.length:Int)+1)=((ys.length+1:Nat):Int) by omega,HT.a4R]
 rw[e,HT.a8i,w6 (by simp)]
 unfold S3
 by_cases hz:l=[]
 ·subst hz
  rw[if_pos rfl,F0,c0D (by omega)]
  rfl
 ·rw[if_neg hz]
  have e2:min (ys.length+1) (ys++V.str ">" :: IL l).length=ys.length+1:=by simp
  rw[e2,List.drop_append,c0D (by omega),show ys.length+1 - ys.length=1 by omega]
  rfl
theorem d2B(hw:∀w∈ws,w≠.str ">")(hf:∀w∈ws,a2W w):inV (.str ">") (S3 ws l) = !l.isEmpty:=by
 have no:∀w,a2W w->w≠.str ">" -> eqV w (.str ">")=false:=fun w h1 h2=>by
  rcases h1 with ⟨s,rfl,_⟩ | ⟨n,rfl,_⟩
  ·simp only[eqV,beq_eq_false_iff_ne]
   exact fun z=>h2 (by rw[z])
  ·rfl
 unfold inV S3
 by_cases hz:l=[]
 ·subst hz
  rw[if_pos rfl,F0]
  show _=false
  rw[a2A]
  intro z
  rw[a5z]at z
  obtain⟨w,h1,h2⟩:=z
  rw[no w (hf w h1) (hw w h1)]at h2
  cases h2
 ·rw[if_neg hz]
  have:l.isEmpty=false:=by cases l with
   | nil=>exact absurd rfl hz
   | cons a b=>rfl
  rw[this,List.any_append,O7]
  have e:eqV (.str ">") (.str ">")=true:=by decide +kernel
  rw[e]
  simp
theorem c1P(h:RWs H xs ws)(h2:l.length<=2)(hl:∀t∈l,t<400):59∉(a5U ws l).cps.toList:=by
 obtain⟨w1,_,_⟩:=a3E h h2 hl
 intro z
 refine b6F (P:=fun c=>c≠59) (y := " ") (by decide +kernel) ((S3 ws l).map wT) (fun s hs c hc=>?_) 59 z rfl
 obtain⟨w,hw,rfl⟩:=y7.mp hs
 intro e
 subst e
 exact(a7Q (w1 w hw)).2.1 hc
theorem b7E(h:RWs H xs ws)(h2:l.length<=2)(hl:∀t∈l,t<400):Txt.split (a5U ws l) " " = (S3 ws l).map wT:=by
 obtain⟨w1,_,w3⟩:=a3E h h2 hl
 refine b1a (s0:=32) (by decide +kernel) (by decide +kernel) (by simpa using w3) fun s hs=>?_
 obtain⟨w,hw,rfl⟩:=y7.mp hs
 exact(a7Q (w1 w hw)).1
theorem a4K(W:a1l H rs Ws)(lr:rs.length=N.length)(hv:a0c N):Txt.split (a3t Ws N) "; " = G7 Ws N:=by
 refine b1a (s0:=59) (by decide +kernel) (by decide +kernel) (fun z=>?_) fun s hs=>?_
 ·have e:(G7 Ws N).length=0:=by rw[z];rfl
  have e3:(G7 Ws N).length=N.length:=by simp[G7]
  have:=hv.pos
  omega
 ·obtain⟨i,hi,rfl⟩:=y7.mp hs
  have hi:=E5.mp hi
  obtain⟨xs,_,hw⟩:=W.at_ i _ (b9 (by omega))
  exact c1P hw (a3s hv hi).1 (a3s hv hi).2
theorem c3h(W:a1l H rs Ws)(lr:rs.length=N.length)(hv:a0c N):(a3t Ws N).length<=1000000:=by
 unfold a3t
 rw[show Txt.join "; " (G7 Ws N)=Str.join "; " (G7 Ws N)from F7 _ _]
 have h0:=S8 "; " (G7 Ws N)
 have h1:=a6v "; " (G7 Ws N) 120 (a6u W lr hv)
 have e2:(("; " : Str)).length=2:=by decide +kernel
 have e3:(G7 Ws N).length=N.length:=by simp[G7]
 have:=hv.le
 rw[e2]at h0
 omega
theorem b7A(hi:σ[i]? = some (some (.str (a5U ws l))))(h:RWs H xs ws)(h2:l.length<=2)(hl:∀t∈l,t<400)(k:∀T H',H T=none->H' T=some (.lst (S3 ws l))->t7 H H'->Q (.ref T) H') :
  T5 (a0b K (tBM K "str" a7r (b5 i) (a8 (tC (.str " ")) (d6)))) (U4) (u8 (a0D K) [] E0 (a8 (b5 0) (d6))) σ H Q:=by
 obtain⟨w1,w2,_⟩:=a3E h h2 hl
 have hlen:=b6A h h2 hl
 refine T7 (Z5 ?_)
 exact_mod_cast b5X ?_
 exact_mod_cast a9P hi ?_
 exists ⟨rfl,?_⟩
 refine⟨_,_,rfl,rfl,by omega,by decide +kernel,fun L hL=>?_⟩
 rw[b7E h h2 hl]
 have eL:upd H L (.lst (((S3 ws l).map wT).map V.str)) L=some (.lst (((S3 ws l).map wT).map V.str)):=c7
 have sL:t7 H (upd H L (.lst (((S3 ws l).map wT).map V.str))):=u0 hL
 generalize upd H L (.lst (((S3 ws l).map wT).map V.str))=H1 at eL sL
 refine⟨L,rfl,⟨_,SqL.of eL⟩,fun T hT=>?_⟩
 refine W8 (xs:=((S3 ws l).map wT).map V.str) (fun i ys H2=>ys=(S3 ws l).take i/\H2 T=some (.lst ys)/\t7 H1 H2) ⟨by simp,c7,u0 hT⟩ ?_ ?_ ?_ ?_
 ·rintro i ys H2 ⟨_,h,_⟩
  exact h
 ·rintro i ys H2 _ ⟨_,_,s2⟩
  exact SqL.of (s2 _ _ eL)
 ·rintro i v ys H2 hx ⟨rfl,hT2,s2⟩ R hR
  rw[G6,c8]at hx
  obtain⟨w,hw,rfl⟩:=z7.mp hx
  ext
  refine b5w (w1 w (mI hw)) fun H4 s4=>?_
  refine hR _ _ (s4 _ _ hT2) (K0 (by rw[E1];omega)) ⟨?_,c7,fun b o eb=>?_⟩
  ·rw[C7,hw];rfl
  ·have:=(s2.trans s4) b o eb
   rw[g7 (c6 eb hT)];exact this
 ·rintro ys H2 ⟨rfl,hT2,s2⟩
  rw[w6 (by simp)]at hT2
  exact k T H2 (sL.free hT) hT2 (sL.trans s2)
end
section
variable {K:Fg}{c:Cn}{x:Addr}{E:XK}
theorem b8f(ck:a4y K c)(W:a1l H rs Ws)(lr:rs.length=N.length)(ak:c2u Ws N)(hv:a0c N)(k:∀x H' rs',PlF c H' x rs' N->rs'.length=N.length->a1l H' rs' Ws->t7 H H'->Q (.ref x) H'):a2q K c [.str (a3t Ws N)] H Q E:=by
 have h400:=hv.le
 have lw:Ws.length=N.length:=W.len.trans lr
 refine⟨rfl,?_⟩
 unfold a8R
 nofun
 exists D9 (by simp) fun R G1 hR eR sR=>?_
 nofun
 exists D9 (by simp) fun X G2 hX eX sX=>?_
 exact_mod_cast a0X ?_
 exact_mod_cast a2n (Z5 ?_)
 specialize b5X ?_
 exists ⟨rfl,?_⟩
 refine⟨_,_,rfl,rfl,c3h W lr hv,by decide +kernel,fun L hL=>?_⟩
 rw[a4K W lr hv]
 have s02:t7 H G2:=sR.trans sX
 have nRX:R≠X:=c6 eR hX
 have eL:upd G2 L (.lst ((G7 Ws N).map V.str)) L=some (.lst ((G7 Ws N).map V.str)):=c7
 have sL:t7 G2 (upd G2 L (.lst ((G7 Ws N).map V.str))):=u0 hL
 have nRL:R≠L:=c6 (sX _ _ eR) hL
 have nXL:X≠L:=c6 eX hL
 generalize upd G2 L (.lst ((G7 Ws N).map V.str))=G3 at eL sL
 refine⟨L,rfl,⟨_,SqL.of eL⟩,a5Y (xs:=(G7 Ws N).map V.str) (fun i σ H2=>∃x3 x4 x5 rs' as',σ=[some (.str (a3t Ws N)),some (.ref R),some (.ref X),x3,x4,x5]/\H2 R=some (.lst ((rs':List Addr).map V.ref))/\H2 X=some (.lst ((as':List Addr).map V.ref))/\rs'.length=i/\as'.length=i/\H2 L=some (.lst ((G7 Ws N).map V.str))/\t7 H H2 /\
  (∀(j:Nat) q,rs'[j]? = some q->∃ys,H2 q=some (.tup ys)/\RWs H2 ys (Ws.getD j []))/\∀(j:Nat) q,as'[j]? = some q->H2 q=some (.lst (IL (N.getD j [])))/\q≠R/\q≠X) ⟨_,_,_,[],[],rfl,sL _ _ (sX _ _ eR),sL _ _ eX,rfl,rfl,eL,s02.trans sL,fun j q h=>by simp at h,fun j q h=>by simp at h⟩ ?_ ?_ ?_⟩
 ·rintro i σ H2 _ ⟨_,_,_,_,_,_,_,_,_,_,h,_⟩
  exact SqL.of h
 ·rintro i v _ H2 hx ⟨x3,x4,x5,rs',as',rfl,r2,a2,lr2,la2,L2',s2,hrs,has⟩
  rw[c8]at hx
  obtain⟨s,hs,rfl⟩:=z7.mp hx
  have hi:i<N.length:=by
   have:=(gI hs)
   simpa[G7]using this
  have es:s=a5U (Ws.getD i []) (N.getD i []):=by
   unfold G7 at hs
   rw[c8,a1H hi]at hs
   cases hs
   rfl
  subst es
  obtain⟨xs0,_,hw⟩:=W.at_ i _ (b9 (by omega))
  obtain⟨v1,v2⟩:=a3s hv hi
  obtain⟨w1,w2,_⟩:=a3E hw v1 v2
  obtain⟨wd,wl5,_,wgt⟩:=hw.words
  generalize hws:Ws.getD i []=ws at *
  generalize hll:N.getD i []=ll at *
  have r2n:=r2
  ext
  exact_mod_cast a0X ?_
  refine(show(T5 _ _ _:TE) _ H2 _ from ?_)
  refine b7A (H:=H2) rfl (hw.ts (t7.ts s2)) v1 v2 fun T H3 hT eT s3=>?_
  exact_mod_cast a0n (P:=fun σ H4=>σ=[some (.str (a3t Ws N)),some (.ref R),some (.ref X),some (.str (a5U ws ll)),some (.ref T),some (.int (ws.length:Int))]/\H4=H3) ?_ ?_
  rotate_left
  ·intro nx hnx
   have hfl:(S3 ws ll).all K8=true:=p9.mpr fun w h=>(w1 w h).flat
   ext
   exists c8F eT rfl hfl ?_
   rw[d2B wgt wd]
   by_cases hz:ll=[]
   ·subst hz
    exists v7 rfl ?_
    exists K5 eT ?_
    have e:S3 ws []=ws:=by simp[S3]
    rw[e]
    exact hnx _ _ ⟨rfl,rfl⟩
   ·have hne:ll.isEmpty=false:=by cases ll with
     | nil=>exact absurd rfl hz
     | cons a b=>rfl
    refine A8 (by rw[hne];rfl) ?_
    specialize a6E ?_
    exists ⟨.inl ⟨rfl,_,SqL.of eT⟩,?_⟩
    refine⟨T,">",_,ws.length,rfl,rfl,eT,hfl,by omega,?_,fun j y hj hy=>?_,?_⟩
    ·unfold S3
     rw[if_neg hz]
     simp
    ·unfold S3 at hy
     rw[F8 hj]at hy
     have hm:=mI hy
     rcases wd y hm with ⟨s,rfl,_⟩ | ⟨n,rfl,_⟩
     ·simp only[eqV,beq_eq_false_iff_ne]
      exact fun z=>wgt _ hm (by rw[z])
     ·rfl
    ·ext
     exact hnx _ _ ⟨rfl,rfl⟩
  rintro _ _ ⟨rfl,rfl⟩
  nofun
  specialize a6E ?_
  exists ⟨.inl ⟨rfl,_,SqL.of (s3 _ _ r2)⟩,?_⟩
  refine b4b eT fun c1 hc1=>?_
  have e1:a1J (S3 ws ll) none (some (ws.length:Int))=ws:=c7V _
  rw[e1]
  have sc1:=u0 (o:=.lst ws) hc1
  ext
  refine c1p (H:=upd _ c1 (.lst ws)) c7 hw fun q H5 ys eq wq s5=>?_
  have s25:=(s3.trans sc1).trans s5
  ext
  exists a2a (s25 _ _ r2) (K0 (by rw[a9];omega)) ?_
  specialize a6E ?_
  have aX:upd H5 R (.lst (rs'.map V.ref++[.ref q])) X=some (.lst (as'.map V.ref)):=by rw[g7 nRX.symm];exact s25 _ _ a2
  refine⟨.inl ⟨rfl,_,SqL.of aX⟩,?_⟩
  have hTR:T≠R:=(c6 r2 hT).symm
  have hTX:T≠X:=(c6 a2 hT).symm
  have eT6:upd H5 R (.lst (rs'.map V.ref++[.ref q])) T=some (.lst (S3 ws ll)):=by rw[g7 hTR];exact s5 _ _ (sc1 _ _ eT)
  ext
  refine b4b eT6 fun c2 hc2=>?_
  rw[c7U]
  have nc2R:c2≠R:=(c6 (show upd H5 R (.lst (rs'.map V.ref++[.ref q])) R=some _ from c7) hc2).symm
  have nc2X:c2≠X:=(c6 aX hc2).symm
  ext
  refine a2a (show upd (upd H5 R (.lst (rs'.map V.ref++[.ref q]))) c2 (.lst (IL ll)) X=some (.lst (as'.map V.ref)) by rw[g7 nc2X.symm];exact aX) (K0 (by rw[a9];omega)) ?_
  have keep:∀b o,b≠R->b≠X->H2 b=some o->upd (upd (upd H5 R (.lst (rs'.map V.ref++[.ref q]))) c2 (.lst (IL ll))) X (.lst (as'.map V.ref++[.ref c2])) b=some o:=fun b o n1 n2 e=>by
   have e5:=s25 b o e
   have e6:upd H5 R (.lst (rs'.map V.ref++[.ref q])) b=some o:=by rw[g7 n1];exact e5
   rw[g7 n2,g7 (c6 e6 hc2)];exact e6
  have keep5:∀b o,b≠R->b≠X->H5 b=some o->upd (upd (upd H5 R (.lst (rs'.map V.ref++[.ref q]))) c2 (.lst (IL ll))) X (.lst (as'.map V.ref++[.ref c2])) b=some o:=fun b o n1 n2 e5=>by
   have e6:upd H5 R (.lst (rs'.map V.ref++[.ref q])) b=some o:=by rw[g7 n1];exact e5
   rw[g7 n2,g7 (c6 e6 hc2)];exact e6
  have tsame:a0o H2 (upd (upd (upd H5 R (.lst (rs'.map V.ref++[.ref q]))) c2 (.lst (IL ll))) X (.lst (as'.map V.ref++[.ref c2]))):=fun b zs e=>keep b _ (R1 e r2 (by intro z;cases z)) (R1 e a2 (by intro z;cases z)) e
  have tsame5:a0o H5 (upd (upd (upd H5 R (.lst (rs'.map V.ref++[.ref q]))) c2 (.lst (IL ll))) X (.lst (as'.map V.ref++[.ref c2]))):=fun b zs e=>keep5 b _ (R1 e (s25 _ _ r2) (by intro z;cases z)) (R1 e (s25 _ _ a2) (by intro z;cases z)) e
  refine⟨_,_,_,rs'++[q],as'++[c2],rfl,?_,?_,by simp[lr2],by simp[la2],keep L _ nRL.symm nXL.symm L2',fun b o e=>?_,fun j z hz=>?_,fun j z hz=>?_⟩
  ·rw[g7 nRX,g7 nc2R.symm,c7];simp
  ·rw[c7];simp
  ·refine keep b o ?_ ?_ (s2 b o e)
   ·exact c6 e hR
   ·exact c6 (sR _ _ e) hX
  ·by_cases hj:j<rs'.length
   ·rw[F8 hj]at hz
    obtain⟨ys',f1,f2⟩:=hrs j z hz
    exact⟨ys',tsame _ _ f1,f2.ts tsame⟩
   ·rw[Q5 (by omega)]at hz
    have hj0:j - rs'.length=0:=by
     have:=(gI hz)
     simp at this;omega
    rw[hj0]at hz
    cases hz
    have:j=i:=by omega
    subst this
    rw[hws]
    exact⟨ys,tsame5 _ _ eq,wq.ts tsame5⟩
  ·by_cases hj:j<as'.length
   ·rw[F8 hj]at hz
    obtain⟨f1,f2,f3⟩:=has j z hz
    exact⟨keep z _ f2 f3 f1,f2,f3⟩
   ·rw[Q5 (by omega)]at hz
    have hj0:j - as'.length=0:=by
     have:=(gI hz)
     simp at this;omega
    rw[hj0]at hz
    cases hz
    have:j=i:=by omega
    subst this
    rw[hll]
    exact⟨by rw[g7 nc2X,c7],nc2R,nc2X⟩
 ·rintro _ H2 ⟨x3,x4,x5,rs',as',rfl,r2,a2,lr2,la2,L2',s2,hrs,has⟩
  rw[a9,show(G7 Ws N).length=N.length by simp[G7]]at lr2 la2
  have hR2:R4 H2 R N:=⟨rs',r2,lr2,fun i q l e1 e2=>by
   have hi:i<N.length:=(gI e2)
   rw[a6x hi]at e2
   cases e2
   obtain⟨ys,f1,f2⟩:=hrs i q e1
   obtain⟨k1,r1,r1',f3,f4⟩:=b5Y f2
   obtain⟨k2,r2',f5,f6⟩:=ak i hi
   rw[f4]at f5
   cases f5
   exact⟨q,ys,rfl,f1,c6u f2,k1,r1,f3,f6⟩⟩
  have hN2:F9 H2 X N:=⟨as',a2,la2,fun i q l e1 e2=>by
   have hi:i<N.length:=(gI e2)
   rw[a6x hi]at e2
   cases e2
   exact(has i q e1).1⟩
  have W2:a1l H2 rs' Ws:=⟨by omega,hrs⟩
  unfold b5A b0X
  ext
  intro y dy hy hdy hne
  have sm:t7 H2 (upd (upd H2 dy (.own y)) y (.ins c.S9 dy [])):=fun b o e=>by
   rw[g7 (c6 e hy),g7 (c6 e hdy)];exact e
  refine .inl (a4W ck (sm _ _ r2) (hR2.same sm) (hN2.same sm) hv c7 fun H' pz old=>⟨rfl,?_⟩)
  have s2':t7 H2 H':=fun b o e=>old b o (sm b o e) (c6 e hy)
  obtain⟨dx,r,n,e,es,ns,p1,⟨_,p2⟩,p3,p4,p5,_⟩:=pz.ex
  exact k y H' rs' ⟨dx,r,n,e,p1,p2,⟨ns,p3,p4,p5⟩⟩ lr2 (W2.ts (t7.ts s2')) (s2.trans s2')
end
section
variable {K:Fg}{c:Cn}{q x:Addr}{rs':List Addr}{E:XK}
theorem b9N(ck:a4y K c)(W:a1l H rs Ws)(lr:rs.length=N.length)(ak:c2u Ws N)(hv:a0c N)(k:∀x H' rs',PlF c H' x rs' N->rs'.length=N.length->a1l H' rs' Ws->t7 H H'->Q (.ref x) H'):a7X K c [.str (a3t Ws N)] H Q E:=by
 refine⟨rfl,?_⟩
 unfold c3k
 nofun
 exists Z7 (s := "str") rfl (by decide) ?_
 exists v7 (by decide) ?_
 nofun
 exists b8f ck W lr ak hv fun x H1 rs1 p1 l1 W1 s1=>?_
 nofun
 exists (show qIs (.ref x) .non H1 _ from⟨rfl,?_⟩)
 exists v7 rfl ?_
 exists a8b ck p1 l1 W1 hv fun H2 s2=>?_
 exists v7 (by simp) ?_
 exact k x H2 rs1 (p1.same s2) l1 (W1.ts (t7.ts s2)) (s1.trans s2)
theorem a6z(n:Nat)(h1:H p=some (.tup xs))(h2:H q=some (.tup xs))(hf:xs.all K8=true):Dq K H (n+1) (.ref p) (.ref q):=
 .tup (SqT.of h1) (SqT.of h2) rfl fun j x y e1 e2=>by
  rw[e1]at e2
  cases e2
  exact .flat (p9.mp hf _ (mI e1))
theorem b8E{kd:Str}{v1 v2:V}(c:OpN v1)(d:OpN v2):[V.str kd,v1,v2].all K8=true:=by
 simp only[a0L,a3R,d2U,c.flat,d.flat]
 rfl
theorem c9s(h1:RWs H xs ws)(h2:RWs H ys ws)(a1:H p=some (.tup xs))(a2:H q=some (.tup ys)):Dq K H 2 (.ref p) (.ref q):=by
 cases h1 with
 | set n p1 kd v1 v2 a b c d e=>
  cases h2 with
  | set n p2 kd v1 v2 a' b' c' d' e'=>
   refine .tup (SqT.of a1) (SqT.of a2) rfl fun j x y f1 f2=>?_
   match j with
   | 0=>cases f1;cases f2;exact .flat rfl
   | 1=>cases f1;cases f2;exact .flat rfl
   | 2=>cases f1;cases f2;exact a6z 0 b b' (b8E c d)
   | j+3=>cases f1
 | copy n v a b=>
  cases h2 with
  | copy n v a' b'=>exact a6z 1 a1 a2 (by simp only[a0L,a3R,b.flat];rfl)
 | take n a=>
  cases h2 with
  | take n a'=>exact a6z 1 a1 a2 rfl
 | tell v b=>
  cases h2 with
  | tell v b'=>exact a6z 1 a1 a2 (by simp only[a0L,a3R,b.flat];rfl)
 | ask v b=>
  cases h2 with
  | ask v b'=>exact a6z 1 a1 a2 (by simp only[a0L,a3R,b.flat];rfl)
 | skip=>
  cases h2 with
  | skip=>exact a6z 1 a1 a2 rfl
theorem c3P(W:a1l H rs Ws)(W':a1l H rs' Ws)(a1:H p=some (.lst (rs.map V.ref)))(a2:H q=some (.lst (rs'.map V.ref))):Dq K H 3 (.ref p) (.ref q):=by
 refine .lst (SqL.of a1) (SqL.of a2) (by rw[a9,a9,<-W.len,W'.len]) fun j x y f1 f2=>?_
 rw[c8]at f1 f2
 obtain⟨u,hu,rfl⟩:=z7.mp f1
 obtain⟨v,hv,rfl⟩:=z7.mp f2
 obtain⟨xs,g1,g2⟩:=W.at_ j u hu
 obtain⟨ys,g3,g4⟩:=W'.at_ j v hv
 exact c9s g2 g4 g1 g3
theorem d3q(h1:F9 H p N)(h2:F9 H q N):Dq K H 2 (.ref p) (.ref q):=by
 obtain⟨as,a1,a2,a3⟩:=h1.ex
 obtain⟨bs,b1,b2,b3⟩:=h2.ex
 refine .lst (SqL.of a1) (SqL.of b1) (by rw[a9,a9,a2,b2]) fun i u v f1 f2=>?_
 rw[c8]at f1 f2
 obtain⟨y,hy,rfl⟩:=z7.mp f1
 obtain⟨z,hz,rfl⟩:=z7.mp f2
 have hi:=(gI hy)
 have e:N[i]? = some N[i]:=b9 (by omega)
 refine .lst (SqL.of (a3 i y _ hy e)) (SqL.of (b3 i z _ hz e)) rfl fun j x x' g1 g2=>?_
 rw[g1]at g2
 cases g2
 exact .flat (p9.mp (c0A _) _ (mI g1))
end
section
variable {K:Fg}{e:Xn}{n:Int}{E:XK}{D:b0d}
theorem b1n(ck:b4T K e)(hj:j<4)(ha:∀R:VK,R (.int n) H->ta σ H R)(k:Rz e j n H E):a3W (e.at j) (P4 K (d0Y j)) (fun _=>E) (a8 ta d6) D σ H:=by
 unfold a3W
 exact_mod_cast a9a ?_
 refine ha _ ?_
 exact_mod_cast b3c ?_
 refine⟨K0 (by simp) |> b2n,fun a ha=>⟨a,.int n,e.at j,rfl,c7,ck.xc j (by omega),ck.na j (by omega),fun d d1 d2=>⟨rfl,some d,c7,k d _ ?_ fun b o q=>?_⟩⟩⟩
 ·rw[a4Z d2,g7 d2,c7]
 ·have hb:b≠a:=c6 q ha
  rw[g7 d2]at d1
  rw[a4Z hb,g7 hb,g7 (c6 q d1),g7 hb]
  exact q
theorem c8P{bs:List Bool}{k:Nat}(ck:b4T K e)(ha:H a=some (.lst (bs.map V.bl)))(hk:bs[k]? = some false)(hb:∀i,i<k->bs[i]? = some true)(r:∀H',t7 H H'->Rz e 1 (k:Int) H' E):a3A K e [.ref a] H Q E:=by
 refine⟨rfl,?_⟩
 unfold a6Q
 specialize a2n (a8f ?_)
 refine⟨a,rfl,⟨_,SqL.of ha⟩,?_⟩
 refine c0g (k+1) (fun i σ H2=>i<=k/\∃x1 x2,σ=[some (.ref a),x1,x2]/\t7 H H2) ⟨K6 _,_,_,rfl,t7.refl _⟩ ?_ ?_ ?_
 ·rintro _ H2 ⟨h,_⟩
  omega
 ·rintro i _ H2 hi ⟨h,x1,x2,rfl,s2⟩
  have hlt:i<bs.length:=b0e h (gI hk)
  exact⟨_,V.bl bs[i],SqL.of (s2 _ _ ha),by rw[c8,b9 hlt];rfl⟩
 ·rintro i _ H2 hi ⟨h,x1,x2,rfl,s2⟩ x H3 ⟨p,y,hp,rfl,rfl,hy⟩
  have hy:=hy _ (SqL.of (s2 _ _ ha))
  rw[c8]at hy
  refine a8g (SqT.of c7) ?_
  by_cases hik:i=k
  ·subst hik
   rw[hk]at hy
   cases hy
   ext
   refine A8 rfl ?_
   exact b1n (j:=1) ck (by decide) (fun R h=>⟨_,rfl,h⟩) (r _ (s2.trans (u0 hp)))
  ·rw[hb i (by omega)]at hy
   cases hy
   ext
   exists v7 rfl ?_
   exact⟨by omega,_,_,rfl,s2.trans (u0 hp)⟩
theorem b4t{m:Int}(ck:b4T K e)(ha:H a=some (.lst xs))(hl:¬(xs.length:Int)<m)(h4:400<xs.length)(k:Rz e 3 400 H E):a0Q K e [.ref a,.int n,.int m] H Q E:=by
 refine⟨rfl,?_⟩
 unfold a5l
 nofun
 exists Z7 (s := "list") (by simp only[J9,ha]) (by decide) ?_
 exists v7 (by decide) ?_
 exists K5 ha ?_
 exists v7 (d4L hl) ?_
 exists K5 ha ?_
 refine A8 (d4M (by omega)) ?_
 exact b1n (j:=3) ck (by decide) (fun R h=>h) k
end
section
variable {K:Fg}{c:Cn}{s:String}{E:XK}
def Ty(H:Hp)(v:V):Prop:=(∃s,J9 v H=some s)/\∀z,v=.str z->z.length<=100000
def wB:V->Bool
 | .int _=>true
 | _=>false
def nmB:V->Bool
 | .str z=>a1F z
 | _=>false
def blB(m:Int):V->Bool
 | .int n=>decide (0<=n)&&decide (n<m)
 | _=>false
def opB(v:V):Bool:=nmB v||blB 1000000000000 v
theorem c3R(h:J9 (.ref a) H=some s):s = "list" \/ s = "tuple" \/ s = "dict" := by
 unfold J9 at h
 dsimp only at h
 split at h <;> first | (cases h;simp) | cases h
theorem b7x(hv:J9 v H=some s):(a4c s "int" && !a4c s "bool")=wB v:=by
 cases v with
 | ref a=>rcases c3R hv with rfl | rfl | rfl <;> (show _=false;decide)
 | _=>first | (cases hv;rfl) | cases hv
theorem c3q(hv:J9 v H=some s)(hn:∀z,v≠.str z):a4c s "str" = false:=by
 cases v with
 | ref a=>rcases c3R hv with rfl | rfl | rfl <;> decide
 | str z=>exact absurd rfl (hn z)
 | _=>first | (cases hv;rfl) | cases hv
theorem b8H(hv:J9 v H=some s)(k:Q (.bl (wB v)) H):a0F K [v] H Q E:=by
 refine⟨rfl,?_⟩
 unfold b0V
 rw[<-b7x hv]at k
 ext
 exists Z7 hv (by decide) ?_
 refine Y8 (fun e=>?_) (fun e=>?_)
 ·ext
  exists Z7 hv (by decide) ?_
  rw[e]at k
  exact k
 ·rw[a2A.mpr e]at k
  exact k
theorem c0u{tm:TE}{m:Int}(hv:J9 v H=some s)(σ:St)(hs:σ[0]? = some (some v))(hm:∀R:VK,R (.int m) H->tm σ H R)(k:Q (.bl (blB m v)) H):a1g (u8 (a0F K) [] E0 (a8 (b5 0) d6)) (a3Y qLe qLt (tC (.int 0)) (b5 0) tm) σ H Q:=by
 exact_mod_cast c3K (c3J (a9a (a9P hs (b3c ?_))))
 refine b8H hv ⟨_,rfl,?_⟩
 cases v with
 | int n=>
  refine A8 rfl ?_
  specialize b9H (s_c (a9P hs ?_))
  by_cases h0:0<=n
  ·refine A8 (d4M h0) ?_
   exists hm _ ?_
   have:blB m (.int n)=decide (n<m):=by show(decide (0<=n)&&decide (n<m))=_;rw[d4M h0,Z9]
   rw[this]at k
   exact k
  ·refine v7 (d4L h0) ?_
   have:blB m (.int n)=false:=by show(decide (0<=n)&&decide (n<m))=_;rw[d4L h0,d1A]
   rw[this]at k
   exact k
 | _=>exact v7 rfl k
theorem b8I(hv:J9 v H=some s)(k:Q (.bl (blB 1000000000000 v)) H):a2E K [v] H Q E:=by
 refine⟨rfl,?_⟩
 unfold a7d
 exact_mod_cast b9F ?_
 exact c0u hv _ rfl (fun R h=>h) k
theorem b8N{m:Int}(hv:J9 v H=some s)(k:Q (.bl (blB m v)) H):a2F K [v,.int m] H Q E:=by
 refine⟨rfl,?_⟩
 unfold a7e
 exact_mod_cast b9F ?_
 exact c0u hv _ rfl (fun R h=>⟨_,rfl,h⟩) k
theorem b8K(hv:J9 v H=some s)(hn:∀z,v≠.str z)(k:Q (.bl false) H):T6 K [v] H Q E:=by
 refine⟨rfl,?_⟩
 unfold a4o
 nofun
 exists Z7 hv (by decide) ?_
 refine A8 (by rw[c3q hv hn];rfl) ?_
 exists A8 rfl ?_
 exact k
theorem b6I(hz:z.length<=100000)(k:∀H',t7 H H'->Q (.bl (a1F z)) H'):T6 K [.str z] H Q E:=by
 by_cases h4:z.length<=400
 ·exact a9T h4 k
 have h8:¬z.length<=8:=by omega
 have e:a1F z=false:=by unfold a1F;rw[d4L h8];simp
 rw[e]at k
 refine⟨rfl,?_⟩
 unfold a4o
 nofun
 exists Z7 (s := "str") rfl (by decide) ?_
 exists v7 (by decide) ?_
 exists a4T (small hz) ?_
 exists A8 (d4M (by omega)) ?_
 rw[d4L (show ¬((z.length:Int)<=8) by omega)]
 exists A8 rfl ?_
 exact k H (t7.refl _)
theorem a6w(h:Ty H v)(k:∀H',t7 H H'->Q (.bl (nmB v)) H'):T6 K [v] H Q E:=by
 obtain⟨⟨s,hv⟩,hl⟩:=h
 cases v with
 | str z=>exact b6I (hl z rfl) k
 | _=>exact b8K hv (fun z q=>by cases q) (k H (t7.refl _))
theorem Ty.same(h:Ty H v)(t:t7 H H'):Ty H' v:=by
 obtain⟨⟨s,hv⟩,hl⟩:=h
 refine⟨?_,hl⟩
 cases v with
 | ref a=>
  unfold J9 at hv ⊢
  dsimp only at hv ⊢
  cases e:H a with
  | none=>rw[e]at hv;cases hv
  | some o=>rw[t a o e];rw[e]at hv;exact⟨s,hv⟩
 | _=>exact⟨s,hv⟩
theorem a3e(h:Ty H v)(k:∀H',t7 H H'->Q (.bl (opB v)) H'):V3 K [v] H Q E:=by
 refine⟨rfl,?_⟩
 unfold a4I
 ext
 refine a6w h fun H1 s1=>⟨_,rfl,?_⟩
 unfold opB at k
 cases e:nmB v with
 | true=>
  rw[e]at k
  exact A8 rfl (k H1 s1)
 | false=>
  rw[e,b7p]at k
  exists v7 rfl ?_
  obtain⟨⟨s,hv⟩,_⟩:=h.same s1
  exact b8I hv (k H1 s1)
theorem b8L(hv:J9 v H=some s)(hs:a4c s "tuple" = false)(k:Q (.bl false) H):a0G K c [v] H Q E:=by
 refine⟨rfl,?_⟩
 unfold a4p
 nofun
 exists Z7 hv (by decide) ?_
 refine A8 (by rw[hs];rfl) ?_
 exists A8 rfl ?_
 exact k
def kdB(k:Str):Bool:=inV (.str k) [.str "plus",.str "minus",.str "times",.str "less",.str "same"]
theorem c1T{kd:Str}{a b:V}(ck:a4y K c)(hp:H p=some (.tup [.str kd,a,b]))(ha:Ty H a)(hb:Ty H b)(k:∀H',t7 H H'->Q (.bl (kdB kd&&(opB a&&opB b))) H'):a0G K c [.ref p] H Q E:=by
 refine⟨rfl,?_⟩
 unfold a4p
 nofun
 exists Z7 (s := "tuple") (by simp only[J9,hp]) (by decide) ?_
 exists v7 (by decide) ?_
 exists a0v hp ?_
 exists v7 (by simp) ?_
 exists Z6 hp (a3g _ _) ?_
 refine⟨_,_,rfl,ck.a5h H,rfl,rfl,?_⟩
 refine⟨_,rfl,?_⟩
 rw[show inV (V.str kd) _=kdB kd from rfl]
 cases e:kdB kd with
 | false=>
  refine v7 rfl ?_
  rw[e]at k
  exact k H (t7.refl _)
 | true=>
  refine A8 rfl ?_
  rw[e,Z9]at k
  ext
  exists Z6 hp (a8B _ _ _) ?_
  refine a3e ha fun G1 s1=>⟨_,rfl,?_⟩
  cases e2:opB a with
  | false=>
   rw[e2]at k
   exact v7 rfl (k G1 s1)
  | true=>
   rw[e2,Z9]at k
   exists A8 rfl ?_
   exists Z6 (s1 _ _ hp) (c8c _ _ _ _) ?_
   exact a3e (hb.same s1) fun G2 s2=>k G2 (s1.trans s2)
theorem b8J(hp:H p=some (.tup []))(k:Q (.bl false) H):a0r K c [.ref p] H Q E:=by
 refine⟨rfl,?_⟩
 unfold a5J
 nofun
 exists Z7 (s := "tuple") (by simp only[J9,hp]) (by decide) ?_
 exists v7 (by decide) ?_
 exists a0v hp ?_
 exists A8 (by decide) ?_
 exact k
def a2R(k:Str)(r:List V)(db:Bool):Bool:=
 if k = "set" then (match r with | [a,_]=>nmB a&&db | _=>false)
 else if k = "copy" then (match r with | [a,b]=>nmB a&&opB b | _=>false)
 else if k = "take" then (match r with | [a]=>nmB a | _=>false)
 else if inV (.str k) [.str "tell",.str "ask"]=true then (match r with | [a]=>opB a | _=>false)
 else decide (k = "skip")&&decide (r.length=0)
theorem b9Z(h:r.length=1):∃a,r=[a]:=match r,h with
 | [a],_=>⟨a,rfl⟩
theorem b9Y(h:r.length=2):∃a b,r=[a,b]:=match r,h with
 | [a,b],_=>⟨a,b,rfl⟩
theorem c0l{a b:Str}:decide (V.str a=V.str b)=decide (a=b):=by
 by_cases h:a=b
 ·rw[h,d4M rfl,d4M rfl]
 ·rw[d4L h,d4L fun z=>h (V.str.inj z)]
theorem b6M{a b:Nat}:decide (V.int (a:Int)=V.int (b:Int))=decide (a=b):=by
 rw[b3q]
 by_cases h:a=b
 ·rw[h,d4M rfl,d4M rfl]
 ·rw[d4L h,d4L (by omega)]
theorem b1P{kd:Str}{db:Bool}(hp:H p=some (.tup (.str kd::r)))(hr:∀a∈r,Ty H a)(hd:∀a d,r=[a,d]->kd = "set" -> nmB a=true->∀H' Q E,t7 H H'->(∀H'',t7 H' H''->Q (.bl db) H'')->a0G K c [d] H' Q E)
  (k:∀H',t7 H H'->Q (.bl (a2R kd r db)) H'):a0r K c [.ref p] H Q E:=by
 refine⟨rfl,?_⟩
 unfold a5J
 nofun
 exists Z7 (s := "tuple") (by simp only[J9,hp]) (by decide) ?_
 exists v7 (by decide) ?_
 exists a0v hp ?_
 exists v7 (d4L (by intro z;have:=V.int.inj z;rw[j9]at this;omega)) ?_
 nofun
 exists Z6 hp (a3g _ _) ?_
 nofun
 refine c3U hp (b1E _ _) fun q G hq e s=>?_
 rw[d1a]at e
 have hr:∀a∈r,Ty G a:=fun a ha=>(hr a ha).same s
 ext
 nofun
 rw[c0l]
 by_cases k1:kd = "set"
 ·exists A8 (d4M k1) ?_
  exists a0v e ?_
  rw[show(V.int 2)=V.int ((2:Nat):Int)from rfl,b6M]
  by_cases hl:r.length=2
  ·refine A8 (d4M hl) ?_
   obtain⟨a,d,rfl⟩:=b9Y hl
   have ef:a2R kd [a,d] db=(nmB a&&db):=by unfold a2R;rw[if_pos k1]
   rw[ef]at k
   ext
   exists Z6 e (a3g _ _) ?_
   refine a6w (hr a (by simp)) fun G1 s1=>⟨_,rfl,?_⟩
   cases en:nmB a with
   | false=>rw[en]at k;exact v7 rfl (k _ (s.trans s1))
   | true=>
    rw[en,Z9]at k
    exists A8 rfl ?_
    exists Z6 (s1 _ _ e) (a8B _ _ _) ?_
    exact hd a d rfl k1 en _ _ _ (s.trans s1) fun G2 s2=>k _ ((s.trans s1).trans s2)
  ·refine v7 (d4L hl) ?_
   have ef:a2R kd r db=false:=by
    unfold a2R;rw[if_pos k1]
    split
    ·exact absurd rfl hl
    ·rfl
   rw[ef]at k
   exact k _ s
 exists v7 (d4L k1) ?_
 nofun
 rw[c0l]
 by_cases k2:kd = "copy"
 ·exists A8 (d4M k2) ?_
  exists a0v e ?_
  rw[show(V.int 2)=V.int ((2:Nat):Int)from rfl,b6M]
  by_cases hl:r.length=2
  ·refine A8 (d4M hl) ?_
   obtain⟨a,d,rfl⟩:=b9Y hl
   have ef:a2R kd [a,d] db=(nmB a&&opB d):=by unfold a2R;rw[if_neg k1,if_pos k2]
   rw[ef]at k
   ext
   exists Z6 e (a3g _ _) ?_
   refine a6w (hr a (by simp)) fun G1 s1=>⟨_,rfl,?_⟩
   cases en:nmB a with
   | false=>rw[en]at k;exact v7 rfl (k _ (s.trans s1))
   | true=>
    rw[en,Z9]at k
    exists A8 rfl ?_
    exists Z6 (s1 _ _ e) (a8B _ _ _) ?_
    exact a3e ((hr d (by simp)).same s1) fun G2 s2=>k _ ((s.trans s1).trans s2)
  ·refine v7 (d4L hl) ?_
   have ef:a2R kd r db=false:=by
    unfold a2R;rw[if_neg k1,if_pos k2]
    split
    ·exact absurd rfl hl
    ·rfl
   rw[ef]at k
   exact k _ s
 exists v7 (d4L k2) ?_
 nofun
 rw[c0l]
 by_cases k3:kd = "take"
 ·exists A8 (d4M k3) ?_
  exists a0v e ?_
  rw[show(V.int 1)=V.int ((1:Nat):Int)from rfl,b6M]
  by_cases hl:r.length=1
  ·refine A8 (d4M hl) ?_
   obtain⟨a,rfl⟩:=b9Z hl
   have ef:a2R kd [a] db=nmB a:=by unfold a2R;rw[if_neg k1,if_neg k2,if_pos k3]
   rw[ef]at k
   ext
   exists Z6 e (a3g _ _) ?_
   exact a6w (hr a (by simp)) fun G1 s1=>k _ (s.trans s1)
  ·refine v7 (d4L hl) ?_
   have ef:a2R kd r db=false:=by
    unfold a2R;rw[if_neg k1,if_neg k2,if_pos k3]
    split
    ·exact absurd rfl hl
    ·rfl
   rw[ef]at k
   exact k _ s
 exists v7 (d4L k3) ?_
 nofun
 refine D9 (by simp) fun q2 G2 hq2 e2 s2=>?_
 refine b1r e2 rfl rfl ?_
 have s02:=s.trans s2
 have e:=s2 _ _ e
 have hr:∀a∈r,Ty G2 a:=fun a ha=>(hr a ha).same s2
 ext
 by_cases k4:inV (.str kd) [.str "tell",.str "ask"]=true
 ·exists A8 k4 ?_
  exists a0v e ?_
  rw[show(V.int 1)=V.int ((1:Nat):Int)from rfl,b6M]
  by_cases hl:r.length=1
  ·refine A8 (d4M hl) ?_
   obtain⟨a,rfl⟩:=b9Z hl
   have ef:a2R kd [a] db=opB a:=by unfold a2R;rw[if_neg k1,if_neg k2,if_neg k3,if_pos k4]
   rw[ef]at k
   ext
   exists Z6 e (a3g _ _) ?_
   exact a3e (hr a (by simp)) fun G1 s1=>k _ (s02.trans s1)
  ·refine v7 (d4L hl) ?_
   have ef:a2R kd r db=false:=by
    unfold a2R;rw[if_neg k1,if_neg k2,if_neg k3,if_pos k4]
    split
    ·exact absurd rfl hl
    ·rfl
   rw[ef]at k
   exact k _ s02
 exists v7 (a2A.mpr k4) ?_
 have ef:a2R kd r db=(decide (kd = "skip")&&decide (r.length=0)):=by unfold a2R;rw[if_neg k1,if_neg k2,if_neg k3,if_neg k4]
 rw[ef]at k
 rw[c0l]
 cases e5:decide (kd = "skip")with
 | false=>rw[e5]at k;exact v7 rfl (k _ s02)
 | true=>
  rw[e5,Z9]at k
  exists A8 rfl ?_
  exists a0v e ?_
  rw[show(V.int 0)=V.int ((0:Nat):Int)from rfl,b6M]
  exact k _ s02
end
section
variable {K:Fg}{c:Cn}{e:Xn}{E:XK}
def a0K(K:Fg)(c:Cn)(H:Hp)(v:V)(b:Bool):Prop:=∀(H':Hp) (Q:VK) (E:XK),t7 H H'->(∀H'',t7 H' H''->Q (.bl b) H'')->a0r K c [v] H' Q E
def c8j(K:Fg)(H:Hp)(r v:V)(m:Nat)(b:Bool):Prop:=∀(H':Hp) (Q:VK) (E:XK),t7 H H'->(∀H'',t7 H' H''->Q (.bl b) H'')->a0f K [r,v,.int (m:Int)] H' Q E
theorem a0K.same{b:Bool}(h:a0K K c H v b)(s:t7 H H'):a0K K c H' v b:=fun H2 Q E s2=>h H2 Q E (s.trans s2)
theorem a9d{bs:List Bool}(ha:H ra=some (.lst vs))(hl:bs.length=vs.length)(h400:vs.length<=400)(ht:∀(i:Nat) v b,vs[i]? = some v->bs[i]? = some b->a0K K c H v b)(hi:σ[i]? = some (some (.ref ra)))
  (k:∀a H',t7 H H'->H' a=some (.lst (bs.map V.bl))->Q (.ref a) H'):T5 (a0b K (b5 i)) U4 (u8 (a0r K c) [] E0 (a8 (b5 0) d6)) σ H Q:=by
 exact_mod_cast T7 (Z5 ?_)
 exact_mod_cast a9P hi ?_
 refine⟨ra,rfl,⟨_,SqL.of ha⟩,fun D hD=>?_⟩
 refine W8 (xs:=vs) (fun i ys H2=>ys=(bs.take i).map V.bl/\H2 D=some (.lst ys)/\t7 H H2) ⟨by simp,c7,u0 hD⟩ ?_ ?_ ?_ ?_
 ·rintro i ys H2 ⟨_,h,_⟩
  exact h
 ·rintro i ys H2 _ ⟨_,_,s2⟩
  exact SqL.of (s2 _ _ ha)
 ·rintro i v ys H2 hv ⟨rfl,hD2,s2⟩ R hR
  have hlt:=(gI hv)
  obtain⟨b,hb⟩:∃b,bs[i]? = some b:=⟨_,b9 (by omega)⟩
  ext
  refine ht i v b hv hb H2 _ _ s2 fun H3 s3=>?_
  refine hR _ _ (s3 _ _ hD2) (K0 (by rw[a9,E1];omega)) ⟨?_,c7,fun x o q=>?_⟩
  ·rw[C7,hb];simp
  ·rw[g7 (c6 q hD)];exact s3 _ _ (s2 _ _ q)
 ·rintro ys H2 ⟨rfl,hD2,s2⟩
  rw[w6 (by omega)]at hD2
  exact k D H2 s2 hD2
theorem b9M(n:Nat):(u6 n true).map V.bl=u6 n (V.bl true):=by simp
theorem b6f{x:Addr}{r n:V}(h:∀Q:VK,a0Q K e [r,.int 0,.int 1] H Q E):Y3 K c e [.ref x,r,n] H Q E:=by
 refine⟨rfl,?_⟩
 unfold a1R a1Q
 nofun
 exact .inr (h _)
theorem b8h{x:Addr}{n:V}{bs:List Bool}{k:Nat}(ck:b4T K e)(ha:H ra=some (.lst vs))(hl:bs.length=vs.length)(h1:1<=vs.length)(h400:vs.length<=400)(ht:∀(i:Nat) v b,vs[i]? = some v->bs[i]? = some b->a0K K c H v b)
  (hk:bs[k]? = some false) (hb:∀i,i<k->bs[i]? = some true) (r:∀H',t7 H H'->Rz e 1 (k:Int) H' E):Y3 K c e [.ref x,.ref ra,n] H Q E:=by
 refine⟨rfl,?_⟩
 unfold a1R a1Q
 nofun
 refine .inl (a1s ha h1 h400 ?_)
 exact_mod_cast a0X ?_
 exact_mod_cast b3Y ?_
 exact_mod_cast a9a ?_
 refine a9d ha hl h400 ht rfl fun a H1 s1 e1=>?_
 exact_mod_cast b3c ?_
 exact .inr (c8P ck e1 hk hb fun H2 s2=>r H2 (s1.trans s2))
theorem b6e{x:Addr}{n:V}(ha:H ra=some (.lst vs))(h1:1<=vs.length)(h400:vs.length<=400)(ht:∀v∈vs,a0K K c H v true)
  (h:∀(H':Hp) (Q:VK),t7 H H'->a1o K e [.ref ra,n] H' Q E):Y3 K c e [.ref x,.ref ra,n] H Q E:=by
 refine⟨rfl,?_⟩
 unfold a1R a1Q
 nofun
 refine .inl (a1s ha h1 h400 ?_)
 exact_mod_cast a0X ?_
 exact_mod_cast b3Y ?_
 exact_mod_cast a9a ?_
 refine a9d (bs:=u6 vs.length true) ha (by simp) h400 (fun i v b e1 e2=>?_) rfl fun a H1 s1 e1=>?_
 ·rw[J4]at e2
  split at e2
  ·cases e2;exact ht v (mI e1)
  ·cases e2
 exact_mod_cast b3c ?_
 rw[b9M]at e1
 refine .inl (a2x e1 fun H2 s2=>?_)
 nofun
 exact .inr (h H2 _ (s1.trans s2))
theorem c1o(ck:a4y K c)(hr:R4 H ra N):∃vs,H ra=some (.lst vs)/\vs.length=N.length/\∀v∈vs,a0K K c H v true:=by
 obtain⟨rs,r1,r2,r3⟩:=hr.ex
 refine⟨_,r1,by rw[a9,r2],fun v hv=>?_⟩
 obtain⟨y,hy,rfl⟩:=y7.mp hv
 obtain⟨i,hi⟩:=F4.mp hy
 have hlt:=(gI hi)
 exact fun H' Q E s k=>b3n ck ((r3 i y _ hi (P9 (by omega))).ts (t7.ts s)) k
theorem b8g{x:Addr}(ck:a4y K c)(hr:R4 H ra N)(hn:F9 H na N)(h1:1<=N.length)(h400:N.length<=400)(h2:∀l∈N,l.length<=2)(hlt:∀l∈N,∀t∈l,t<N.length)
  (h:∀(H':Hp) (Q:VK),t7 H H'->a1W K e [.ref na] H' Q E):Y3 K c e [.ref x,.ref ra,.ref na] H Q E:=by
 obtain⟨vs,ha,lv,ht⟩:=c1o ck hr
 refine⟨rfl,?_⟩
 unfold a1R a1Q
 nofun
 refine .inl (a1s ha (by omega) (by omega) ?_)
 exact_mod_cast a0X ?_
 exact_mod_cast b3Y ?_
 exact_mod_cast a9a ?_
 refine a9d (bs:=u6 vs.length true) ha (by simp) (by omega) (fun i v b e1 e2=>?_) rfl fun a H1 s1 e1=>?_
 ·rw[J4]at e2
  split at e2
  ·cases e2;exact ht v (mI e1)
  ·cases e2
 exact_mod_cast b3c ?_
 rw[b9M]at e1
 refine .inl (a2x e1 fun H2 s2=>?_)
 have s02:=s1.trans s2
 nofun
 refine .inl (a6b (hr.same s02) (hn.same s02) h400 h2 hlt fun H3 s3=>?_)
 nofun
 exact .inr (h H3 _ (s02.trans s3))
theorem b6s{rs:List V}{bs:List Bool}{k:Nat}(ck:b4T K e)(hr:H ra=some (.lst rs))(hn:H na=some (.lst vs))(hl:vs.length=rs.length)(hb':bs.length=rs.length)(h400:rs.length<=400)(ht:∀(i:Nat) r v b,rs[i]? = some r->vs[i]? = some v->bs[i]? = some b->c8j K H r v rs.length b)
  (hk:bs[k]? = some false) (hb:∀i,i<k->bs[i]? = some true) (r:∀H',t7 H H'->Rz e 1 (k:Int) H' E):a1o K e [.ref ra,.ref na] H Q E:=by
 refine⟨rfl,?_⟩
 unfold a5M a1Q
 nofun
 exists Z7 (s := "list") (by simp only[J9,hn]) (by decide) ?_
 exists v7 (by decide) ?_
 exists K5 hn ?_
 exists K5 hr ?_
 exists v7 (by rw[hl];simp) ?_
 specialize b0n (b7U ?_)
 refine⟨ra,na,rfl,⟨_,SqL.of hr⟩,⟨_,SqL.of hn⟩,fun D hD=>?_⟩
 refine b4E rs.length (fun i ys H2=>ys=(bs.take i).map V.bl/\H2 D=some (.lst ys)/\t7 H H2) ⟨by simp,c7,u0 hD⟩ ?_ ?_ ?_ ?_
 ·rintro i ys H2 ⟨_,h,_⟩
  exact h
 ·rintro ys H2 ⟨rfl,hD2,s2⟩
  rw[w6 (by omega)]at hD2
  exists ⟨⟨_,_,SqL.of (s2 _ _ hr),SqL.of (s2 _ _ hn),.inl (d9 _)⟩,?_⟩
  exact .inr (c8P ck hD2 hk hb fun H3 s3=>r H3 (s2.trans s3))
 ·rintro i ys H2 hi ⟨_,_,s2⟩
  exact⟨_,_,_,_,SqL.of (s2 _ _ hr),SqL.of (s2 _ _ hn),b9 hi,b9 (by omega)⟩
 ·rintro i ys H2 hi ⟨rfl,hD2,s2⟩ x H3 ⟨p,y1,y2,hp,rfl,rfl,g1,g2⟩
  have g1:=g1 _ (SqL.of (s2 _ _ hr))
  have g2:=g2 _ (SqL.of (s2 _ _ hn))
  obtain⟨b,hbi⟩:∃b,bs[i]? = some b:=⟨_,b9 (by omega)⟩
  refine⟨p,_,_,rfl,SqT.of c7,fun R S hR hS=>?_⟩
  have s3:t7 H2 (upd H2 p (.tup [y1,y2])):=u0 hp
  obtain⟨H3,hH3⟩:∃H3,H3=upd H2 p (.tup [y1,y2]):=⟨_,rfl⟩
  rw[<-hH3]at s3 ⊢
  ext
  exists A8 rfl ?_
  have s03:=s2.trans s3
  exists K5 (s03 _ _ hr) ?_
  refine ht i y1 y2 b g1 g2 hbi H3 _ _ s03 fun H4 s4=>?_
  refine hR _ _ (s4 _ _ (s3 _ _ hD2)) (K0 (by rw[a9,E1];omega)) ⟨?_,c7,fun x o q=>?_⟩
  ·rw[C7,hbi];simp
  ·rw[g7 (c6 q hD)];exact s4 _ _ (s03 _ _ q)
theorem b8Q(h:∀(t:Nat) (l':List Nat),M[t]? = some l'->∀p∈l',∃l,N[p]? = some l/\t∈l):∀k l,Gd N k->M[k]? = some l->∀t∈l,Gd N t:=fun k l g hm t ht=>by
 obtain⟨l',h1,h2⟩:=h k l hm t ht
 exact .step h1 h2 g
theorem c3r:∀x∈a7h N,Gd N x:=fun x hx=>by
 obtain⟨h1,h2⟩:=Z1.mp hx
 have hlt:=E5.mp h1
 refine .stop ?_
 unfold a4b at h2
 simp only[M5,P9 hlt,a2N]at h2
 rw[P9 hlt,c8Q.mp h2]
theorem d1G{k:Nat}(ck:b4T K e)(hn:F9 H na N)(h0:0<N.length)(h400:N.length<=400)(h2:∀l∈N,l.length<=2)(hlt:∀l∈N,∀t∈l,t<N.length)(hk:k<N.length)(bad:¬(Rc N k/\Gd N k))(ok:∀i,i<k->Rc N i/\Gd N i)
  (r:∀H',t7 H H'->Rz e 2 (k:Int) H' E):a1W K e [.ref na] H Q E:=by
 refine⟨rfl,?_⟩
 unfold a6P
 nofun
 exists D9 (by simp) fun p1 H1 hp1 e1 s1=>?_
 exists a4S (bs:=[0]) (B:=2) e1 (hn.same s1) h400 (by decide) (fun l hl=>⟨h2 l hl,hlt l hl⟩) (by simpa using h0) (by simp) (Rc N) (fun x hx=>by rw[g8.mp hx];exact .zero) (fun _ _ a b t ht=>.step a b ht) fun d1 S1 H2 hd1 nd1 hS1 hb1 cl1 P1 s2=>?_
 have in1:∀x,Rc N x->x∈S1:=by
  intro x h
  induction h with
  | zero=>exact hb1 0 (by simp)
  | @step a t l _ hl ht ih=>exact cl1 a ih l hl t ht
 nofun
 exists a9N ((hn.same s1).same s2) h400 fun sa H3 _ e3 s3=>?_
 exists b2R (((hn.same s1).same s2).same s3) h400 h2 hlt fun ta M H4 m4 lM hM1 hM2 hM3 s4=>?_
 have lst:(a7h N).length<=N.length:=by
  have:=R8 (a4b N) (l6 N.length)
  rwa [O2]at this
 refine a4S (bs:=a7h N) (B:=2 * N.length) (s4 _ _ e3) m4 (by omega) (by omega) (fun l hl=>⟨(hM2 l hl).1,by rw[lM];exact(hM2 l hl).2⟩) (fun x hx=>by
  rw[lM]
  exact E5.mp (Z1.mp hx).1) (by omega) (Gd N) c3r (b8Q hM3) fun d2 S2 H5 hd2 nd2 hS2 hb2 cl2 P2 s5=>?_
 have in2:∀x,Gd N x->x∈S2:=by
  intro x h
  induction h with
  | @stop a h=>exact hb2 a (b3i h)
  | @step a t l h ht _ ih=>
   obtain⟨l',q1,q2⟩:=hM1 a l h t ht
   exact cl2 t ih l' q1 a q2
 have s05:=(((s1.trans s2).trans s3).trans s4).trans s5
 have hd1':H5 d1=_:=s5 _ _ (s4 _ _ (s3 _ _ hd1))
 obtain⟨ys,hy,ly⟩:=(hn.same s05).len
 ext
 specialize a2n (a1X ?_)
 refine K5 hy ?_
 refine⟨N.length,by rw[ly],by omega,by omega,?_⟩
 rw[E7]
 refine a1G (fun i σ H6=>i<=k/\∃x3,σ=[some (.ref na),some (.ref d1),some (.ref d2),x3]/\H6=H5) ⟨K6 _,_,rfl,rfl⟩ ?_ ?_
 ·rintro i _ H6 hi ⟨hik,x3,rfl,rfl⟩
  ext
  rw[a2K]
  specialize a4t ?_
  obtain⟨o,g1,g2⟩:=a3f hd1' i
  refine⟨d1,o,rfl,g1,?_⟩
  rw[g2]
  ext
  by_cases q:i=k
  ·subst q
   have rz:a3W e.C_NoWay (P4 K "at") (fun _=>E) (a8 (b5 3) d6) { nx:=fun σ H'=>i+1<=i/\∃x3,σ=[some (.ref na),some (.ref d1),some (.ref d2),x3]/\H'=H6,ct:=fun σ H'=>i+1<=i/\∃x3,σ=[some (.ref na),some (.ref d1),some (.ref d2),x3]/\H'=H6,bk:=fun _ H'=>Q .non H',rt:=Q } [some (.ref na),some (.ref d1),some (.ref d2),some (.int (i:Int))] H6:=
    b1n (j:=2) ck (by decide) (fun R h=>⟨_,rfl,h⟩) (r _ s05)
   by_cases i1:i∈S1
   ·exists v7 (by rw[d4M i1];rfl) ?_
    specialize a4t ?_
    obtain⟨o',g1',g2'⟩:=a3f hd2 i
    refine⟨d2,o',rfl,g1',?_⟩
    have i2:i∉S2:=fun z=>bad ⟨P1 i i1,P2 i z⟩
    rw[g2',d4L i2]
    ext
    refine A8 rfl ?_
    exact rz
   ·refine A8 (by rw[d4L i1];rfl) ?_
    refine A8 rfl ?_
    exact rz
  ·obtain⟨o1,o2⟩:=ok i (by omega)
   exists v7 (by rw[d4M (in1 i o1)];rfl) ?_
   specialize a4t ?_
   obtain⟨o',g1',g2'⟩:=a3f hd2 i
   refine⟨d2,o',rfl,g1',?_⟩
   rw[g2',d4M (in2 i o2)]
   ext
   exists v7 rfl ?_
   exact⟨by omega,_,rfl,rfl⟩
 ·rintro _ H6 ⟨h,_⟩
  omega
end
section
variable {K:Fg}{c:Cn}{q:Addr}{E:XK}
def Fl(v:V):Prop:=K8 v=true/\∀z,v=.str z->z.length<=400
inductive c8i(a:Addr)(H:Hp):Addr->Prop
 | lst {q:Addr} {xs:List V}:H q=some (.lst xs)->xs.length<=3->q≠a->c8i a H q
 | len {q:Addr} {xs:List V}:H q=some (.tup xs)->xs.length≠3->c8i a H q
 | bad {q:Addr} {k:Str} {x y:V}:H q=some (.tup [.str k,x,y])->Fl x->Fl y->(kdB k&&(opB x&&opB y))=false->c8i a H q
inductive a9F(a:Addr)(H:Hp):V->Prop
 | flat {v:V}:Fl v->a9F a H v
 | lst {p:Addr} {xs:List V}:H p=some (.lst xs)->xs.length<=3->p≠a->a9F a H (.ref p)
 | nil {p:Addr}:H p=some (.tup [])->a9F a H (.ref p)
 | row {p:Addr} {k:Str} {r:List V}:H p=some (.tup (.str k::r))->(∀x∈r,Fl x)->a2R k r false=false->a9F a H (.ref p)
 | set {p q:Addr} {n:Str}:H p=some (.tup [.str "set",.str n,.ref q])->n.length<=400->c8i a H q->a9F a H (.ref p)
 | nam {p q:Addr} {x:V} {xs:List V}:H p=some (.tup [.str "set",x,.ref q])->Fl x->nmB x=false->H q=some (.tup xs)->a9F a H (.ref p)
def c3b(ask:Bool):List V:=if ask then [.int 2] else [.int 0,.int 1]
def nxB(ask:Bool)(m:Nat)(xs:List V):Bool:=inV (.int (xs.length:Int)) (c3b ask)&&xs.all (blB (m:Int))
theorem d2L{r:V}{ask:Bool}{x:Addr}(hv:a5u H r ask)(hx:H x=some (.lst xs))(hl:xs.length<100000)(hf:∀y∈xs,Ty H y)(k:∀H',t7 H H'->Q (.bl (nxB ask m xs)) H'):a0f K [r,.ref x,.int (m:Int)] H Q E:=by
 obtain⟨p,rs,rfl,hp,_,kd,rr,rfl,hk⟩:=hv
 refine⟨rfl,?_⟩
 unfold a5L
 nofun
 exists Z7 (s := "list") (by simp only[J9,hx]) (by decide) ?_
 exists v7 (by decide) ?_
 exact_mod_cast a0n (P:=fun σ H1=>∃w,σ=[some (.ref p),some (.ref x),some (.int (m:Int)),some (.ref w)]/\H1 w=some (.tup (c3b ask))/\t7 H H1) ?_ ?_
 rotate_left
 ·intro nx hnx
  ext
  exists Z6 hp (a3g _ _) ?_
  by_cases e:kd = "ask"
  ·exists A8 (d4M (by rw[e])) ?_
   refine D9 (by simp) fun w H1 hw e1 s1=>?_
   rw[d4M e]at hk
   subst hk
   exact hnx _ _ ⟨w,rfl,e1,s1⟩
  ·exists v7 (d4L (fun z=>e (V.str.inj z))) ?_
   refine D9 (by simp) fun w H1 hw e1 s1=>?_
   rw[d4L e]at hk
   subst hk
   exact hnx _ _ ⟨w,rfl,e1,s1⟩
 rintro _ H1 ⟨w,rfl,hw,s1⟩
 ext
 exists K5 (s1 _ _ hx) ?_
 refine b1r hw rfl (by cases ask <;> rfl) ?_
 refine⟨_,rfl,?_⟩
 unfold nxB at k
 cases ei:inV (.int (xs.length:Int)) (c3b ask)with
 | false=>
  rw[ei]at k
  exact v7 rfl (k H1 s1)
 | true=>
 rw[ei,Z9]at k
 exists A8 rfl ?_
 specialize T7 (Z5 ?_)
 refine⟨x,rfl,⟨_,SqL.of (s1 _ _ hx)⟩,fun D hD=>?_⟩
 refine W8 (xs:=xs) (fun i ys H2=>ys=((xs.take i).map (blB (m:Int))).map V.bl/\H2 D=some (.lst ys)/\t7 H1 H2) ⟨by simp,c7,u0 hD⟩ ?_ ?_ ?_ ?_
 ·rintro i ys H2 ⟨_,h,_⟩
  exact h
 ·rintro i ys H2 _ ⟨_,_,s2⟩
  exact SqL.of (s2 _ _ (s1 _ _ hx))
 ·rintro i y ys H2 hy ⟨rfl,hD2,s2⟩ R hR
  ext
  obtain⟨⟨s,hs⟩,_⟩:=(hf y (mI hy)).same (s1.trans s2)
  refine b8N hs ?_
  refine hR _ _ hD2 (K0 (by rw[a9,a9,E1];omega)) ⟨?_,c7,fun z o e=>?_⟩
  ·rw[C7,hy];simp
  ·rw[g7 (c6 e hD)];exact s2 _ _ e
 ·rintro ys H2 ⟨rfl,hD2,s2⟩
  ext
  rw[a1t]at hD2
  refine c8H hD2 ?_
  have:(xs.map (blB (m:Int))).all id=xs.all (blB (m:Int)):=by rw[a6D];rfl
  rw[this]
  exact k H2 (s1.trans s2)
inductive c5C(a:Addr)(H:Hp)(ask:Bool)(m:Nat):V->Prop
 | flat {v:V}:Fl v->c5C a H ask m v
 | tup {p:Addr} {xs:List V}:H p=some (.tup xs)->c5C a H ask m (.ref p)
 | lst {p:Addr} {xs:List V}:H p=some (.lst xs)->xs.length<=3->(∀x∈xs,Fl x)->p≠a->nxB ask m xs=false->c5C a H ask m (.ref p)
end
abbrev Wd:=List Nat
variable{w:Wd}{B U:List Wd}
inductive Ks | nm | op | dd
 deriving DecidableEq
inductive Ps where
 | st
 | rw (x:Ks) (ts:List Ks) (a:Bool)
 | gt (a:Bool)
 | no (two:Bool)
 | fin
 deriving DecidableEq
def lt8(c:Nat):Bool:=decide (97<=c)&&decide (c<=122)
def dg8(c:Nat):Bool:=decide (48<=c)&&decide (c<=57)
def al8(c:Nat):Bool:=lt8 c||dg8 c
def sg(s:Str):Wd:=s.cps.toList
def nmW(w:Wd):Bool:=decide (w.length<=8)&&(match w with | []=>false | c::_=>lt8 c)&&w.all al8
def nuW(w:Wd):Bool:=(match w with | []=>false | c::r=>decide (c≠48)||r.isEmpty)&&w.all dg8
def opW(w:Wd):Bool:=nmW w||(nuW w&&decide (w.length<=12))
def ddL:List Wd:=[sg "plus",sg "minus",sg "times",sg "less",sg "same"]
def ksW:Ks->Wd->Bool
 | .nm,w=>nmW w
 | .op,w=>opW w
 | .dd,w=>decide (w∈ddL)
def knL:List (Wd×List Ks×Bool):=[(sg "set",[.nm,.dd,.op,.op],false),(sg "copy",[.nm,.op],false),(sg "take",[.nm],false),(sg "tell",[.op],false),(sg "ask",[.op],true),(sg "skip",[],false)]
def knF(w:Wd):Option (List Ks×Bool):=knL.lookup w
def fl8(t:Wd):Bool:=decide (t.getLast? = some 59)
def sp8(t:Wd):Wd:=if fl8 t=true then t.dropLast else t
def aft(a f:Bool):Option Ps:=if f=true then (if a=true then none else some .st)else some (.gt a)
def stS(t:Wd):Option Ps:=match knF (sp8 t)with
 | none=>none
 | some ([],a)=>aft a (fl8 t)
 | some (x::ts,a)=>if fl8 t=true then none else some (.rw x ts a)
def rwS(x:Ks)(ts:List Ks)(a:Bool)(t:Wd):Option Ps:=if ksW x (sp8 t)=true then (match ts with | []=>aft a (fl8 t) | y::r=>if fl8 t=true then none else some (.rw y r a))else none
def noS(two:Bool)(t:Wd):Option Ps:=if nuW (sp8 t)=true then (if two=true then (if fl8 t=true then none else some (.no false))else (if fl8 t=true then some .st else some .fin))else none
def gtS(a:Bool)(t:Wd):Option Ps:=if t=[62] then some (.no a)else none
def stp:Ps->Wd->Option Ps
 | .st,t=>stS t
 | .rw x ts a,t=>rwS x ts a t
 | .gt a,t=>gtS a t
 | .no b,t=>noS b t
 | .fin,_=>none
def acc:Ps->Bool
 | .gt a => !a
 | .fin=>true
 | _=>false
def go8:Ps->List Wd->Option Ps
 | s,[]=>some s
 | s,t::r=>match stp s t with
  | some s'=>go8 s' r
  | none=>none
def Run(s:Ps)(U:List Wd):Prop:=∃e,go8 s U=some e/\acc e=true
section
variable {s s1 e:Ps}{t u p q:Wd}{A:List Wd}{x y:Ks}{ts us:List Ks}{a b f:Bool}{c:Nat}
theorem b0s:go8 s (A++B)=(go8 s A).bind fun e=>go8 e B:=by
 induction A generalizing s with
 | nil=>rfl
 | cons t r ih=>
  show(match stp s t with | some s'=>go8 s' (r++B) | none=>none)=(match stp s t with | some s'=>go8 s' r | none=>none).bind _
  cases stp s t with
  | none=>rfl
  | some s'=>exact ih
theorem J5(h:Run s (t::B)):∃s1,stp s t=some s1/\Run s1 B:=by
 obtain⟨e,h1,h2⟩:=h
 unfold go8 at h1
 cases hs:stp s t with
 | none=>rw[hs]at h1;cases h1
 | some s1=>rw[hs]at h1;exact⟨s1,rfl,e,h1,h2⟩
theorem b0o(h:Run s (A++B)):∃s1,go8 s A=some s1/\Run s1 B:=by
 obtain⟨e,h1,h2⟩:=h
 rw[b0s]at h1
 cases hs:go8 s A with
 | none=>rw[hs]at h1;cases h1
 | some s1=>rw[hs]at h1;exact⟨s1,rfl,e,h1,h2⟩
theorem a8k(h:Run .fin B):B=[]:=by
 cases B with
 | nil=>rfl
 | cons t r=>obtain⟨s1,h1,_⟩:=J5 h;cases h1
theorem a9b(h:Run (.no b) []):False:=by
 obtain⟨e,h1,h2⟩:=h
 cases h1
 cases h2
theorem c3M(h:Run (.rw x ts a) []):False:=by
 obtain⟨e,h1,h2⟩:=h
 cases h1
 cases h2
theorem c3L(h:Run .st []):False:=by
 obtain⟨e,h1,h2⟩:=h
 cases h1
 cases h2
theorem b0t(w:Wd):fl8 (w++[59])=true:=by unfold fl8;simp
theorem b0i(w:Wd):sp8 (w++[59])=w:=by unfold sp8;rw[if_pos (b0t w)];simp
theorem b1U(h:fl8 t=true):∃w,t=w++[59]:=by
 unfold fl8 at h
 have h:=of_decide_eq_true h
 exact List.getLast?_eq_some_iff.mp h
theorem a7Y(h:fl8 t=false):sp8 t=t:=by unfold sp8;rw[h];rfl
theorem b4r(h:c∈t)(hc:c≠59):c∈sp8 t:=by
 cases e:fl8 t with
 | false=>rw[a7Y e];exact h
 | true=>
  obtain⟨w,rfl⟩:=b1U e
  rw[b0i]
  rcases j8.mp h with z | z
  ·exact z
  ·exact absurd (g8.mp z) hc
def AlW(w:Wd):Prop:=w≠[]/\∀c∈w,al8 c=true
theorem c8J(h:nmW w=true):AlW w:=by
 unfold nmW at h
 rw[l9,l9]at h
 refine⟨fun z=>?_,fun c hc=>p9.mp h.2 c hc⟩
 subst z
 exact absurd h.1.2 (by decide)
theorem a8q(h:nuW w=true):AlW w:=by
 unfold nuW at h
 rw[l9]at h
 refine⟨fun z=>?_,fun c hc=>?_⟩
 ·subst z
  exact absurd h.1 (by decide)
 ·have:=p9.mp h.2 c hc
  unfold al8
  rw[this,c0G]
theorem d2G:∀w∈ddL,AlW w:=by
 have:∀w∈ddL,w≠[]/\w.all al8=true:=by decide +kernel
 exact fun w hw=>⟨(this w hw).1,fun c hc=>p9.mp (this w hw).2 c hc⟩
theorem b6C(h:ksW x w=true):AlW w:=by
 cases x with
 | nm=>exact c8J h
 | op=>
  have h:(nmW w||(nuW w&&decide (w.length<=12)))=true:=h
  rw[L4,l9]at h
  rcases h with z | z
  ·exact c8J z
  ·exact a8q z.1
 | dd=>exact d2G w (of_decide_eq_true h)
abbrev knW:List Wd:=[sg "set",sg "copy",sg "take",sg "tell",sg "ask",sg "skip"]
theorem c4Q{v:List Ks×Bool}(h:knF w=some v):w∈knW:=by
 unfold knF knL at h
 simp only[X0]at h
 by_cases e1:w=sg "set"
 ·rw[e1];simp
 by_cases e2:w=sg "copy"
 ·rw[e2];simp
 by_cases e3:w=sg "take"
 ·rw[e3];simp
 by_cases e4:w=sg "tell"
 ·rw[e4];simp
 by_cases e5:w=sg "ask"
 ·rw[e5];simp
 by_cases e6:w=sg "skip"
 ·rw[e6];simp
 rw[beq_eq_false_iff_ne.mpr e1,beq_eq_false_iff_ne.mpr e2,beq_eq_false_iff_ne.mpr e3,beq_eq_false_iff_ne.mpr e4,beq_eq_false_iff_ne.mpr e5,beq_eq_false_iff_ne.mpr e6]at h
 cases h
theorem d2x:∀w∈knW,AlW w:=by
 have:∀w∈knW,w≠[]/\w.all al8=true:=by decide +kernel
 exact fun w hw=>⟨(this w hw).1,fun c hc=>p9.mp (this w hw).2 c hc⟩
theorem d0I:∀w∈knW,∀v∈knW,w.isPrefixOf v=true->w=v:=by decide +kernel
theorem c4S(h1:w∈knW)(h2:w++q∈knW):q=[]:=by
 have e:=d0I w h1 _ h2 (List.isPrefixOf_iff_prefix.mpr (List.prefix_append w q))
 have:=congrArg P3 e
 rw[j4]at this
 exact P0.mp (by omega)
theorem a9X(h:stp s t=some s1):t=[62]\/AlW (sp8 t):=by
 cases s with
 | st=>
  have h:stS t=some s1:=h
  unfold stS at h
  cases hk:knF (sp8 t)with
  | none=>rw[hk]at h;cases h
  | some v=>exact .inr (d2x _ (c4Q hk))
 | rw x ts a=>
  have h:rwS x ts a t=some s1:=h
  unfold rwS at h
  split at h
  ·rename_i k
   exact .inr (b6C k)
  ·cases h
 | gt a=>
  have h:gtS a t=some s1:=h
  unfold gtS at h
  split at h
  ·rename_i k
   exact .inl k
  ·cases h
 | no two=>
  have h:noS two t=some s1:=h
  unfold noS at h
  split at h
  ·rename_i k
   exact .inr (a8q k)
  ·cases h
 | fin=>cases h
theorem b2h(h:al8 c=true):c≠59/\c≠62/\c≠32:=by
 unfold al8 lt8 dg8 at h
 simp only[L4,l9,decide_eq_true_eq]at h
 omega
theorem a2b(h:stp s t=some s1):t≠[]:=by
 rintro rfl
 rcases a9X h with z | z
 ·cases z
 ·exact z.1 (by decide)
theorem c5z(h:stp s t=some s1):32∉t:=fun hc=>by
 rcases a9X h with z | z
 ·subst z;simp at hc
 ·exact(b2h (z.2 32 (b4r hc (by decide)))).2.2 rfl
theorem b6N:stp s []=none:=by
 cases h:stp s [] with
 | none=>rfl
 | some s1=>exact absurd rfl (a2b h)
theorem a9w(hc:c∈t)(h1:c≠59)(h2:al8 c=false)(h3:t≠[62]):stp s t=none:=by
 cases h:stp s t with
 | none=>rfl
 | some s1=>
  rcases a9X h with z | z
  ·exact absurd z h3
  ·have:=z.2 c (b4r hc h1)
   rw[h2]at this
   cases this
theorem b1X(hq:q≠[]):stp s (p++59::q)=none:=by
 cases h:stp s (p++59::q)with
 | none=>rfl
 | some s1=>
  rcases a9X h with z | z
  ·have:=congrArg P3 z
   rw[j4,j9]at this
   have:=A9.mpr hq
   simp at *
   omega
  ·have hm:59∈sp8 (p++59::q):=by
    cases e:fl8 (p++59::q)with
    | false=>rw[a7Y e];simp
    | true=>
     obtain⟨w,hw⟩:=b1U e
     rw[hw,b0i]
     obtain⟨q',c,rfl⟩:∃q' c,q=q'++[c]:=⟨q.dropLast,q.getLast hq,(b3z hq).symm⟩
     have hw:(p++59::q')++[c]=w++[59]:=by rw[<-hw];simp
     have:=List.append_inj_left' hw rfl
     rw[<-this]
     simp
   exact absurd rfl (b2h (z.2 59 hm)).1
theorem a3C(h:stp s t=none):¬Run s (t::B):=fun r=>by
 obtain⟨s1,h1,_⟩:=J5 r
 rw[h]at h1
 cases h1
theorem a1p{r:List Ks}(h:stp (.rw x (y::r) a) t=some s1):ksW x (sp8 t)=true/\fl8 t=false/\s1=.rw y r a:=by
 have h:rwS x (y::r) a t=some s1:=h
 unfold rwS at h
 split at h
 ·rename_i k1
  dsimp only at h
  split at h
  ·cases h
  ·rename_i k2
   exact⟨k1,by simpa using k2,by cases h;rfl⟩
 ·cases h
theorem a1Z(h:stp (.rw x [] a) t=some s1):ksW x (sp8 t)=true/\aft a (fl8 t)=some s1:=by
 have h:rwS x [] a t=some s1:=h
 unfold rwS at h
 split at h
 ·rename_i k
  exact⟨k,h⟩
 ·cases h
theorem b9K(h:stp (.rw x ts a) t=some s1):ksW x (sp8 t)=true:=by
 cases ts with
 | nil=>exact(a1Z h).1
 | cons y r=>exact(a1p h).1
theorem a0w(h:stp (.gt a) t=some s1):t=[62]/\s1=.no a:=by
 have h:gtS a t=some s1:=h
 unfold gtS at h
 split at h
 ·rename_i k
  exact⟨k,by cases h;rfl⟩
 ·cases h
theorem b9L(h1:Run (.rw x ts a) B)(h2:Run (.gt b) B):False:=by
 cases B with
 | nil=>exact c3M h1
 | cons t r=>
  obtain⟨s1,q1,_⟩:=J5 h1
  obtain⟨s2,q2,_⟩:=J5 h2
  obtain⟨rfl,_⟩:=a0w q2
  exact absurd rfl (b2h ((b6C (b9K q1)).2 62 (by decide))).2.1
theorem a4d(h:aft a false=some s1):s1=.gt a:=by cases h;rfl
theorem c0y(h:aft a true=some s1):a=false/\s1=.st:=by
 cases a with
 | true=>cases h
 | false=>cases h;exact⟨rfl,rfl⟩
theorem b7Z:∀(B:List Wd) {x y:Ks} {ts us:List Ks} {a b:Bool},Run (.rw x ts a) B->Run (.rw y us b) B->ts.length=us.length
 | [],_,_,_,_,_,_,h,_=>(c3M h).elim
 | t::B,x,y,ts,us,a,b,h1,h2=>by
  obtain⟨s1,q1,r1⟩:=J5 h1
  obtain⟨s2,q2,r2⟩:=J5 h2
  cases ts with
  | nil=>
   cases us with
   | nil=>rfl
   | cons y' us=>
    obtain⟨_,f2,rfl⟩:=a1p q2
    have e:=(a1Z q1).2
    rw[f2]at e
    rw[a4d e]at r1
    exact(b9L r2 r1).elim
  | cons x' ts=>
   obtain⟨_,f1,rfl⟩:=a1p q1
   cases us with
   | nil=>
    have e:=(a1Z q2).2
    rw[f1]at e
    rw[a4d e]at r2
    exact(b9L r1 r2).elim
   | cons y' us=>
    obtain⟨_,f2,rfl⟩:=a1p q2
    have:=b7Z B r1 r2
    rw[j9,j9,this]
theorem a1S(h:stp .st t=some s1):sp8 t∈knW/\((∃a,knF (sp8 t)=some ([],a)/\aft a (fl8 t)=some s1)\/∃x ts a,knF (sp8 t)=some (x::ts,a)/\fl8 t=false/\s1=.rw x ts a):=by
 have h:stS t=some s1:=h
 unfold stS at h
 cases hk:knF (sp8 t)with
 | none=>rw[hk]at h;cases h
 | some v=>
  refine⟨c4Q hk,?_⟩
  obtain⟨ts,a⟩:=v
  rw[hk]at h
  cases ts with
  | nil=>exact .inl ⟨a,rfl,h⟩
  | cons x ts=>
   dsimp only at h
   split at h
   ·cases h
   ·rename_i k
    exact .inr ⟨x,ts,a,rfl,by simpa using k,by cases h;rfl⟩
theorem a1j(h:stp (.no true) t=some s1):nuW (sp8 t)=true/\fl8 t=false/\s1=.no false:=by
 have h:noS true t=some s1:=h
 unfold noS at h
 split at h
 ·rename_i k1
  rw[if_pos rfl]at h
  split at h
  ·cases h
  ·rename_i k2
   exact⟨k1,by simpa using k2,by cases h;rfl⟩
 ·cases h
theorem a0J(h:stp (.no false) t=some s1):nuW (sp8 t)=true/\((fl8 t=true/\s1=.st)\/(fl8 t=false/\s1=.fin)):=by
 have h:noS false t=some s1:=h
 unfold noS at h
 split at h
 ·rename_i k1
  rw[if_neg (by decide)]at h
  refine⟨k1,?_⟩
  split at h
  ·rename_i k2
   exact .inl ⟨k2,by cases h;rfl⟩
  ·rename_i k2
   exact .inr ⟨by simpa using k2,by cases h;rfl⟩
 ·cases h
end
section
variable {s s1 s2 e:Ps}{t t1 t2 u p q:Wd}{A:List Wd}{x y:Ks}{ts us:List Ks}{a b f:Bool}{c:Nat}
theorem b1I(h:stp s (p++q)=some s1)(hq:q≠[]):fl8 p=false:=by
 cases e:fl8 p with
 | false=>rfl
 | true=>
  obtain⟨w,rfl⟩:=b1U e
  rw[C8,List.singleton_append]at h
  rw[b1X hq]at h
  cases h
theorem b1V(hq:q≠[]):fl8 (p++q)=fl8 q:=by
 unfold fl8
 rw[List.getLast?_append]
 cases hl:q.getLast? with
 | none=>exact absurd (List.getLast?_eq_none_iff.mp hl) hq
 | some c=>rfl
theorem b7F(hq:q≠[]):sp8 (p++q)=p++sp8 q:=by
 unfold sp8
 rw[b1V hq]
 split
 ·rw[List.dropLast_append_of_ne_nil hq]
 ·rfl
theorem c4E(h:stp s (p++q)=some s1)(r:Run s1 B):¬Run s (p::q::B):=by
 intro r'
 obtain⟨s2,h2,r2⟩:=J5 r'
 obtain⟨s3,h3,r3⟩:=J5 r2
 have hp:=a2b h2
 have hq:=a2b h3
 have fp:=b1I h hq
 have spp:=a7Y fp
 cases s with
 | st=>
  have k1:=(a1S h2).1
  have k2:=(a1S h).1
  rw[spp]at k1
  rw[b7F hq]at k2
  have e:=c4S k1 k2
  rcases a9X h3 with z | z
  ·rw[z]at e;exact absurd e (by decide)
  ·exact z.1 e
 | rw x ts a=>
  cases ts with
  | nil=>
   have e:=(a1Z h2).2
   rw[fp]at e
   rw[a4d e]at h3
   obtain⟨rfl,_⟩:=a0w h3
   have k:=(b6C (a1Z h).1).2 62 (b4r (by simp) (by decide))
   exact(b2h k).2.1 rfl
  | cons y r0=>
   obtain⟨_,ft,rfl⟩:=a1p h
   obtain⟨_,_,rfl⟩:=a1p h2
   rw[b1V hq]at ft
   cases r0 with
   | nil=>
    have e:=(a1Z h3).2
    rw[ft]at e
    rw[a4d e]at r3
    exact b9L r r3
   | cons z r0=>
    obtain⟨_,_,rfl⟩:=a1p h3
    have:=b7Z B r r3
    rw[j9]at this
    omega
 | gt a=>
  have e:=congrArg P3 (a0w h).1
  rw[j4]at e
  have:=A9.mpr hp
  have:=A9.mpr hq
  simp at e
  omega
 | no two=>
  cases two with
  | true=>
   obtain⟨_,ft,rfl⟩:=a1j h
   obtain⟨_,_,rfl⟩:=a1j h2
   rw[b1V hq]at ft
   rcases(a0J h3).2 with ⟨z,_⟩ | ⟨_,rfl⟩
   ·rw[ft]at z;cases z
   ·rw[a8k r3]at r
    exact a9b r
  | false=>
   rcases(a0J h2).2 with ⟨z,_⟩ | ⟨_,rfl⟩
   ·rw[fp]at z;cases z
   ·cases h3
 | fin=>cases h
theorem c4F(h1:stp s t1=some s1)(h2:stp s1 t2=some s2)(r:Run s2 B):¬Run s ((t1++t2)::B):=by
 intro r'
 obtain⟨s3,h3,r3⟩:=J5 r'
 have n2:=a2b h2
 have n1:=a2b h1
 have l1:=A9.mpr n1
 have l2:=A9.mpr n2
 have long:t1++t2≠[62]:=fun z=>by
  have:=congrArg P3 z
  rw[j4]at this
  simp at this
  omega
 have f1:=b1I h3 n2
 have no62:62∉t1++t2:=fun z=>by
  rw[a9w z (by decide) (by decide) long]at h3
  cases h3
 have x1:t1≠[62]:=fun z=>no62 (by rw[z];simp)
 have x2:t2≠[62]:=fun z=>no62 (by rw[z];simp)
 have sp1:=a7Y f1
 cases s with
 | st=>
  have k1:=(a1S h1).1
  have k2:=(a1S h3).1
  rw[sp1]at k1
  rw[b7F n2]at k2
  have e:=c4S k1 k2
  rcases a9X h2 with z | z
  ·exact x2 z
  ·exact z.1 e
 | rw x ts a=>
  cases ts with
  | nil=>
   have e:=(a1Z h1).2
   rw[f1]at e
   rw[a4d e]at h2
   exact x2 (a0w h2).1
  | cons y r0=>
   obtain⟨_,_,rfl⟩:=a1p h1
   obtain⟨_,fu,rfl⟩:=a1p h3
   rw[b1V n2]at fu
   cases r0 with
   | nil=>
    have e:=(a1Z h2).2
    rw[fu]at e
    rw[a4d e]at r
    exact b9L r3 r
   | cons z r0=>
    obtain⟨_,_,rfl⟩:=a1p h2
    have:=b7Z B r r3
    rw[j9]at this
    omega
 | gt a=>exact x1 (a0w h1).1
 | no two=>
  cases two with
  | true=>
   obtain⟨_,_,rfl⟩:=a1j h1
   obtain⟨_,fu,rfl⟩:=a1j h3
   rw[b1V n2]at fu
   rcases(a0J h2).2 with ⟨z,_⟩ | ⟨_,rfl⟩
   ·rw[fu]at z;cases z
   ·rw[a8k r]at r3
    exact a9b r3
  | false=>
   rcases(a0J h1).2 with ⟨z,_⟩ | ⟨_,rfl⟩
   ·rw[f1]at z;cases z
   ·cases h2
 | fin=>cases h1
theorem c7v(h:stp s t=some s1)(r:Run s1 B):¬Run s ((t++[59])::B):=by
 intro r'
 obtain⟨s3,h3,r3⟩:=J5 r'
 have hn:=a2b h
 have f3:=b0t t
 have sp3:=b0i t
 have ft:fl8 t=false:=b1I h3 (by simp)
 have same:∀ {B:List Wd},Run (.gt false) B->¬Run .st B:=fun {B} g st=>by
  cases B with
  | nil=>exact c3L st
  | cons v B=>
   obtain⟨_,g1,_⟩:=J5 g
   obtain⟨_,g2,_⟩:=J5 st
   obtain⟨rfl,_⟩:=a0w g1
   exact absurd (a1S g2).1 (by decide +kernel)
 cases s with
 | st=>
  rcases(a1S h3).2 with ⟨a,k1,k2⟩ | ⟨x,ts,a,_,z,_⟩
  ·rw[f3]at k2
   obtain⟨rfl,rfl⟩:=c0y k2
   rcases(a1S h).2 with ⟨a',k3,k4⟩ | ⟨x,ts,a',k3,_,_⟩
   ·rw[sp3]at k1
    rw[a7Y ft,k1]at k3
    cases k3
    rw[ft]at k4
    rw[a4d k4]at r
    exact same r r3
   ·rw[sp3]at k1
    rw[a7Y ft,k1]at k3
    cases k3
  ·rw[f3]at z;cases z
 | rw x ts a=>
  cases ts with
  | nil=>
   have e:=(a1Z h3).2
   rw[f3]at e
   obtain⟨rfl,rfl⟩:=c0y e
   have e2:=(a1Z h).2
   rw[ft]at e2
   rw[a4d e2]at r
   exact same r r3
  | cons y r0=>
   obtain⟨_,z,_⟩:=a1p h3
   rw[f3]at z;cases z
 | gt a=>
  have e:=congrArg P3 (a0w h3).1
  have:=A9.mpr hn
  simp at e
  exact hn e
 | no two=>
  cases two with
  | true=>
   obtain⟨_,z,_⟩:=a1j h3
   rw[f3]at z;cases z
  | false=>
   rcases(a0J h).2 with ⟨z,_⟩ | ⟨_,rfl⟩
   ·rw[ft]at z;cases z
   ·rcases(a0J h3).2 with ⟨_,rfl⟩ | ⟨z,_⟩
    ·rw[a8k r]at r3
     exact c3L r3
    ·rw[f3]at z;cases z
 | fin=>cases h
theorem c7u(h:stp s (p++q)=some s1)(r:Run s1 B)(hc:al8 c=false):¬Run s ((p++c::q)::B):=by
 have hn:=a2b h
 by_cases h59:c=59
 ·subst h59
  by_cases hq:q=[]
  ·subst hq
   rw[F0]at h
   exact c7v h r
  ·exact a3C (b1X hq)
 ·refine a3C (a9w (c:=c) (by simp) h59 hc fun z=>?_)
  have:=congrArg P3 z
  rw[j4,j9]at this
  have l:=A9.mpr hn
  rw[j4]at l
  simp at this
  omega
theorem b9U(hw:w≠[]):nuW (48::w)=false:=by
 unfold nuW
 rw[a6Z]
 left
 cases w with
 | nil=>exact absurd rfl hw
 | cons c r=>(show(decide ((48:Nat)≠48)||false)=false);decide
theorem c7I(hw:w≠[]):ksW x (48::w)=false:=by
 have n1:nmW (48::w)=false:=by
  unfold nmW
  rw[a6Z,a6Z]
  exact .inl (.inr (show lt8 48=false by decide))
 cases x with
 | nm=>exact n1
 | op=>
  show(nmW (48::w)||(nuW (48::w)&&_))=false
  rw[n1,b9U hw]
  rfl
 | dd=>
  show decide (48::w∈ddL)=false
  refine d4L fun z=>?_
  have:∀v∈ddL,v.head?≠some 48:=by decide +kernel
  exact this _ z rfl
theorem c7t(h:stp s t=some s1)(ht:t≠[62]):¬Run s ((48::t)::B):=by
 have hn:=a2b h
 have hw:sp8 t≠[]:=by
  rcases a9X h with z | z
  ·exact absurd z ht
  ·exact z.1
 refine a3C ?_
 have e:sp8 (48::t)=48::sp8 t:=b7F (p:=[48]) hn
 cases s with
 | st=>
  cases hk:stp .st (48::t)with
  | none=>rfl
  | some s2=>
   have k:=(a1S hk).1
   rw[e]at k
   have:∀v∈knW,v.head?≠some 48:=by decide +kernel
   exact absurd rfl (this _ k)
 | rw x ts a=>
  cases hk:stp (.rw x ts a) (48::t)with
  | none=>rfl
  | some s2=>
   have k:=b9K hk
   rw[e,c7I hw]at k
   cases k
 | gt a=>
  cases hk:stp (.gt a) (48::t)with
  | none=>rfl
  | some s2=>
   have k:=(a0w hk).1
   cases t with
   | nil=>exact absurd rfl hn
   | cons c r=>cases k
 | no two=>
  cases hk:stp (.no two) (48::t)with
  | none=>rfl
  | some s2=>
   have k:nuW (sp8 (48::t))=true:=by
    cases two with
    | true=>exact(a1j hk).1
    | false=>exact(a0J hk).1
   rw[e,b9U hw]at k
   cases k
 | fin=>rfl
theorem c7w(r:Run s U)(h:t≠[62]):¬Run s (U++t::B):=by
 intro r'
 obtain⟨s1,g1,r1⟩:=b0o r'
 obtain⟨e,g2,ac⟩:=r
 rw[g1]at g2
 cases g2
 obtain⟨s2,g3,_⟩:=J5 r1
 cases s1 with
 | gt a=>exact h (a0w g3).1
 | fin=>cases g3
 | st=>cases ac
 | rw x ts a=>cases ac
 | no b=>cases ac
theorem d2v(r:Run s U)(hB:B=[]\/B=[[]]):¬Run s (U++[62]::B):=by
 intro r'
 obtain⟨s1,g1,r1⟩:=b0o r'
 obtain⟨e,g2,ac⟩:=r
 rw[g1]at g2
 cases g2
 obtain⟨s2,g3,r3⟩:=J5 r1
 cases s1 with
 | gt a=>
  obtain⟨_,rfl⟩:=a0w g3
  rcases hB with rfl | rfl
  ·exact a9b r3
  ·exact a3C b6N r3
 | fin=>cases g3
 | st=>cases ac
 | rw x ts a=>cases ac
 | no b=>cases ac
theorem b4z(h:stp s [62]=some s1):∃a,s=.gt a/\s1=.no a:=by
 cases s with
 | gt a=>exact⟨a,rfl,(a0w h).2⟩
 | st=>exact absurd (a1S h).1 (by decide +kernel)
 | rw x ts a=>exact absurd rfl (b2h ((b6C (b9K h)).2 62 (by decide))).2.1
 | no b=>
  exfalso
  cases b with
  | true=>exact absurd (a1j h).1 (by decide)
  | false=>exact absurd (a0J h).1 (by decide)
 | fin=>cases h
theorem d0A(h:stp s [62]=some s1)(r:Run s1 B)(hu:u≠[]/\fl8 u=false):¬Run s ([62]::u::B):=by
 intro r'
 obtain⟨a,rfl,rfl⟩:=b4z h
 obtain⟨s2,h2,r2⟩:=J5 r'
 obtain⟨_,rfl⟩:=a0w h2
 obtain⟨s3,h3,r3⟩:=J5 r2
 cases a with
 | false=>
  rcases(a0J h3).2 with ⟨z,_⟩ | ⟨_,rfl⟩
  ·rw[hu.2]at z;cases z
  ·rw[a8k r3]at r
   exact a9b r
 | true=>
  obtain⟨_,_,rfl⟩:=a1j h3
  cases B with
  | nil=>exact a9b r
  | cons v B=>
   obtain⟨s4,h4,r4⟩:=J5 r
   obtain⟨_,fv,rfl⟩:=a1j h4
   obtain⟨s5,h5,r5⟩:=J5 r3
   rcases(a0J h5).2 with ⟨z,_⟩ | ⟨_,rfl⟩
   ·rw[fv]at z;cases z
   ·rw[a8k r5]at r4
    exact a9b r4
theorem b9X(h:sp8 t∉knW):¬Run .st (t::B):=fun r=>by
 obtain⟨s2,h2,_⟩:=J5 r
 exact h (a1S h2).1
end
def J8:List Wd->Wd
 | []=>[]
 | [w]=>w
 | w::v::r=>w++32::J8 (v::r)
section
variable {V A:List Wd}{t t1 t2 v p q z:Wd}
theorem a0x(h:B≠[]):J8 (w::B)=w++32::J8 B:=by
 cases B with
 | nil=>exact absurd rfl h
 | cons v r=>rfl
theorem a9H:∀(A:List Wd),A≠[]->B≠[]->J8 (A++B)=J8 A++32::J8 B
 | [],h,_=>absurd rfl h
 | [w],_,hB=>a0x hB
 | w::v::r,_,hB=>by
  have e:J8 (w::(v::r++B))=w++32::J8 (v::r++B):=a0x (by simp)
  show J8 (w::(v::r++B))=(w++32::J8 (v::r))++32::J8 B
  rw[e,a9H (v::r) (by simp) hB,C8]
  rfl
theorem a6f:∀(A:List Wd),J8 (A++[p])++(z++J8 (q::B))=J8 (A++(p++(z++q))::B)
 | []=>by
  cases B with
  | nil=>simp[J8]
  | cons v r=>
   show p++(z++(q++32::J8 (v::r)))=(p++(z++q))++32::J8 (v::r)
   simp
 | w::A=>by
  have e1:J8 (w::(A++[p]))=w++32::J8 (A++[p]):=a0x (by simp)
  have e2:J8 (w::(A++(p++(z++q))::B))=w++32::J8 (A++(p++(z++q))::B):=a0x (by simp)
  show J8 (w::(A++[p]))++(z++J8 (q::B))=J8 (w::(A++(p++(z++q))::B))
  rw[e1,e2,<-a6f A]
  simp
theorem b9h(A:List Wd):J8 (A++(p++32::q)::B)=J8 (A++p::q::B):=by
 have h1:=a6f (p:=p) (z:=[32]) (q:=q) (B:=B) A
 have h2:=a9H (B:=q::B) (A++[p]) (by simp) (by simp)
 rw[C8]at h2
 rw[show A++p::q::B=A++([p]++q::B)from rfl,h2]
 rw[show p++32::q=p++([32]++q)from rfl,<-h1]
 rfl
theorem c0h:∀ {w v X Y:Wd},32∉w->32∉v->w++32::X=v++32::Y->w=v/\X=Y
 | [],[],_,_,_,_,h=>by simpa using h
 | [],c::v,_,_,_,hv,h=>by
  simp only[a2e,a0l,List.cons.injEq]at h
  exact absurd (by rw[<-h.1];simp) hv
 | c::w,[],_,_,hw,_,h=>by
  simp only[a2e,a0l,List.cons.injEq]at h
  exact absurd (by rw[h.1];simp) hw
 | c::w,d::v,X,Y,hw,hv,h=>by
  simp only[a0l,List.cons.injEq]at h
  obtain⟨e1,e2⟩:=c0h (fun z=>hw (c9 _ z)) (fun z=>hv (c9 _ z)) h.2
  exact⟨by rw[h.1,e1],e2⟩
theorem b9i:∀ {U V:List Wd},U≠[]->V≠[]->(∀w∈U,32∉w)->(∀w∈V,32∉w)->J8 U=J8 V->U=V
 | [],_,h,_,_,_,_=>absurd rfl h
 | _,[],_,h,_,_,_=>absurd rfl h
 | [w],[v],_,_,_,_,h=>by rw[show w=v from h]
 | [w],v::v2::r,_,_,hU,_,h=>by
  have h:w=v++32::J8 (v2::r):=h
  exact absurd (by rw[h];simp) (hU w (by simp))
 | w::w2::r,[v],_,_,_,hV,h=>by
  have h:w++32::J8 (w2::r)=v:=h
  exact absurd (by rw[<-h];simp) (hV v (by simp))
 | w::w2::r,v::v2::r',_,_,hU,hV,h=>by
  obtain⟨e1,e2⟩:=c0h (hU w (by simp)) (hV v (by simp)) h
  have:=b9i (by simp) (by simp) (fun x hx=>hU x (c9 _ hx)) (fun x hx=>hV x (c9 _ hx)) e2
  rw[e1,this]
theorem c5m:∀(U:List Wd) (n:Nat),U≠[]->n<=(J8 U).length->∃A p q B,U=A++(p++q)::B/\(J8 U).take n=J8 (A++[p])/\(J8 U).drop n=J8 (q::B)
 | [],_,h,_=>absurd rfl h
 | [w],n,_,_=>⟨[],w.take n,w.drop n,[],by simp,rfl,rfl⟩
 | w::v::r,n,_,hn=>by
  have e:J8 (w::v::r)=w++32::J8 (v::r):=rfl
  by_cases h:n<=w.length
  ·refine⟨[],w.take n,w.drop n,v::r,by simp,?_,?_⟩
   ·rw[e,List.take_append_of_le_length h];rfl
   ·rw[e,List.drop_append_of_le_length h];rfl
  ·obtain⟨m,rfl⟩:∃m,n=w.length+(m+1):=⟨n - w.length - 1,by omega⟩
   have hm:m<=(J8 (v::r)).length:=by
    rw[e,j4,j9]at hn
    omega
   obtain⟨A,p,q,B,e1,e2,e3⟩:=c5m (v::r) m (by simp) hm
   refine⟨w::A,p,q,B,by rw[e1];rfl,?_,?_⟩
   ·rw[e,List.take_length_add_append,List.take_succ_cons,e2,a0l,a0x (by simp)]
   ·rw[e,List.drop_length_add_append,List.drop_succ_cons,e3]
theorem at8(hU:U≠[]){c:Nat}(h:(J8 U)[n]? = some c)(hc:c≠32):∃A p q B,U=A++(p++c::q)::B/\(J8 U).take n=J8 (A++[p])/\(J8 U).drop (n+1)=J8 (q::B):=by
 have hn:=(gI h)
 obtain⟨A,p,q,B,e1,e2,e3⟩:=c5m U n hU (by omega)
 have h0:((J8 U).drop n)[0]? = some c:=by rw[a2k,b2o];exact h
 have ht:(J8 U).drop (n+1)=((J8 U).drop n).tail:=by rw[d1x]
 rw[e3]at h0 ht
 cases q with
 | nil=>
  cases B with
  | nil=>simp[J8]at h0
  | cons v r=>rw[a0x (by simp)]at h0;simp at h0;exact absurd h0.symm hc
 | cons d q=>
  have e:J8 ((d::q)::B)=d::J8 (q::B):=by
   cases B with
   | nil=>rfl
   | cons v r=>rfl
  rw[e]at h0 ht
  have:d=c:=by simpa using h0
  subst this
  exact⟨A,p,q,B,e1,e2,by rw[ht];rfl⟩
theorem c5s(hU:U≠[])(h32:∀w∈U,32∉w)(h:(J8 U)[n]? = some 32):∃A t1 t2 B,U=A++t1::t2::B/\(J8 U).take n=J8 (A++[t1])/\(J8 U).drop (n+1)=J8 (t2::B):=by
 have hn:=(gI h)
 obtain⟨A,p,q,B,e1,e2,e3⟩:=c5m U n hU (by omega)
 have h0:((J8 U).drop n)[0]? = some 32:=by rw[a2k,b2o];exact h
 have ht:(J8 U).drop (n+1)=((J8 U).drop n).tail:=by rw[d1x]
 rw[e3]at h0 ht
 cases q with
 | nil=>
  cases B with
  | nil=>simp[J8]at h0
  | cons v r=>
   rw[a0x (by simp)]at ht
   exact⟨A,p,v,r,by rw[e1,F0],e2,by rw[ht];rfl⟩
 | cons d q=>
  have e:(J8 ((d::q)::B))[0]? = some d:=by
   cases B with
   | nil=>rfl
   | cons v r=>rfl
  rw[e]at h0
  cases h0
  exact absurd (by simp) (h32 (p++32::q) (by rw[e1];simp))
def a3B:List Wd->List Wd
 | []=>[]
 | [w]=>[w++[59]]
 | w::v::r=>w::a3B (v::r)
def a1I:List (List Wd)->List Wd
 | []=>[]
 | [l]=>l
 | l::m::r=>a3B l++a1I (m::r)
theorem b3Q(h:A≠[]):a3B A≠[]:=by
 match A,h with
 | [w],_=>simp[a3B]
 | w::v::r,_=>simp[a3B]
theorem c0z:∀(A:List Wd),A≠[]->J8 (a3B A)=J8 A++[59]
 | [],h=>absurd rfl h
 | [w],_=>rfl
 | w::v::r,_=>by
  show J8 (w::a3B (v::r))=_
  rw[a0x (b3Q (by simp)),c0z (v::r) (by simp)]
  show _=(w++32::J8 (v::r))++[59]
  rw[C8]
  rfl
theorem b0g:∀ {L:List (List Wd)},L≠[]->(∀l∈L,l≠[])->a1I L≠[]
 | [],h,_=>absurd rfl h
 | [l],_,h=>h l (by simp)
 | l::m::r,_,h=>fun z=>b3Q (h l (by simp)) (c0E.mp z).1
def T8:List (List Wd)->Wd
 | []=>[]
 | [l]=>J8 l
 | l::m::r=>J8 l++59::32::T8 (m::r)
theorem b2i:∀(L:List (List Wd)),(∀l∈L,l≠[])->T8 L=J8 (a1I L)
 | [],_=>rfl
 | [l],_=>rfl
 | l::m::r,h=>by
  show J8 l++59::32::T8 (m::r)=J8 (a3B l++a1I (m::r))
  rw[a9H _ (b3Q (h l (by simp))) (b0g (by simp) fun x hx=>h x (c9 _ hx)),c0z l (h l (by simp)),b2i (m::r) fun x hx=>h x (c9 _ hx),C8]
  rfl
def a7j:List Wd->List (List Wd)
 | []=>[]
 | t::r=>if fl8 t=true then [t.dropLast]::a7j r else match a7j r with
  | []=>[[t]]
  | l::ls=>(t::l)::ls
theorem a7V{r:List Wd}:a7j (t::r)=if fl8 t=true then [t.dropLast]::a7j r else match a7j r with
  | []=>[[t]]
  | l::ls=>(t::l)::ls:=rfl
theorem b5G:∀(l:List Wd),l≠[]->(∀w∈l,fl8 w=false)->a7j l=[l]
 | [],h,_=>absurd rfl h
 | [w],_,h=>by
  rw[a7V,h w (by simp)]
  rfl
 | w::v::r,_,h=>by
  rw[a7V,h w (by simp),b5G (v::r) (by simp) fun x hx=>h x (c9 _ hx)]
  rfl
theorem b5F:∀(l:List Wd),l≠[]->(∀w∈l,fl8 w=false)->a7j (a3B l++B)=l::a7j B
 | [],h,_=>absurd rfl h
 | [w],_,_=>by
  show a7j ((w++[59])::B)=_
  rw[a7V,b0t,if_pos rfl]
  simp
 | w::v::r,_,h=>by
  show a7j (w::(a3B (v::r)++B))=_
  rw[a7V,h w (by simp),b5F (v::r) (by simp) fun x hx=>h x (c9 _ hx)]
  rfl
theorem b3K:∀(L:List (List Wd)),(∀l∈L,l≠[]/\∀w∈l,fl8 w=false)->a7j (a1I L)=L
 | [],_=>rfl
 | [l],h=>b5G l (h l (by simp)).1 (h l (by simp)).2
 | l::m::r,h=>by
  show a7j (a3B l++a1I (m::r))=_
  rw[b5F l (h l (by simp)).1 (h l (by simp)).2,b3K (m::r) fun x hx=>h x (c9 _ hx)]
def b7g(l:List Wd):Prop:=l≠[]/\Run .st l/\go8 .st (a3B l)=some .st
theorem b3Z:∀(L:List (List Wd)),L≠[]->(∀l∈L,b7g l)->Run .st (a1I L)
 | [],h,_=>absurd rfl h
 | [l],_,h=>(h l (by simp)).2.1
 | l::m::r,_,h=>by
  obtain⟨e,h1,h2⟩:=b3Z (m::r) (by simp) fun x hx=>h x (c9 _ hx)
  refine⟨e,?_,h2⟩
  show go8 .st (a3B l++a1I (m::r))=_
  rw[b0s,(h l (by simp)).2.2]
  exact h1
theorem b9W:∀(L:List (List Wd)) (i:Nat) (o:List Wd),i<L.length->(∀l∈L,b7g l)->¬Run .st o->go8 .st (a3B o)=none->¬Run .st (a1I (L.set i o))
 | [],_,_,h,_,_,_=>absurd h (d1t _)
 | [l],i,o,h,_,h1,_=>by
  have:i=0:=by simpa using h
  subst this
  exact h1
 | l::m::r,0,o,_,_,_,h2=>fun⟨e,g,_⟩=>by
  have g:go8 .st (a3B o++a1I (m::r))=some e:=g
  rw[b0s,h2]at g
  cases g
 | l::m::r,i+1,o,h,hL,h1,h2=>fun⟨e,g,a⟩=>by
  have hs:(l::m::r).set (i+1) o=l::(m::r).set i o:=rfl
  rw[hs]at g
  obtain⟨m',r',e'⟩:∃m' r',(m::r).set i o=m'::r':=by
   cases i with
   | zero=>exact⟨_,_,rfl⟩
   | succ i=>exact⟨_,_,rfl⟩
  rw[e']at g
  have g:go8 .st (a3B l++a1I (m'::r'))=some e:=g
  rw[b0s,(hL l (by simp)).2.2,<-e']at g
  exact b9W (m::r) i o (by simpa using h) (fun x hx=>hL x (c9 _ hx)) h1 h2 ⟨e,g,a⟩
end
section
variable {K:Fg}{c:Cn}{T:Str}
def a1m(T:Str):Prop:=∃H rs Ws N,a1l H rs Ws/\rs.length=N.length/\c2u Ws N/\a0c N/\T=a3t Ws N
def w8(w:V):Wd:=sg (wT w)
def ln8(ws:List V)(l:List Nat):List Wd:=(S3 ws l).map w8
def c1O(Ws:List (List V))(N:Nt):List (List Wd):=(l6 N.length).map fun i=>ln8 (Ws.getD i []) (N.getD i [])
theorem c8M:∀(vs:List V),sg (Txt.join " " (vs.map wT))=J8 (vs.map w8):=fun vs=>by
 rw[show Txt.join " " (vs.map wT)=Str.join " " (vs.map wT)from F7 _ _]
 induction vs with
 | nil=>rfl
 | cons v r ih=>
  cases r with
  | nil=>rfl
  | cons v2 r=>
   show sg (wT v ++ " " ++ Str.join " " ((v2::r).map wT))=w8 v++32::J8 ((v2::r).map w8)
   rw[<-ih]
   unfold sg
   rw[Str.cps_append,Str.cps_append,N4,N4,C8]
   rfl
theorem b8G:∀(ss:List Str) (L:List (List Wd)),ss.map sg=L.map J8->sg (Txt.join "; " ss)=T8 L:=fun ss L h=>by
 rw[show Txt.join "; " ss=Str.join "; " ss from F7 _ _]
 induction ss generalizing L with
 | nil=>
  cases L with
  | nil=>rfl
  | cons l r=>cases h
 | cons s r ih=>
  cases L with
  | nil=>cases h
  | cons l L=>
   simp only[C6,List.cons.injEq]at h
   cases r with
   | nil=>
    cases L with
    | nil=>exact h.1
    | cons m L=>cases h.2
   | cons s2 r=>
    cases L with
    | nil=>cases h.2
    | cons m L=>
     show sg (s ++ "; " ++ Str.join "; " (s2::r))=J8 l++59::32::T8 (m::L)
     rw[<-ih (m::L) h.2,<-h.1]
     unfold sg
     rw[Str.cps_append,Str.cps_append,N4,N4,C8]
     rfl
theorem d1I:sg (a3t Ws N)=T8 (c1O Ws N):=by
 refine b8G _ _ ?_
 unfold G7 c1O
 rw[G6,G6]
 refine a0j fun i _=>?_
 exact c8M _
theorem c9b{z:Nat}(h:sgn SGN z=true):al8 z=true:=by
 have h:z∈SGN.cps.toList:=of_decide_eq_true (by rw[<-G8 SGN z];exact h)
 have:∀z∈SGN.cps.toList,al8 z=true:=by decide +kernel
 exact this z h
theorem d0D{z:Nat}(h:sgn LET z=true):lt8 z=true:=by
 have h:z∈LET.cps.toList:=of_decide_eq_true (by rw[<-G8 LET z];exact h)
 have:∀z∈LET.cps.toList,lt8 z=true:=by decide +kernel
 exact this z h
theorem nm8{s:Str}(h:NmS s):nmW (sg s)=true:=by
 have h1:=h.1
 unfold a1F at h1
 simp only[l9,decide_eq_true_eq]at h1
 have hl:(sg s).length=s.length:=z9
 unfold nmW
 rw[l9,l9]
 refine⟨⟨d4M (by have:=h.2;omega),?_⟩,p9.mpr fun z hz=>c9b (p9.mp h1.2 z hz)⟩
 have h3:=h1.1.2
 split at h3
 ·rename_i z e
  have e:(sg s)[0]? = some z:=by unfold sg;rw[O3];exact e
  cases hs:sg s with
  | nil=>rw[hs]at e;cases e
  | cons d r=>
   rw[hs]at e
   cases e
   exact d0D h3
 ·cases h3
theorem b9V(m:Nat):w8 (.int (m:Int))=(c2w 10 m).map Char.toNat:=by
 show(Str.ofString (toString ((m:Nat):Int))).cps.toList=_
 rw[a2j]
theorem nu8(m:Nat):nuW (w8 (.int (m:Int)))=true:=by
 have had:PySem.NumText.AllDigits (w8 (.int (m:Int))):=fun z hz=>a4u hz
 have hv:a1c (w8 (.int (m:Int)))=m:=by rw[b9V];exact a5w m
 have hall:=PySem.NumText.toDigits_all _ had
 rw[hv]at hall
 have hlen:(w8 (.int (m:Int))).length=(c2w 10 m).length:=by rw[b9V,a9]
 have h1:1<=(c2w 10 m).length:=c0B 10 m
 unfold nuW
 rw[l9]
 refine⟨?_,p9.mpr fun z hz=>?_⟩
 ·cases hs:w8 (.int (m:Int))with
  | nil=>rw[hs]at hlen;simp at hlen;omega
  | cons d r=>
   by_cases hd:d=48
   ·subst hd
    cases r with
    | nil=>rfl
    | cons d2 r=>
     exfalso
     rw[hs]at hall hlen
     rw[a8K,if_pos (show((48:Nat) == 48)=true from rfl)]at hall
     have hle:((d2::r).dropWhile (· == 48)).length<=(d2::r).length:=(List.dropWhile_sublist _).length_le
     have:=congrArg P3 hall
     split at this
     ·simp at this hlen
      omega
     ·rename_i e
      rw[e]at hle
      simp at this hlen hle
      omega
   ·show(decide (d≠48)||_)=true
    rw[d4M hd]
    rfl
 ·have:=had z hz
  unfold dg8
  rw[d4M this.1,d4M this.2]
  rfl
theorem op8(h:OpN v):opW (w8 v)=true:=by
 unfold opW
 rcases h with ⟨s,rfl,hs⟩ | ⟨n,rfl,h0,h1⟩
 ·rw[show w8 (.str s)=sg s from rfl,nm8 hs];rfl
 ·obtain⟨m,rfl⟩:=L7 h0
  have hl:(w8 (.int (m:Int))).length<=12:=by
   rw[b9V,a9]
   exact PyProof.Rows.digits10_le (by decide) (by omega)
  have:nuW (w8 (.int (m:Int)))=true:=nu8 m
  rw[this,d4M hl]
  simp
theorem b3p(h:AlW w):fl8 w=false:=by
 cases e:fl8 w with
 | false=>rfl
 | true=>
  obtain⟨v,rfl⟩:=b1U e
  exact absurd rfl (b2h (h.2 59 (by simp))).1
theorem b9A(h:AlW w):sp8 w=w:=a7Y (b3p h)
def Nx8(a:Bool):List Wd->Prop
 | []=>a=false
 | t::ns=>t=[62]/\ns.length=(if a=true then 2 else 1)/\∀n∈ns,nuW n=true
theorem d0y{a:Bool}{ns:List Wd}(h:Nx8 a ns):Run (.gt a) ns:=by
 cases ns with
 | nil=>exact⟨_,rfl,by rw[show a=false from h];rfl⟩
 | cons t ns=>
  obtain⟨rfl,h2,h3⟩:=h
  cases a with
  | false=>
   obtain⟨n,rfl⟩:∃n,ns=[n]:=match ns,h2 with | [n],_=>⟨n,rfl⟩
   have k:=h3 n (by simp)
   refine⟨.fin,?_,rfl⟩
   have e:stp (.no false) n=some .fin:=by
    show noS false n=_
    unfold noS
    rw[b9A (a8q k),if_pos k,if_neg (by decide),b3p (a8q k)]
    rfl
   show(match stp (.no false) n with | some s'=>go8 s' [] | none=>none)=_
   rw[e]
   rfl
  | true=>
   obtain⟨n,n2,rfl⟩:∃n n2,ns=[n,n2]:=match ns,h2 with | [n,n2],_=>⟨n,n2,rfl⟩
   have k:=h3 n (by simp)
   have k2:=h3 n2 (by simp)
   refine⟨.fin,?_,rfl⟩
   have e:stp (.no true) n=some (.no false):=by
    show noS true n=_
    unfold noS
    rw[b9A (a8q k),if_pos k,if_pos rfl,b3p (a8q k)]
    rfl
   have e2:stp (.no false) n2=some .fin:=by
    show noS false n2=_
    unfold noS
    rw[b9A (a8q k2),if_pos k2,if_neg (by decide),b3p (a8q k2)]
    rfl
   show(match stp (.no true) n with | some s'=>go8 s' [n2] | none=>none)=_
   rw[e]
   show(match stp (.no false) n2 with | some s'=>go8 s' [] | none=>none)=_
   rw[e2]
   rfl
theorem b1e:∀(l:List Wd) (s:Ps),l≠[]->Run s l->(∀w∈l,fl8 w=false)->go8 s (a3B l)=some .st
 | [],_,h,_,_=>absurd rfl h
 | [t],s,_,r,hf=>by
  obtain⟨s1,h1,e,h2,ac⟩:=J5 r
  cases h2
  have ft:=hf t (by simp)
  have st':=a7Y ft
  have hp:t≠[62]:=by
   rintro rfl
   obtain⟨a,rfl,rfl⟩:=b4z h1
   cases ac
  have key:stp s (t++[59])=some .st:=by
   have f3:=b0t t
   have sp3:=b0i t
   cases s with
   | st=>
    show stS (t++[59])=_
    unfold stS
    rw[sp3,f3]
    rcases(a1S h1).2 with ⟨a,k1,k2⟩ | ⟨x,ts,a,_,_,rfl⟩
    ·rw[st']at k1
     rw[ft]at k2
     rw[a4d k2]at ac
     have:a=false:=by simpa[acc]using ac
     subst this
     rw[k1]
     rfl
    ·cases ac
   | rw x ts a=>
    show rwS x ts a (t++[59])=_
    unfold rwS
    rw[sp3,f3]
    have k:=b9K h1
    rw[st']at k
    rw[if_pos k]
    cases ts with
    | nil=>
     have k2:=(a1Z h1).2
     rw[ft]at k2
     rw[a4d k2]at ac
     have:a=false:=by simpa[acc]using ac
     subst this
     rfl
    | cons y r0=>
     obtain⟨_,_,rfl⟩:=a1p h1
     cases ac
   | gt a=>exact absurd (a0w h1).1 hp
   | no two=>
    cases two with
    | true=>
     obtain⟨_,_,rfl⟩:=a1j h1
     cases ac
    | false=>
     show noS false (t++[59])=_
     unfold noS
     have k:=(a0J h1).1
     rw[st']at k
     rw[sp3,f3,if_pos k]
     rfl
   | fin=>cases h1
  show(match stp s (t++[59])with | some s'=>go8 s' [] | none=>none)=_
  rw[key]
  rfl
 | t::v::r,s,_,h,hf=>by
  obtain⟨s1,h1,r1⟩:=J5 h
  show(match stp s t with | some s'=>go8 s' (a3B (v::r)) | none=>none)=_
  rw[h1]
  exact b1e (v::r) s1 (by simp) r1 fun w hw=>hf w (c9 _ hw)
theorem Q9{s s1:Ps}{t:Wd}(h:stp s t=some s1)(r:Run s1 B):Run s (t::B):=by
 obtain⟨e,h1,h2⟩:=r
 refine⟨e,?_,h2⟩
 show(match stp s t with | some s'=>go8 s' B | none=>none)=_
 rw[h]
 exact h1
theorem a3b{x:Ks}{ts:List Ks}{a:Bool}{t:Wd}(h:ksW x t=true):stp (.rw x ts a) t=match ts with | []=>some (.gt a) | y::r=>some (.rw y r a):=by
 show rwS x ts a t=_
 unfold rwS
 have al:=b6C h
 rw[b9A al,b3p al,if_pos h]
 cases ts with
 | nil=>rfl
 | cons y r=>rfl
theorem d3w{a:Bool}(h2:l.length<=2)(h:a=(l.length == 2)):Nx8 a (if l=[] then [] else [62]::l.map fun(n:Nat)=>w8 (.int (n:Int))):=by
 by_cases hl:l=[]
 ·subst hl
  rw[if_pos rfl]
  exact h
 ·rw[if_neg hl]
  refine⟨rfl,?_,fun n hn=>?_⟩
  ·have:=A9.mpr hl
   rw[a9,h]
   by_cases e:l.length=2
   ·rw[e];rfl
   ·rw[beq_eq_false_iff_ne.mpr e]
    show l.length=1
    omega
  ·obtain⟨m,_,rfl⟩:=y7.mp hn
   exact nu8 m
theorem b6z:ln8 ws l=ws.map w8++(if l=[] then [] else [62]::l.map fun(n:Nat)=>w8 (.int (n:Int))):=by
 unfold ln8 S3
 rw[E9]
 congr 1
 split
 ·rfl
 ·unfold IL
  rw[C6,G6]
  rfl
theorem kd8{k:Str}(h:k∈a5p):ksW .dd (sg k)=true:=by
 have:∀k∈a5p,ksW .dd (sg k)=true:=by decide +kernel
 exact this k h
theorem c4N{k:Str}(h:RWs H xs ws)(hw:ws=.str k::r)(h2:l.length<=2)(hk:decide (k = "ask")=(l.length == 2)):Run .st (ln8 ws l):=by
 rw[b6z]
 have nx:∀a,a=(l.length == 2)->Run (.gt a) (if l=[] then [] else [62]::l.map fun(n:Nat)=>w8 (.int (n:Int))):=fun a ha=>d0y (d3w h2 ha)
 cases h with
 | set n p kd v1 v2 a b c d e=>
  cases hw
  refine Q9 (s1:=.rw .nm [.dd,.op,.op] false) (by decide +kernel) ?_
  refine Q9 (a3b (nm8 a)) ?_
  refine Q9 (a3b (kd8 e)) ?_
  refine Q9 (a3b (op8 c)) ?_
  refine Q9 (a3b (op8 d)) ?_
  exact nx false (by rw[<-hk];decide)
 | copy n v a b=>
  cases hw
  refine Q9 (s1:=.rw .nm [.op] false) (by decide +kernel) ?_
  refine Q9 (a3b (nm8 a)) ?_
  refine Q9 (a3b (op8 b)) ?_
  exact nx false (by rw[<-hk];decide)
 | take n a=>
  cases hw
  refine Q9 (s1:=.rw .nm [] false) (by decide +kernel) ?_
  refine Q9 (a3b (nm8 a)) ?_
  exact nx false (by rw[<-hk];decide)
 | tell v a=>
  cases hw
  refine Q9 (s1:=.rw .op [] false) (by decide +kernel) ?_
  refine Q9 (a3b (op8 a)) ?_
  exact nx false (by rw[<-hk];decide)
 | ask v a=>
  cases hw
  refine Q9 (s1:=.rw .op [] true) (by decide +kernel) ?_
  refine Q9 (a3b (op8 a)) ?_
  exact nx true (by rw[<-hk];decide)
 | skip=>
  cases hw
  refine Q9 (s1:=.gt false) (by decide +kernel) ?_
  exact nx false (by rw[<-hk];decide)
end
def a6G(X:Wd):Prop:=∃U,X=J8 U/\U≠[]/\(∀w∈U,32∉w)/\¬Run .st U
section
variable {s s1:Ps}{V A:List Wd}{t t1 t2 v p q z X:Wd}{c:Nat}
theorem a0h:∀(U:List Wd) (s:Ps),Run s U->∀t∈U,32∉t/\t≠[]
 | [],_,_,t,h=>by cases h
 | u::U,s,r,t,h=>by
  obtain⟨s1,h1,r1⟩:=J5 r
  rcases c5.mp h with e | e
  ·rw[e];exact⟨c5z h1,a2b h1⟩
  ·exact a0h U s1 r1 t e
theorem a9c(r:Run .st (A++t::B)):∃s s1,go8 .st A=some s/\stp s t=some s1/\Run s1 B:=by
 obtain⟨s,h1,r1⟩:=b0o r
 obtain⟨s1,h2,r2⟩:=J5 r1
 exact⟨s,s1,h1,h2,r2⟩
theorem a7B(h:go8 .st A=some s)(n:¬Run s B):¬Run .st (A++B):=fun r=>by
 obtain⟨s1,h1,r1⟩:=b0o r
 rw[h]at h1
 cases h1
 exact n r1
theorem a3c{x:Wd}(h:x∈A++B)(hA:∀w∈A,32∉w)(hB:∀w∈B,32∉w):32∉x:=(j8.mp h).elim (hA x) (hB x)
theorem c2q(r:Run .st U)(hU:U≠[])(hn:n<=(J8 U).length):a6G ((J8 U).take n++32::(J8 U).drop n):=by
 obtain⟨A,p,q,B,e1,e2,e3⟩:=c5m U n hU hn
 rw[e1]at r
 obtain⟨s,s1,h1,h2,r1⟩:=a9c r
 have f:=a0h _ _ r
 have ft:=(f (p++q) (by simp)).1
 refine⟨A++p::q::B,?_,by simp,fun w hw=>a3c hw (fun w hw=>(f w (by simp[hw])).1) fun w hw=>?_,a7B h1 (c4E h2 r1)⟩
 ·rw[e2,e3,<-b9h A,show p++32::q=p++([32]++q)from rfl,<-a6f A]
  rfl
 ·rcases c5.mp hw with rfl | hw
  ·exact fun z=>ft (v9 _ z)
  ·rcases c5.mp hw with rfl | hw
   ·exact fun z=>ft (t9 _ z)
   ·exact(f w (by simp[hw])).1
theorem b6Z(r:Run .st U)(hU:U≠[])(hn:n<=(J8 U).length)(hc:al8 c=false)(h32:c≠32):a6G ((J8 U).take n++c::(J8 U).drop n):=by
 obtain⟨A,p,q,B,e1,e2,e3⟩:=c5m U n hU hn
 rw[e1]at r
 obtain⟨s,s1,h1,h2,r1⟩:=a9c r
 have f:=a0h _ _ r
 have ft:=(f (p++q) (by simp)).1
 refine⟨A++(p++([c]++q))::B,?_,by simp,fun w hw=>a3c hw (fun w hw=>(f w (by simp[hw])).1) fun w hw=>?_,a7B h1 (c7u h2 r1 hc)⟩
 ·rw[e2,e3,<-a6f A]
  rfl
 ·rcases c5.mp hw with rfl | hw
  ·intro z
   rcases j8.mp z with z | z
   ·exact ft (v9 _ z)
   ·rcases c5.mp z with z | z
    ·exact h32 z.symm
    ·exact ft (t9 _ z)
  ·exact(f w (by simp[hw])).1
theorem c5t(r:Run .st U)(hU:U≠[])(hb:(J8 U)[n]? = some 32)(hd:(J8 U)[n+1]? = some c)(hc:dg8 c=true):a6G ((J8 U).take (n+1)++48::(J8 U).drop (n+1)):=by
 obtain⟨A,t1,t2,B,e1,e2,e3⟩:=c5s hU (fun w hw=>(a0h _ _ r w hw).1) hb
 have e4:(J8 U).take (n+1)=J8 (A++[t1])++[32]:=by rw[C7,hb,e2];rfl
 have r0:=r
 rw[e1,show A++t1::t2::B=(A++[t1])++t2::B by simp]at r
 obtain⟨s,s1,h1,h2,r1⟩:=a9c r
 have f:=a0h _ _ r
 have n2:=(f t2 (by simp)).2
 have h62:t2≠[62]:=by
  rintro rfl
  have h0:((J8 U).drop (n+1))[0]? = some c:=by rw[a2k,b2o];exact hd
  rw[e3]at h0
  have:c=62:=by
   cases B with
   | nil=>simpa[J8]using h0.symm
   | cons v r=>rw[a0x (by simp)]at h0;simpa using h0.symm
  subst this
  exact absurd hc (by decide)
 refine⟨(A++[t1])++(48::t2)::B,?_,by simp,fun w hw=>a3c hw (fun w hw=>(f w (v9 _ hw)).1) fun w hw=>?_,a7B h1 (c7t h2 h62)⟩
 ·rw[e4,e3,a9H (B:=(48::t2)::B) (A++[t1]) (by simp) (by simp),C8]
  congr 2
  cases B with
  | nil=>rfl
  | cons v r=>rfl
 ·rcases c5.mp hw with rfl | hw
  ·intro z
   rcases c5.mp z with z | z
   ·cases z
   ·exact(f t2 (by simp)).1 z
  ·exact(f w (by simp[hw])).1
theorem c2p(r:Run .st U)(hU:U≠[])(hb:(J8 U)[n]? = some 32):a6G ((J8 U).take n++(J8 U).drop (n+1)):=by
 obtain⟨A,t1,t2,B,e1,e2,e3⟩:=c5s hU (fun w hw=>(a0h _ _ r w hw).1) hb
 rw[e1]at r
 obtain⟨s,s1,h1,h2,r1⟩:=a9c r
 obtain⟨s2,h3,r2⟩:=J5 r1
 have f:=a0h _ _ r
 refine⟨A++(t1++t2)::B,?_,by simp,fun w hw=>a3c hw (fun w hw=>(f w (by simp[hw])).1) fun w hw=>?_,a7B h1 (c4F h2 h3 r2)⟩
 ·rw[e2,e3,show t1++t2=t1++([]++t2)from rfl,<-a6f A]
  rfl
 ·rcases c5.mp hw with rfl | hw
  ·intro z
   rcases j8.mp z with z | z
   ·exact(f t1 (by simp)).1 z
   ·exact(f t2 (by simp)).1 z
  ·exact(f w (by simp[hw])).1
theorem c0w(r:Run .st U)(hU:U≠[])(hz:al8 c=false)(h32:c≠32):a6G (J8 U++[c]):=by
 have:=b6Z r hU (n:=(J8 U).length) (d9 _) hz h32
 rwa [w6 (d9 _),List.drop_of_length_le (d9 _)]at this
theorem c7H(hU:U≠[]):∃A t,U=A++[t]:=⟨U.dropLast,U.getLast hU,(b3z hU).symm⟩
theorem b7a(r:Run .st U)(hU:U≠[])(hB:∀w∈t::B,32∉w)(ht:t≠[62]):a6G (J8 U++32::J8 (t::B)):=
 ⟨U++t::B,(a9H U hU (by simp)).symm,by simp,fun w hw=>a3c hw (fun w hw=>(a0h _ _ r w hw).1) hB,c7w r ht⟩
theorem c5w(r:Run .st U)(hU:U≠[])(hB:B=[]\/B=[[]]):a6G (J8 U++32::J8 ([62]::B)):=
 ⟨U++[62]::B,(a9H U hU (by simp)).symm,by simp,fun w hw=>a3c hw (fun w hw=>(a0h _ _ r w hw).1) fun w hw=>by
  rcases c5.mp hw with rfl | hw
  ·decide
  ·rcases hB with rfl | rfl
   ·cases hw
   ·rw[g8.mp hw];decide,d2v r hB⟩
theorem c5u(r:Run .st U)(hU:U≠[]):a6G (J8 U++[59,32]):=by
 obtain⟨A,t,rfl⟩:=c7H hU
 obtain⟨s,s1,h1,h2,r1⟩:=a9c (B:=[]) r
 have f:=a0h _ _ r
 refine⟨A++(t++[59])::[[]],?_,by simp,fun w hw=>a3c hw (fun w hw=>(f w (by simp[hw])).1) fun w hw=>?_,a7B h1 fun r2=>?_⟩
 ·have:=a6f (p:=t) (z:=[59,32]) (q:=[]) (B:=[]) A
  rw[show J8 ([]::[])=([]:Wd)from rfl,F0]at this
  rw[this,show t++[59,32]=(t++[59])++32::[] by simp,b9h A]
 ·simp only[c5,p8,or_false]at hw
  rcases hw with rfl | rfl
  ·intro z
   rcases j8.mp z with z | z
   ·exact(f t (by simp)).1 z
   ·simp at z
  ·simp
 ·obtain⟨s2,h3,r3⟩:=J5 r2
  exact a3C b6N r3
theorem a9A(hB:∀w∈t::B,32∉w)(h:sp8 t∉knW):a6G (J8 (t::B)):=⟨_,rfl,by simp,hB,b9X h⟩
theorem b7c(r:Run .st U)(hU:U≠[])(hz:z≠[])(h32:32∉z)(hk:∃c∈z,c≠59/\al8 c=false\/c=59):a6G (z++J8 U):=by
 obtain⟨t,B,rfl⟩:∃t B,U=t::B:=by
  cases U with
  | nil=>exact absurd rfl hU
  | cons t B=>exact⟨t,B,rfl⟩
 have f:=a0h _ _ r
 have tn:=(f t (by simp)).2
 have e:=a6f (p:=[]) (z:=z) (q:=t) (B:=B) []
 rw[show([]:List Wd)++[[]]=[[]] from rfl,show J8 [[]]=([]:Wd)from rfl,a2e,a2e,a2e]at e
 rw[e]
 refine⟨_,rfl,by simp,fun w hw=>?_,?_⟩
 ·rcases c5.mp hw with rfl | hw
  ·intro q
   rcases j8.mp q with q | q
   ·exact h32 q
   ·exact(f t (by simp)).1 q
  ·exact(f w (by simp[hw])).1
 ·obtain⟨c,hc,h | h⟩:=hk
  ·refine a3C (a9w (c:=c) (v9 _ hc) h.1 h.2 fun q=>?_)
   have:=congrArg P3 q
   rw[j4]at this
   have:=A9.mpr tn
   have:=A9.mpr hz
   simp at *
   omega
  ·subst h
   obtain⟨z1,z2,rfl⟩:=List.append_of_mem hc
   rw[C8,a0l]
   exact a3C (b1X (by simp[tn]))
theorem c5v(r:Run .st U)(hU:U≠[])(hb:(J8 U)[n]? = some 62):∃A B s1,U=A++[62]::B/\(∃a,go8 .st A=some (.gt a)/\s1=Ps.no a)/\Run s1 B/\∀z:Wd,(J8 U).take n++(z++(J8 U).drop (n+1))=J8 (A++z::B):=by
 obtain⟨A,p,q,B,e1,e2,e3⟩:=at8 hU hb (by decide)
 have r0:=r
 rw[e1]at r
 obtain⟨s,s1,h1,h2,r1⟩:=a9c r
 have e:p++62::q=[62]:=by
  rcases a9X h2 with h | h
  ·exact h
  ·exact absurd rfl (b2h (h.2 62 (b4r (by simp) (by decide)))).2.1
 have hp:p=[]/\q=[]:=by
  have:=congrArg P3 e
  rw[j4,j9]at this
  simp at this
  exact⟨P0.mp (by omega),P0.mp (by omega)⟩
 obtain⟨rfl,rfl⟩:=hp
 obtain⟨a,rfl,rfl⟩:=b4z h2
 refine⟨A,B,_,e1,⟨a,h1,rfl⟩,r1,fun z=>?_⟩
 rw[e2,e3,a6f A]
 simp
end
section
variable {G S:List Nat}
def gC(N:Nt)(G:List Nat)(i:Nat):Bool:=decide (N.getD i []=[])||((N.getD i []).map fun t=>decide (t∈G)).any id
def gS(N:Nt)(G:List Nat)(i:Nat):List Nat:=if gC N G i=true then a1x G i else G
def sS(N:Nt)(S:List Nat)(i:Nat):List Nat:=if i∈S then (N.getD i []).foldl a1x S else S
theorem b4g(h:(a1x G i).length=G.length):i∈G:=by
 unfold a1x at h
 split at h
 ·assumption
 ·simp at h
theorem b0p(h:i∈G):a1x G i=G:=b9R h
structure a5f(f:List Nat->Nat->List Nat)(ok:List Nat->Nat->Prop):Prop where
 sub:∀G i,∀x∈G,x∈f G i
 len:∀G i,G.length<=(f G i).length
 eq:∀G i,(f G i).length=G.length->f G i=G/\ok G i
 fix:∀G i,ok G i->f G i=G
theorem a5f.fold{f:List Nat->Nat->List Nat}{ok:List Nat->Nat->Prop}(h:a5f f ok):∀(L:List Nat) (G:List Nat),(∀x∈G,x∈L.foldl f G)/\G.length<=(L.foldl f G).length/\((L.foldl f G).length=G.length->∀i∈L,ok G i)/\((∀i∈L,ok G i)->L.foldl f G=G)
 | [],G=>⟨fun _ h=>h,d9 _,fun _=>by simp,fun _=>rfl⟩
 | a::L,G=>by
  obtain⟨q1,q2,q3,q4⟩:=h.fold L (f G a)
  have l1:=h.len G a
  refine⟨fun x hx=>q1 x (h.sub G a x hx),t5 l1 q2,fun e=>?_,fun e=>?_⟩
  ·have e':(L.foldl f (f G a)).length=G.length:=e
   obtain⟨g1,g2⟩:=h.eq G a (by omega)
   intro i hi
   rcases c5.mp hi with rfl | hi
   ·exact g2
   ·have:=q3 (by omega) i hi
    rwa [g1]at this
  ·have g:=h.fix G a (e a A6)
   show L.foldl f (f G a)=G
   rw[g]at q4 ⊢
   exact q4 fun i hi=>e i (c9 _ hi)
def itr(f:List Nat->List Nat):Nat->List Nat->List Nat
 | 0,G=>G
 | n+1,G=>f (itr f n G)
theorem a5f.all{f:List Nat->Nat->List Nat}{ok:List Nat->Nat->Prop}(h:a5f f ok)(B:List Nat->Prop)(hB:∀G,B G->G.length<=n)(hf:∀G,B G->G.length=n->∀i,i<n->ok G i)(hk:∀G,B G->B ((l6 n).foldl f G))(hG:B G):∀i,i<n->ok (itr (fun G=>(l6 n).foldl f G) n G) i:=by
 have main:∀t,B (itr (fun G=>(l6 n).foldl f G) t G)/\((∀i,i<n->ok (itr (fun G=>(l6 n).foldl f G) t G) i)\/t<=(itr (fun G=>(l6 n).foldl f G) t G).length):=by
  intro t
  induction t with
  | zero=>exact⟨hG,.inr (K6 _)⟩
  | succ t ih=>
   obtain⟨b,ih⟩:=ih
   refine⟨hk _ b,?_⟩
   obtain⟨q1,q2,q3,q4⟩:=h.fold (l6 n) (itr (fun G=>(l6 n).foldl f G) t G)
   rcases ih with c | c
   ·have:=q4 fun i hi=>c i (E5.mp hi)
    left
    show ∀i,i<n->ok ((l6 n).foldl f _) i
    rw[this]
    exact c
   ·by_cases e:((l6 n).foldl f (itr (fun G=>(l6 n).foldl f G) t G)).length=(itr (fun G=>(l6 n).foldl f G) t G).length
    ·have c':=q3 e
     have:=q4 c'
     left
     show ∀i,i<n->ok ((l6 n).foldl f _) i
     rw[this]
     exact fun i hi=>c' i (E5.mpr hi)
    ·right
     show t+1<=((l6 n).foldl f _).length
     omega
 obtain⟨b,m⟩:=main n
 rcases m with c | c
 ·exact c
 ·exact hf _ b (Nat.le_antisymm (hB _ b) c)
theorem c7P(N:Nt):a5f (gS N) (fun G i=>gC N G i=true->i∈G):=by
 refine⟨fun G i x hx=>?_,fun G i=>?_,fun G i e=>?_,fun G i e=>?_⟩
 ·unfold gS
  split
  ·exact W6.mpr (.inl hx)
  ·exact hx
 ·unfold gS
  split
  ·exact b3j
  ·exact d9 _
 ·unfold gS at e ⊢
  split at e
  ·rename_i c
   have:=b4g e
   rw[if_pos c,b0p this]
   exact⟨rfl,fun _=>this⟩
  ·rename_i c
   rw[if_neg c]
   exact⟨rfl,fun z=>absurd z c⟩
 ·unfold gS
  split
  ·rename_i c
   exact b0p (e c)
  ·rfl
theorem a5Z(l S:List Nat):(∀x∈S,x∈l.foldl a1x S)/\S.length<=(l.foldl a1x S).length/\((l.foldl a1x S).length=S.length->∀x∈l,x∈S)/\((∀x∈l,x∈S)->l.foldl a1x S=S):=by
 have:a5f a1x (fun S i=>i∈S):=⟨fun S i x hx=>W6.mpr (.inl hx),fun S i=>b3j,fun S i e=>⟨b0p (b4g e),b4g e⟩,fun S i e=>b0p e⟩
 exact this.fold l S
theorem b9J(N:Nt):a5f (sS N) (fun S i=>i∈S->∀x∈N.getD i [],x∈S):=by
 refine⟨fun S i x hx=>?_,fun S i=>?_,fun S i e=>?_,fun S i e=>?_⟩
 ·unfold sS
  split
  ·exact(a5Z _ S).1 x hx
  ·exact hx
 ·unfold sS
  split
  ·exact(a5Z _ S).2.1
  ·exact d9 _
 ·unfold sS at e ⊢
  split at e
  ·rename_i c
   have:=(a5Z _ S).2.2.1 e
   rw[if_pos c]
   exact⟨(a5Z _ S).2.2.2 this,fun _=>this⟩
  ·rename_i c
   rw[if_neg c]
   exact⟨rfl,fun z=>absurd z c⟩
 ·unfold sS
  split
  ·rename_i c
   exact(a5Z _ S).2.2.2 (e c)
  ·rfl
def Bnd(P:Nat->Prop)(n:Nat)(G:List Nat):Prop:=G.Nodup/\(∀x∈G,x<n)/\∀x∈G,P x
theorem Bnd.len{P:Nat->Prop}(h:Bnd P n G):G.length<=n:=a8s _ _ h.1 h.2.1
theorem Bnd.put{P:Nat->Prop}(h:Bnd P n G)(hi:i<n)(hp:P i):Bnd P n (a1x G i):=⟨a8r h.1,fun x hx=>(W6.mp hx).elim (h.2.1 x) fun z=>z ▸ hi,fun x hx=>(W6.mp hx).elim (h.2.2 x) fun z=>z ▸ hp⟩
theorem Bnd.full{P:Nat->Prop}(h:Bnd P n G)(e:G.length=n)(hi:i<n):i∈G:=by
 by_cases q:i∈G
 ·exact q
 ·have:=a8s n (i::G) (Z0.mpr ⟨q,h.1⟩) fun x hx=>(c5.mp hx).elim (fun z=>z ▸ hi) (h.2.1 x)
  rw[j9]at this
  omega
theorem b1S(h:i<N.length):N[i]? = some (N.getD i []):=by
 simp[M5,h]
theorem d2D(hi:i<N.length)(h:∀x∈G,Gd N x)(c:gC N G i=true):Gd N i:=by
 unfold gC at c
 rw[L4]at c
 rcases c with c | c
 ·exact .stop (by rw[b1S hi,of_decide_eq_true c])
 ·obtain⟨t,h1,h2⟩:=c5x c
  exact .step (b1S hi) h1 (h t h2)
theorem d0W(hi:i<N.length)(h:Bnd (Gd N) N.length G):Bnd (Gd N) N.length (gS N G i):=by
 unfold gS
 split
 ·rename_i c
  exact h.put hi (d2D hi h.2.2 c)
 ·exact h
theorem c9p(hlt:∀l∈N,∀t∈l,t<N.length)(hi:i<N.length)(h:Bnd (Rc N) N.length S):Bnd (Rc N) N.length (sS N S i):=by
 unfold sS
 split
 ·rename_i c
  have go:∀(l S:List Nat),(∀t∈l,t<N.length/\Rc N t)->Bnd (Rc N) N.length S->Bnd (Rc N) N.length (l.foldl a1x S):=by
   intro l
   induction l with
   | nil=>exact fun S _ h=>h
   | cons a r ih=>exact fun S hl hS=>ih _ (fun t ht=>hl t (c9 _ ht)) (hS.put (hl a A6).1 (hl a A6).2)
  have e:=b1S hi
  exact go _ S (fun t ht=>⟨hlt _ (mI e) t ht,.step (h.2.2 i c) e ht⟩) h
 ·exact h
theorem b1T{f:List Nat->Nat->List Nat}{P:Nat->Prop}(hf:∀G i,i<n->Bnd P n G->Bnd P n (f G i)):∀(L:List Nat) (G:List Nat),(∀i∈L,i<n)->Bnd P n G->Bnd P n (L.foldl f G)
 | [],_,_,h=>h
 | a::L,G,hl,h=>b1T hf L (f G a) (fun i hi=>hl i (c9 _ hi)) (hf G a (hl a A6) h)
def gT(N:Nt)(G:List Nat):List Nat:=(l6 N.length).foldl (gS N) G
def sT(N:Nt)(S:List Nat):List Nat:=(l6 N.length).foldl (sS N) S
theorem d0V(n:Nat)(hn:n=N.length):∀k,k<N.length->(k∈itr (gT N) n []↔Gd N k):=by
 subst hn
 have b0:Bnd (Gd N) N.length []:=⟨by simp,by simp,by simp⟩
 have hk:∀G,Bnd (Gd N) N.length G->Bnd (Gd N) N.length (gT N G):=fun G h=>b1T (fun G i hi h=>d0W hi h) _ G (fun i hi=>E5.mp hi) h
 have bn:∀t,Bnd (Gd N) N.length (itr (gT N) t []):=fun t=>by
  induction t with
  | zero=>exact b0
  | succ t ih=>exact hk _ ih
 have cl:=(c7P N).all (Bnd (Gd N) N.length) (fun G h=>h.len) (fun G h e i hi _=>h.full e hi) hk b0
 intro k hk'
 refine⟨(bn _).2.2 k,fun h=>?_⟩
 induction h with
 | @stop k h=>
  refine cl k hk' ?_
  unfold gC
  rw[L4]
  refine .inl (d4M ?_)
  simp[M5,h]
 | @step k t l h ht hg ih=>
  refine cl k hk' ?_
  unfold gC
  rw[L4]
  refine .inr (a5z.mpr ⟨true,y7.mpr ⟨t,?_,d4M (ih ?_)⟩,rfl⟩)
  ·simp[M5,h];exact ht
  ·cases hg with
   | stop q=>exact(gI q)
   | step q _ _=>exact(gI q)
theorem c9o(h0:0<N.length)(hlt:∀l∈N,∀t∈l,t<N.length)(n:Nat)(hn:n=N.length):∀k,k<N.length->(k∈itr (sT N) n [0]↔Rc N k):=by
 subst hn
 have b0:Bnd (Rc N) N.length [0]:=⟨by simp,fun x hx=>by rw[g8.mp hx];exact h0,fun x hx=>by rw[g8.mp hx];exact .zero⟩
 have hk:∀S,Bnd (Rc N) N.length S->Bnd (Rc N) N.length (sT N S):=fun S h=>b1T (fun S i hi h=>c9p hlt hi h) _ S (fun i hi=>E5.mp hi) h
 have bn:∀t,Bnd (Rc N) N.length (itr (sT N) t [0])/\0∈itr (sT N) t [0]:=fun t=>by
  induction t with
  | zero=>exact⟨b0,by simp[itr]⟩
  | succ t ih=>exact⟨hk _ ih.1,((b9J N).fold _ _).1 0 ih.2⟩
 have cl:=(b9J N).all (Bnd (Rc N) N.length) (fun S h=>h.len) (fun S h e i hi _ x hx=>h.full e (hlt _ (mI (b1S hi)) x hx)) hk b0
 intro k hk'
 refine⟨(bn _).1.2.2 k,fun h=>?_⟩
 have go:∀k,Rc N k->k∈itr (sT N) N.length [0]/\k<N.length:=by
  intro k h
  induction h with
  | zero=>exact⟨(bn _).2,h0⟩
  | @step k t l _ h ht ih=>
   have e:=b1S ih.2
   rw[h]at e
   refine⟨cl k ih.2 ih.1 t ?_,hlt l (mI h) t ht⟩
   rw[<-Option.some.inj e]
   exact ht
 exact(go k h).1
end
def a2Y:Wd->List Wd
 | []=>[[]]
 | c::r=>if c=32 then []::a2Y r else match a2Y r with
  | []=>[[c]]
  | w::ws=>(c::w)::ws
def b8w(l:List Wd):List Nat:=match l.dropWhile (fun w=>decide (w≠[62]))with
 | []=>[]
 | _::r=>r.map a1c
def c6v(U:List Wd):Bool:=match go8 .st U with
 | some e=>acc e
 | none=>false
section
variable {T:Str}{A:List Wd}{X:Wd}{c:Nat}{L:List (List Wd)}
theorem c8B(h:Run .st U):c6v U=true:=by
 obtain⟨e,h1,h2⟩:=h
 unfold c6v
 rw[h1]
 exact h2
theorem a3j:a2Y (c::X)=if c=32 then []::a2Y X else match a2Y X with | []=>[[c]] | w::ws=>(c::w)::ws:=rfl
theorem b0l:∀(X:Wd),a2Y X≠[]
 | []=>by simp[a2Y]
 | c::r=>by
  rw[a3j]
  split
  ·simp
  ·split <;> simp
theorem b5J:∀(w:Wd),32∉w->a2Y (w++32::X)=w::a2Y X
 | [],_=>by rw[a2e,a3j,if_pos rfl]
 | c::w,h=>by
  rw[a0l,a3j,if_neg (fun z=>h (by rw[z];simp)),b5J w fun z=>h (c9 _ z)]
theorem b5I:∀(w:Wd),32∉w->a2Y w=[w]
 | [],_=>rfl
 | c::w,h=>by
  rw[a3j,if_neg (fun z=>h (by rw[z];simp)),b5I w fun z=>h (c9 _ z)]
theorem c3s:∀(U:List Wd),U≠[]->(∀w∈U,32∉w)->a2Y (J8 U)=U
 | [],h,_=>absurd rfl h
 | [w],_,h=>b5I w (h w (by simp))
 | w::v::r,_,h=>by
  show a2Y (w++32::J8 (v::r))=_
  rw[b5J w (h w (by simp)),c3s (v::r) (by simp) fun x hx=>h x (c9 _ hx)]
theorem b9g:∀(X:Wd),J8 (a2Y X)=X
 | []=>rfl
 | c::r=>by
  rw[a3j]
  split
  ·rename_i e
   rw[a0x (b0l r),b9g r,e]
   rfl
  ·have ih:=b9g r
   cases hs:a2Y r with
   | nil=>exact absurd hs (b0l r)
   | cons w ws=>
    rw[hs]at ih
    dsimp only
    cases ws with
    | nil=>rw[<-ih];rfl
    | cons v r'=>rw[<-ih];rfl
theorem b3a:∀(X:Wd),∀w∈a2Y X,32∉w
 | [],w,h=>by rw[g8.mp h];simp
 | c::r,w,h=>by
  have ih:=b3a r
  rw[a3j]at h
  split at h
  ·rcases c5.mp h with e | e
   ·rw[e];simp
   ·exact ih w e
  ·rename_i hc
   cases hs:a2Y r with
   | nil=>exact absurd hs (b0l r)
   | cons v vs=>
    rw[hs]at h ih
    dsimp only at h
    rcases c5.mp h with e | e
    ·rw[e]
     intro z
     rcases c5.mp z with z | z
     ·exact hc z.symm
     ·exact ih v (by simp) z
    ·exact ih w (c9 _ e)
theorem w62(h:a2W v)(n:v≠.str ">"):w8 v≠[62]:=by
 rcases h with ⟨s,rfl,_⟩ | ⟨m,rfl,_⟩
 ·intro e
  refine n (congrArg V.str ?_)
  have e:s.cps.toList=[62]:=e
  apply Str.ext'
  apply c8r.mp
  rw[e]
  decide +kernel
 ·intro e
  have:=a4u (m:=m) (c:=62) (by show 62∈w8 (.int (m:Int));rw[e];simp)
  omega
theorem d0x(hw:∀v∈ws,w8 v≠[62]):b8w (ln8 ws l)=l:=by
 rw[b6z]
 unfold b8w
 have hd:∀(R:List Wd),(ws.map w8++R).dropWhile (fun w=>decide (w≠[62]))=R.dropWhile (fun w=>decide (w≠[62])):=by
  intro R
  induction ws with
  | nil=>rfl
  | cons v r ih=>
   rw[C6,a0l,a8K,if_pos (d4M (hw v (by simp)))]
   exact ih fun x hx=>hw x (c9 _ hx)
 rw[hd]
 by_cases hl:l=[]
 ·subst hl
  rw[if_pos rfl]
  rfl
 ·rw[if_neg hl,a8K,if_neg (by decide)]
  show(l.map fun(n:Nat)=>w8 (.int (n:Int))).map a1c=l
  rw[G6]
  conv=>rhs;rw[<-c2I l]
  refine a0j fun n _=>?_
  show a1c (w8 (.int (n:Int)))=n
  rw[b9V]
  exact a5w n
theorem c4Z(h:a1m T):∃L N,L≠[]/\(∀l∈L,b7g l/\∀w∈l,fl8 w=false)/\sg T=J8 (a1I L)/\a0c N/\L.map b8w=N/\(Txt.split T "; ").map sg=L.map J8:=by
 obtain⟨H,rs,Ws,N,W,lr,ak,hv,rfl⟩:=h
 have hpos:=hv.pos
 have each:∀i,i<N.length->(b7g (ln8 (Ws.getD i []) (N.getD i []))/\∀w∈ln8 (Ws.getD i []) (N.getD i []),fl8 w=false)/\b8w (ln8 (Ws.getD i []) (N.getD i []))=N.getD i []:=fun i hi=>by
  obtain⟨xs,_,hw⟩:=W.at_ i _ (b9 (by omega))
  obtain⟨k,r,e1,e2⟩:=ak i hi
  obtain⟨v1,v2⟩:=a3s hv hi
  obtain⟨w1,_,w3⟩:=a3E hw v1 v2
  obtain⟨wd,_,_,wgt⟩:=hw.words
  have fl:∀w∈ln8 (Ws.getD i []) (N.getD i []),fl8 w=false:=fun w hw'=>by
   obtain⟨v,hv',rfl⟩:=y7.mp hw'
   cases e:fl8 (w8 v)with
   | false=>rfl
   | true=>
    obtain⟨u,hu⟩:=b1U e
    exact absurd (show 59∈(wT v).cps.toList by show 59∈w8 v;rw[hu];simp) (a7Q (w1 v hv')).2.1
  have rn:=c4N hw e1 v1 e2
  have ne:ln8 (Ws.getD i []) (N.getD i [])≠[]:=by unfold ln8;simpa using w3
  exact⟨⟨⟨ne,rn,b1e _ _ ne rn fl⟩,fl⟩,d0x fun v hv'=>w62 (wd v hv') (wgt v hv')⟩
 refine⟨c1O Ws N,N,?_,fun l hl=>?_,?_,hv,?_,?_⟩
 ·intro z
  have:=congrArg P3 z
  unfold c1O at this
  rw[a9,O2,a0B]at this
  omega
 ·obtain⟨i,hi,rfl⟩:=y7.mp hl
  exact(each i (E5.mp hi)).1
 ·rw[d1I]
  refine b2i _ fun l hl=>?_
  obtain⟨i,hi,rfl⟩:=y7.mp hl
  exact(each i (E5.mp hi)).1.1.1
 ·unfold c1O
  rw[G6]
  refine List.ext_getElem? fun i=>?_
  rw[c8]
  by_cases hi:i<N.length
  ·rw[a1H hi,a6x hi]
   exact congrArg some (each i hi).2
  ·rw[c2A (by simpa using hi),c2A (by omega)]
   rfl
 ·rw[a4K W lr hv]
  unfold G7 c1O
  rw[G6,G6]
  exact a0j fun i _=>c8M _
theorem a1y(h:a1m T):∃L N,L≠[]/\(∀l∈L,b7g l/\∀w∈l,fl8 w=false)/\a2Y (sg T)=a1I L/\sg T=J8 (a1I L)/\Run .st (a1I L)/\a1I L≠[]/\a7j (a1I L)=L/\a0c N/\L.map b8w=N:=by
 obtain⟨L,N,h1,h2,h3,h4,h5,_⟩:=c4Z h
 have rn:=b3Z L h1 fun l hl=>(h2 l hl).1
 have ne:=b0g h1 fun l hl=>(h2 l hl).1.1
 exact⟨L,N,h1,h2,by rw[h3];exact c3s _ ne fun w hw=>(a0h _ _ rn w hw).1,h3,rn,ne,b3K L fun l hl=>⟨(h2 l hl).1.1,(h2 l hl).2⟩,h4,h5⟩
theorem a6d(h:a6G (sg T)):¬a1m T:=fun g=>by
 obtain⟨L,N,_,_,_,h3,rn,ne,_⟩:=a1y g
 obtain⟨U,e,hne,h32,nr⟩:=h
 rw[h3]at e
 have:=b9i ne hne (fun w hw=>(a0h _ _ rn w hw).1) h32 e
 rw[this]at rn
 exact nr rn
def c8a(T:Str):Bool := !c6v (a2Y (sg T))||(let M:=(a7j (a2Y (sg T))).map b8w; !(M.all fun l=>l.all fun t=>decide (t<M.length))||(l6 M.length).any fun k => !decide (k∈itr (gT M) M.length []) || !decide (k∈itr (sT M) M.length [0]))
theorem c0v(h:c8a T=true):¬a1m T:=fun g=>by
 obtain⟨L,N,h1,h2,h3,h4,rn,ne,h5,hv,h6⟩:=a1y g
 unfold c8a at h
 rw[h3,c8B rn,h5,h6]at h
 simp only[Bool.not_true,b7p,L4]at h
 rcases h with h | h
 ·rw[a0V]at h
  have:(N.all fun l=>l.all fun t=>decide (t<N.length))=true:=p9.mpr fun l hl=>p9.mpr fun t ht=>d4M (hv.lt l hl t ht)
  rw[this]at h
  cases h
 ·obtain⟨k,hk,h⟩:=a5z.mp h
  have hk:=E5.mp hk
  rw[L4,a0V,a0V]at h
  rcases h with h | h
  ·exact of_decide_eq_false h ((d0V N.length rfl k hk).mpr (hv.gd k hk))
  ·exact of_decide_eq_false h ((c9o hv.pos hv.lt N.length rfl k hk).mpr (hv.rc k hk))
theorem c5A:∀(L M:List (List Wd)),L≠[]->M≠[]->T8 (L++M)=T8 L++59::32::T8 M
 | [],_,h,_=>absurd rfl h
 | [l],M,_,hM=>by
  cases M with
  | nil=>exact absurd rfl hM
  | cons m r=>rfl
 | l::l2::r,M,_,hM=>by
  show J8 l++59::32::T8 (l2::r++M)=(J8 l++59::32::T8 (l2::r))++59::32::T8 M
  rw[c5A (l2::r) M (by simp) hM,C8]
  rfl
theorem b1M{T':Str}(hL:L≠[])(h:∀l∈L,b7g l/\∀w∈l,fl8 w=false)(e:sg T'=T8 L)(g:a1m T'):a0c (L.map b8w):=by
 obtain⟨L',N',_,_,h3,h4,rn,ne,h5,hv,h6⟩:=a1y g
 have ne2:=b0g hL fun l hl=>(h l hl).1.1
 have rn2:=b3Z L hL fun l hl=>(h l hl).1
 rw[b2i L fun l hl=>(h l hl).1.1,h4]at e
 have:=b9i ne ne2 (fun w hw=>(a0h _ _ rn w hw).1) (fun w hw=>(a0h _ _ rn2 w hw).1) e
 have e5:a7j (a1I L)=L:=b3K L fun l hl=>⟨(h l hl).1.1,(h l hl).2⟩
 rw[<-e5,<-this,h5,h6]
 exact hv
theorem c3e(hv:a0c N):¬a0c (N++N):=fun v2=>by
 have hp:=hv.pos
 have go:∀k,Rc (N++N) k->k<N.length:=by
  intro k h
  induction h with
  | zero=>exact hp
  | @step k t l _ hl ht ih=>
   rw[F8 ih]at hl
   exact hv.lt l (mI hl) t ht
 have:=go N.length (v2.rc N.length (by rw[j4];omega))
 omega
end
section
variable {K:Fg}{c:Cn}{q R X:Addr}{E:XK}
def Th(v:V):Prop:=(∃n,v=.int n)\/∃s,v=.str s/\s.length<=100000
theorem Th.ty(h:Th v):Ty H v:=by
 rcases h with ⟨n,rfl⟩ | ⟨s,rfl,hs⟩
 ·exact⟨⟨_,rfl⟩,fun z e=>by cases e⟩
 ·exact⟨⟨_,rfl⟩,fun z e=>by cases e;exact hs⟩
theorem Th.notup(h:Th v):∃s,J9 v H=some s/\a4c s "tuple" = false:=by
 rcases h with ⟨n,rfl⟩ | ⟨s,rfl,hs⟩
 ·exact⟨_,rfl,by decide⟩
 ·exact⟨_,rfl,by decide⟩
theorem Th.flat(h:Th v):K8 v=true:=by
 rcases h with ⟨n,rfl⟩ | ⟨s,rfl,hs⟩ <;> rfl
theorem b6G{n:Int}(hp:H p=some (.tup (.int n::r)))(k:∀H',t7 H H'->Q (.bl false) H'):a0r K c [.ref p] H Q E:=by
 refine⟨rfl,?_⟩
 unfold a5J
 nofun
 exists Z7 (s := "tuple") (by simp only[J9,hp]) (by decide) ?_
 exists v7 (by decide) ?_
 exists a0v hp ?_
 exists v7 (d4L (by intro z;have:=V.int.inj z;rw[j9]at this;omega)) ?_
 nofun
 exists Z6 hp (a3g _ _) ?_
 nofun
 exists c3U hp (b1E _ _) fun q G hq e s=>?_
 nofun
 exists v7 (d4L fun z=>by cases z) ?_
 nofun
 exists v7 (d4L fun z=>by cases z) ?_
 nofun
 exists v7 (d4L fun z=>by cases z) ?_
 nofun
 refine D9 (by simp) fun q2 G2 hq2 e2 s2=>?_
 exists b1r e2 rfl rfl ?_
 exists v7 rfl ?_
 refine v7 (d4L fun z=>by cases z) ?_
 exact k G2 (s.trans s2)
theorem c1U{n:Int}{a b:V}(ck:a4y K c)(hp:H p=some (.tup [.int n,a,b]))(k:∀H',t7 H H'->Q (.bl false) H'):a0G K c [.ref p] H Q E:=by
 refine⟨rfl,?_⟩
 unfold a4p
 nofun
 exists Z7 (s := "tuple") (by simp only[J9,hp]) (by decide) ?_
 exists v7 (by decide) ?_
 exists a0v hp ?_
 exists v7 (by simp) ?_
 exists Z6 hp (a3g _ _) ?_
 refine⟨_,_,rfl,ck.a5h H,rfl,rfl,?_⟩
 refine⟨_,rfl,v7 rfl ?_⟩
 exact k H (t7.refl _)
theorem b4q(h:nmB v=true):∃s,v=.str s/\NmS s:=by
 cases v with
 | str z=>
  have h:a1F z=true:=h
  refine⟨z,rfl,h,?_⟩
  unfold a1F at h
  simp only[l9,decide_eq_true_eq]at h
  exact h.1.1.2
 | _=>cases h
theorem b6g(h:opB v=true):OpN v:=by
 unfold opB at h
 rw[L4]at h
 rcases h with h | h
 ·obtain⟨s,rfl,hs⟩:=b4q h
  exact .inl ⟨s,rfl,hs⟩
 ·cases v with
  | int n=>
   have h:(decide (0<=n)&&decide (n<1000000000000))=true:=h
   rw[l9,decide_eq_true_eq,decide_eq_true_eq]at h
   exact .inr ⟨n,rfl,h.1,h.2⟩
  | _=>cases h
theorem d2z{k:Str}(h:kdB k=true):k∈a5p:=by
 unfold kdB at h
 simp only[inV,O7,b0A,eqV,a5r,L4,beq_iff_eq]at h
 simp only[a5p,c5,p8,or_false]
 rcases h with h | h | h | h | h
 ·exact .inl h.symm
 ·exact .inr (.inl h.symm)
 ·exact .inr (.inr (.inl h.symm))
 ·exact .inr (.inr (.inr (.inl h.symm)))
 ·exact .inr (.inr (.inr (.inr h.symm)))
def RwA(H:Hp)(p:Addr):Prop:=(∃ts,H p=some (.tup ts)/\∀t∈ts,Th t)\/∃q t0 t1 t2 t3 t4,H p=some (.tup [t0,t1,.ref q])/\H q=some (.tup [t2,t3,t4])/\Th t0/\Th t1/\Th t2/\Th t3/\Th t4
theorem RwA.ts(h:RwA H p)(t:a0o H H'):RwA H' p:=by
 rcases h with ⟨ts,h1,h2⟩ | ⟨q,t0,t1,t2,t3,t4,h1,h2,h3⟩
 ·exact .inl ⟨ts,t _ _ h1,h2⟩
 ·exact .inr ⟨q,t0,t1,t2,t3,t4,t _ _ h1,t _ _ h2,h3⟩
theorem b4a{k:Str}{db:Bool}(h:a2R k r db=true)(hd:∀a d,r=[a,d]->k = "set" -> db=true->∃q,d=.ref q/\a8F H q):a9C H (.str k::r):=by
 unfold a2R at h
 split at h
 ·rename_i k1
  subst k1
  split at h
  ·rw[l9]at h
   obtain⟨s,rfl,hs⟩:=b4q h.1
   obtain⟨q,rfl,hq⟩:=hd _ _ rfl rfl h.2
   exact .set s q hs hq
  ·cases h
 ·split at h
  ·rename_i k2
   subst k2
   split at h
   ·rw[l9]at h
    obtain⟨s,rfl,hs⟩:=b4q h.1
    exact .copy s _ hs (b6g h.2)
   ·cases h
  ·split at h
   ·rename_i k3
    subst k3
    split at h
    ·obtain⟨s,rfl,hs⟩:=b4q h
     exact .take s hs
    ·cases h
   ·split at h
    ·rename_i k4
     split at h
     ·simp only[inV,O7,b0A,eqV,a5r,L4,beq_iff_eq]at k4
      rcases k4 with rfl | rfl
      ·exact .tell _ (b6g h)
      ·exact .ask _ (b6g h)
     ·cases h
    ·rw[l9,decide_eq_true_eq,decide_eq_true_eq]at h
     obtain⟨rfl,h2⟩:=h
     rw[P0.mp h2]
     exact .skip
theorem RwA.tells(ck:a4y K c)(h:RwA H p):∃b,a0K K c H (.ref p) b/\(b=true->∃a,a5u H (.ref p) a):=by
 rcases h with ⟨ts,h1,h2⟩ | ⟨q,t0,t1,t2,t3,t4,h1,h2,o0,o1,o2,o3,o4⟩
 ·cases ts with
  | nil=>exact⟨false,fun H' Q E s k=>b8J (s _ _ h1) (k H' (t7.refl _)),fun z=>by cases z⟩
  | cons t0 r=>
   rcases h2 t0 (by simp)with ⟨n,rfl⟩ | ⟨k0,rfl,_⟩
   ·exact⟨false,fun H' Q E s k=>b6G (s _ _ h1) k,fun z=>by cases z⟩
   ·refine⟨a2R k0 r false,fun H' Q E s k=>b1P (db:=false) (s _ _ h1) (fun a ha=>(h2 a (c9 _ ha)).ty) (fun a d e _ _ H2 Q2 E2 s2 k2=>?_) k,fun z=>⟨_,p,_,rfl,h1,b4a (db:=false) z (fun _ _ _ _ z=>by cases z),k0,r,rfl,rfl⟩⟩
    obtain⟨s,g1,g2⟩:=(h2 d (by rw[e];simp)).notup (H:=H2)
    exact b8L g1 g2 (k2 H2 (t7.refl _))
 ·rcases o0 with ⟨n,rfl⟩ | ⟨k0,rfl,_⟩
  ·exact⟨false,fun H' Q E s k=>b6G (s _ _ h1) k,fun z=>by cases z⟩
  ·have ty:∀H',t7 H H'->∀a∈[t1,V.ref q],Ty H' a:=fun H' s a ha=>by
    rcases c5.mp ha with rfl | ha
    ·exact o1.ty
    ·rw[g8.mp ha];exact⟨⟨"tuple",by simp only[J9,s _ _ h2]⟩,fun z e=>by cases e⟩
   rcases o2 with ⟨n,rfl⟩ | ⟨kd,rfl,_⟩
   ·refine⟨a2R k0 [t1,.ref q] false,fun H' Q E s k=>b1P (db:=false) (s _ _ h1) (ty H' s) (fun a d e _ _ H2 Q2 E2 s2 k2=>?_) k,fun z=>⟨_,p,_,rfl,h1,b4a (db:=false) z (fun _ _ _ _ z=>by cases z),k0,_,rfl,rfl⟩⟩
    cases e
    exact c1U ck (s2 _ _ (s _ _ h2)) k2
   ·refine⟨a2R k0 [t1,.ref q] (kdB kd&&(opB t3&&opB t4)),fun H' Q E s k=>b1P (s _ _ h1) (ty H' s) (fun a d e _ _ H2 Q2 E2 s2 k2=>?_) k,fun z=>⟨_,p,_,rfl,h1,b4a z (fun a d e _ w=>?_),k0,_,rfl,rfl⟩⟩
    ·cases e
     exact c1T ck (s2 _ _ (s _ _ h2)) o3.ty o4.ty k2
    ·cases e
     rw[l9,l9]at w
     exact⟨q,rfl,kd,t3,t4,h2,b6g w.2.1,b6g w.2.2,d2z w.1⟩
theorem a6a:∀(bs:List Bool),(∀b∈bs,b=true)\/∃k:Nat,bs[k]? = some false/\∀i,i<k->bs[i]? = some true
 | []=>.inl (by simp)
 | b::bs=>by
  cases b with
  | false=>exact .inr ⟨0,rfl,fun i hi=>by omega⟩
  | true=>
   rcases a6a bs with h | ⟨k,h1,h2⟩
   ·exact .inl fun b hb=>(c5.mp hb).elim id (h b)
   ·refine .inr ⟨k+1,h1,fun i hi=>?_⟩
    cases i with
    | zero=>rfl
    | succ i=>exact h2 i (by omega)
theorem b3k(P:Nat->Prop):∀n,(∀k,k<n->P k)\/∃k,k<n/\¬P k/\∀i,i<k->P i
 | 0=>.inl fun k h=>by omega
 | n+1=>by
  rcases b3k P n with h | ⟨k,h1,h2,h3⟩
  ·by_cases q:P n
   ·exact .inl fun k hk=>by
     by_cases e:k=n
     ·rw[e];exact q
     ·exact h k (by omega)
   ·exact .inr ⟨n,by omega,q,h⟩
  ·exact .inr ⟨k,by omega,h2,h3⟩
theorem d0z{a:Bool}(h:nxB a m xs=true):∃l:List Nat,xs=IL l/\(l.length == 2)=a/\l.length<=2/\∀t∈l,t<m:=by
 unfold nxB at h
 rw[l9]at h
 have hl:∃l:List Nat,xs=IL l/\∀t∈l,t<m:=by
  have h2:=h.2
  clear h
  induction xs with
  | nil=>exact⟨[],rfl,by simp⟩
  | cons x r ih=>
   rw[a0L,l9]at h2
   obtain⟨l,rfl,hl⟩:=ih h2.2
   cases x with
   | int n=>
    have h3:(decide (0<=n)&&decide (n<(m:Int)))=true:=h2.1
    rw[l9,decide_eq_true_eq,decide_eq_true_eq]at h3
    refine⟨n.toNat::l,?_,fun t ht=>?_⟩
    ·show _=V.int ((n.toNat:Nat):Int)::IL l
     rw[a9L h3.1]
    ·rcases c5.mp ht with rfl | ht
     ·omega
     ·exact hl t ht
   | _=>cases h2.1
 obtain⟨l,rfl,hl⟩:=hl
 refine⟨l,rfl,?_⟩
 have h1:=h.1
 rw[Q0]at h1
 cases a with
 | true=>
  have h1:inV (.int (l.length:Int)) [.int 2]=true:=h1
  simp only[inV,O7,b0A,eqV,a5r,beq_iff_eq]at h1
  have:l.length=2:=by omega
  exact⟨by rw[this];rfl,by omega,hl⟩
 | false=>
  have h1:inV (.int (l.length:Int)) [.int 0,.int 1]=true:=h1
  simp only[inV,O7,b0A,eqV,a5r,L4,beq_iff_eq]at h1
  have:l.length≠2:=by omega
  exact⟨beq_eq_false_iff_ne.mpr this,by omega,hl⟩
theorem c4g(ck:a4y K c){Xs:List (List V)}(hR:H R=some (.lst (rs.map V.ref)))(hX:H X=some (.lst (as.map V.ref)))(l1:as.length=rs.length)(l0:1<=rs.length)(lx:Xs.length=rs.length)(hr:∀p∈rs,RwA H p)(ha:∀(i:Nat) q xs,as[i]? = some q->Xs[i]? = some xs->H q=some (.lst xs)/\(∀t∈xs,Th t)/\xs.length<100000) :
  (∃N,R4 H R N/\F9 H X N/\a0c N)\/∃j n,j<4/\∀(x:Addr) (H':Hp) (Q:VK) (E:XK),t7 H H'->(∀H'',t7 H' H''->Rz c.x j n H'' E)->Y3 K c c.x [.ref x,.ref R,.ref X] H' Q E:=by
 by_cases h400:400<rs.length
 ·exact .inr ⟨3,400,by decide,fun x H' Q E s k=>b6f fun Q=>b4t ck.xn (s _ _ hR) (by rw[a9];omega) (by rw[a9];exact h400) (k H' (t7.refl _))⟩
 have hb:∃bs:List Bool,bs.length=rs.length/\∀(i:Nat) p b,rs[i]? = some p->bs[i]? = some b->a0K K c H (.ref p) b/\(b=true->∃a,a5u H (.ref p) a):=by
  clear hR hX l1 l0 lx ha h400
  induction rs with
  | nil=>exact⟨[],rfl,by simp⟩
  | cons p r ih=>
   obtain⟨bs,e1,e2⟩:=ih fun q hq=>hr q (c9 _ hq)
   obtain⟨b,h1⟩:=(hr p (by simp)).tells ck
   refine⟨b::bs,by rw[j9,e1,j9],fun i q b' f1 f2=>?_⟩
   cases i with
   | zero=>cases f1;cases f2;exact h1
   | succ i=>exact e2 i q b' f1 f2
 obtain⟨bs,b1,b2⟩:=hb
 rcases a6a bs with al | ⟨k,k1,k2⟩
 rotate_left
 ·refine .inr ⟨1,(k:Int),by decide,fun x H' Q E s r=>b8h ck.xn (s _ _ hR) (by rw[a9];exact b1) (by rw[a9];exact l0) (by rw[a9];omega) (fun i v b f1 f2=>?_) k1 k2 r⟩
  rw[c8]at f1
  obtain⟨p,y1,rfl⟩:=z7.mp f1
  exact((b2 i p b y1 f2).1).same s
 have rn:∀(i:Nat) p,rs[i]? = some p->a0K K c H (.ref p) true/\∃a,a5u H (.ref p) a:=fun i p e=>by
  have hi:=(gI e)
  have eb:bs[i]? = some bs[i]:=b9 (by omega)
  have q:=b2 i p _ e eb
  rw[al _ (mI eb)]at q
  exact⟨q.1,q.2 rfl⟩
 have rt:∀v∈rs.map V.ref,a0K K c H v true:=fun v hv=>by
  obtain⟨p,hp,rfl⟩:=y7.mp hv
  obtain⟨i,hi⟩:=F4.mp hp
  exact(rn i p hi).1
 have hn:∃ns:List Bool,ns.length=rs.length/\∀(i:Nat) p xs b,rs[i]? = some p->Xs[i]? = some xs->ns[i]? = some b->∃a,a5u H (.ref p) a/\b=nxB a rs.length xs:=by
  have go:∀(n:Nat),n<=rs.length->∃ns:List Bool,ns.length=n/\∀(i:Nat) p xs b,rs[i]? = some p->Xs[i]? = some xs->ns[i]? = some b->∃a,a5u H (.ref p) a/\b=nxB a rs.length xs:=by
   intro n
   induction n with
   | zero=>exact fun _=>⟨[],rfl,by simp⟩
   | succ n ih=>
    intro hn
    obtain⟨ns,e1,e2⟩:=ih (by omega)
    obtain⟨_,a,ra⟩:=rn n _ (b9 (by omega))
    refine⟨ns++[nxB a rs.length (Xs.getD n [])],by simp[e1],fun i p xs b f1 f2 f3=>?_⟩
    rcases a0g f3 with ⟨_,f3⟩ | ⟨hi,rfl⟩
    ·exact e2 i p xs b f1 f2 f3
    ·rw[e1]at hi
     subst hi
     rw[b9 (by omega)]at f1
     cases f1
     refine⟨a,ra,?_⟩
     simp[M5,f2]
  exact go rs.length (d9 _)
 obtain⟨ns,n1,n2⟩:=hn
 rcases a6a ns with aln | ⟨k,k1,k2⟩
 rotate_left
 ·refine .inr ⟨1,(k:Int),by decide,fun x H' Q E s r=>b6e (s _ _ hR) (by rw[a9];exact l0) (by rw[a9];omega) (fun v hv=>(rt v hv).same s) fun H2 Q2 s2=>b6s ck.xn (s2 _ _ (s _ _ hR)) (s2 _ _ (s _ _ hX)) (by rw[a9,a9];exact l1) (by rw[a9];exact n1) (by rw[a9];omega) (fun i rv v b f1 f2 f3=>?_) k1 k2 fun H3 s3=>r H3 (s2.trans s3)⟩
  rw[c8]at f1 f2
  obtain⟨p,y1,rfl⟩:=z7.mp f1
  obtain⟨q,y2,rfl⟩:=z7.mp f2
  have hi:=(gI y1)
  have ex:Xs[i]? = some Xs[i]:=b9 (by omega)
  obtain⟨a,ra,rfl⟩:=n2 i p _ b y1 ex f3
  obtain⟨g1,g2,g3⟩:=ha i q _ y2 ex
  rw[a9]
  exact fun H4 Q4 E4 s4 k4=>d2L (ra.ts (t7.ts ((s.trans s2).trans s4))) (((s.trans s2).trans s4) _ _ g1) g3 (fun y hy=>(g2 y hy).ty) k4
 have hN:∃N:List (List Nat),N.length=rs.length/\∀(i:Nat) p xs l,rs[i]? = some p->Xs[i]? = some xs->N[i]? = some l->xs=IL l/\a5u H (.ref p) (l.length == 2)/\l.length<=2/\∀t∈l,t<rs.length:=by
  have go:∀(n:Nat),n<=rs.length->∃N:List (List Nat),N.length=n/\∀(i:Nat) p xs l,rs[i]? = some p->Xs[i]? = some xs->N[i]? = some l->xs=IL l/\a5u H (.ref p) (l.length == 2)/\l.length<=2/\∀t∈l,t<rs.length:=by
   intro n
   induction n with
   | zero=>exact fun _=>⟨[],rfl,by simp⟩
   | succ n ih=>
    intro hn
    obtain⟨N,e1,e2⟩:=ih (by omega)
    have ep:rs[n]? = some rs[n]:=b9 (by omega)
    have ex:Xs[n]? = some Xs[n]:=b9 (by omega)
    have en:ns[n]? = some ns[n]:=b9 (by omega)
    obtain⟨a,ra,hb⟩:=n2 n _ _ _ ep ex en
    rw[aln _ (mI en)]at hb
    obtain⟨l,g1,g2,g3,g4⟩:=d0z hb.symm
    refine⟨N++[l],by simp[e1],fun i p xs l' f1 f2 f3=>?_⟩
    rcases a0g f3 with ⟨_,f3⟩ | ⟨hi,rfl⟩
    ·exact e2 i p xs l' f1 f2 f3
    ·rw[e1]at hi
     subst hi
     rw[ep]at f1
     rw[ex]at f2
     cases f1
     cases f2
     exact⟨g1,by rw[g2];exact ra,g3,g4⟩
  exact go rs.length (d9 _)
 obtain⟨N,m1,m2⟩:=hN
 have each:∀(i:Nat) l,N[i]? = some l->∃p q,rs[i]? = some p/\as[i]? = some q/\H q=some (.lst (IL l))/\a5u H (.ref p) (l.length == 2)/\l.length<=2/\∀t∈l,t<rs.length:=fun i l e=>by
  have hi:=(gI e)
  have ep:rs[i]? = some rs[i]:=b9 (by omega)
  have ea:as[i]? = some as[i]:=b9 (by omega)
  have ex:Xs[i]? = some Xs[i]:=b9 (by omega)
  obtain⟨g1,g2,g3,g4⟩:=m2 i _ _ l ep ex e
  obtain⟨h1,_⟩:=ha i _ _ ea ex
  rw[g1]at h1
  exact⟨_,_,ep,ea,h1,g2,g3,g4⟩
 have r1:R4 H R N:=⟨rs,hR,m1.symm,fun i p l e1 e2=>by
  obtain⟨p',q',f1,_,_,f2,_⟩:=each i l e2
  rw[e1]at f1
  cases f1
  exact f2⟩
 have x1:F9 H X N:=⟨as,hX,by omega,fun i q l e1 e2=>by
  obtain⟨p',q',_,f1,f2,_⟩:=each i l e2
  rw[e1]at f1
  cases f1
  exact f2⟩
 have two:∀l∈N,l.length<=2:=fun l hl=>by
  obtain⟨i,hi⟩:=F4.mp hl
  obtain⟨_,_,_,_,_,_,g,_⟩:=each i l hi
  exact g
 have lt:∀l∈N,∀t∈l,t<N.length:=fun l hl=>by
  obtain⟨i,hi⟩:=F4.mp hl
  obtain⟨_,_,_,_,_,_,_,g⟩:=each i l hi
  rw[m1]
  exact g
 rcases b3k (fun k=>Rc N k/\Gd N k) N.length with h | ⟨k,h1,h2,h3⟩
 ·exact .inl ⟨N,r1,x1,by omega,by omega,two,lt,fun k hk=>(h k hk).1,fun k hk=>(h k hk).2⟩
 ·exact .inr ⟨2,(k:Int),by decide,fun x H' Q E s r=>b8g ck (r1.same s) (x1.same s) (by omega) (by omega) two lt fun H2 Q2 s2=>d1G ck.xn ((x1.same s).same s2) (by omega) (by omega) two lt h1 h2 h3 fun H3 s3=>r H3 (s2.trans s3)⟩
end
section
variable {K:Fg}{c:Cn}{q:Addr}{E:XK}
theorem c1a{w:Str}(hw:w.length<=100000)(k:∀v H',t7 H H'->Th v->Q v H'):a0D K [.str w] H Q E:=by
 have hz:=small hw
 have hl:w.cps.toList.length=w.length:=z9
 refine⟨rfl,?_⟩
 unfold a7c
 nofun
 exists a4T hz ?_
 by_cases h0:0<w.length
 case neg=>
  exists v7 (d4L (by omega)) ?_
  exists v7 rfl ?_
  exists v7 rfl ?_
  exact k _ H (t7.refl _) (.inr ⟨w,rfl,hw⟩)
 exists A8 (d4M (by omega)) ?_
 refine .inr (.inl ⟨_,rfl,by decide,?_⟩)
 ext
 exists a4T (by rw[c0t];exact small (by decide)) ?_
 rw[c0t]
 by_cases h13:w.length<=13
 case neg=>
  rw[d4L (show ¬((w.length:Int)<=(13:Nat)) by omega)]
  exists v7 rfl ?_
  exists v7 rfl ?_
  exact k _ H (t7.refl _) (.inr ⟨w,rfl,hw⟩)
 rw[d4M (show((w.length:Int)<=(13:Nat)) by omega)]
 exists A8 rfl ?_
 specialize T7 (b7V ?_)
 refine⟨w,rfl,fun D hD=>?_⟩
 refine b1Y (fun i ys H2=>ys=(w.cps.toList.take i).map (fun c=>V.bl (sgn FIG c))/\H2=upd H D (.lst ys)) ⟨by simp,rfl⟩ ?_ ?_ ?_
 ·rintro i ys _ ⟨_,rfl⟩
  exact c7
 ·rintro i c ys _ hc ⟨rfl,rfl⟩ R R' hR hR'
  have hc':w.cps.toList[i]? = some c:=by rw[O3];exact hc
  ext
  exists b1O ?_
  refine b1s (S:=FIG) ?_
  refine hR (.bl (sgn FIG c)) _ c7 (K0 ?_) ⟨?_,?_⟩
  ·rw[a9,E1];omega
  ·rw[C7,hc'];simp
  ·rw[a6k]
 ·rintro ys _ ⟨rfl,rfl⟩
  ext
  have eb:R7 ((w.cps.toList.take w.length).map (fun c=>V.bl (sgn FIG c)))=some ((w.cps.toList.take w.length).map (sgn FIG)):=by
   generalize w.cps.toList.take w.length=l
   induction l with
   | nil=>rfl
   | cons a r ih=>simp[R7,ih]
  refine(show a8n [.ref D] _ _ from ?_)
  unfold a8n
  simp only[c7]
  refine⟨_,eb,?_⟩
  rw[w6 (by omega)]
  refine⟨_,rfl,?_⟩
  have s1:=u0 (o:=.lst (w.cps.toList.map (fun c=>V.bl (sgn FIG c)))) hD
  refine Y8 (fun e=>?_) (fun e=>?_)
  ·ext
   have had:PySem.NumText.AllDigits w.cps.toList:=fun z hz=>by
    have fr:∀c∈FIG.cps.toList,48<=c/\c<=57:=by decide +kernel
    rw[a6D,p9]at e
    have z1:sgn FIG z=true:=e z hz
    rw[show sgn FIG z=decide (z∈FIG.cps.toList)from G8 FIG z]at z1
    exact fr z (of_decide_eq_true z1)
   have hne:w.cps.toList≠[]:=fun z=>by rw[z]at hl;simp at hl;omega
   exact⟨_,_,rfl,c2v had hne (by omega),by omega,k _ _ s1 (.inl ⟨_,rfl⟩)⟩
  ·ext
   exact k _ _ s1 (.inr ⟨w,rfl,hw⟩)
theorem b8a(hd:H D=some (.lst xs))(h:∀t∈xs,Th t)(k:∀q H',RwA H' q->t7 H H'->Q (.ref q) H'):a4r K [.ref D] H Q E:=by
 refine⟨rfl,?_⟩
 unfold b0U
 nofun
 exists K5 hd ?_
 by_cases h5:xs.length=5
 ·refine A8 (d4M (by rw[h5];rfl)) ?_
  obtain⟨t0,t1,t2,t3,t4,rfl⟩:∃t0 t1 t2 t3 t4,xs=[t0,t1,t2,t3,t4]:=match xs,h5 with | [t0,t1,t2,t3,t4],_=>⟨t0,t1,t2,t3,t4,rfl⟩
  ext
  exists M4 hd (a3g _ _) ?_
  exists M4 hd (a8B _ _ _) ?_
  refine b9O hd fun q1 H1 hq1 e1 s1=>?_
  have e1:H1 q1=some (.lst [t2,t3,t4]):=e1
  ext
  refine(show a2s [.ref q1] H1 _ from ?_)
  unfold a2s
  simp only[e1]
  intro q2 hq2
  have s2:=u0 (o:=.tup [t2,t3,t4]) hq2
  have e2:upd H1 q2 (.tup [t2,t3,t4]) q2=some (.tup [t2,t3,t4]):=c7
  generalize upd H1 q2 (.tup [t2,t3,t4])=H2 at s2 e2
  ext
  refine D9 (by simp) fun q H4 _ e4 s4=>?_
  exact k q H4 (.inr ⟨q2,t0,t1,t2,t3,t4,e4,s4 _ _ e2,h t0 (by simp),h t1 (by simp),h t2 (by simp),h t3 (by simp),h t4 (by simp)⟩) ((s1.trans s2).trans s4)
 ·exists v7 (d4L fun z=>h5 (by have:=V.int.inj z;omega)) ?_
  refine(show a2s [.ref D] H _ from ?_)
  unfold a2s
  simp only[hd]
  intro q hq
  exact k q _ (.inl ⟨xs,c7,h⟩) (u0 hq)
theorem b3l{y:Str}:∀(ls:List Str),∀l∈ls,l.length<=(Str.join y ls).length
 | [],l,h=>by cases h
 | [a],l,h=>by rw[g8.mp h];exact d9 _
 | a::b::r,l,h=>by
  have e:(Str.join y (a::b::r)).length=a.length+y.length+(Str.join y (b::r)).length:=by
   show(a++y++Str.join y (b::r)).length=_
   rw[Str.length_append,Str.length_append]
  rw[e]
  rcases c5.mp h with rfl | h
  ·omega
  ·have:=b3l (y:=y) (b::r) l h
   omega
theorem b0Z{x p:Str}(h:p∈Txt.split x y):p.length<=x.length:=by
 have:=b3l (y:=y) _ p h
 rwa [PySem.StrLaws.join_split]at this
theorem b5E(x y:Str):Txt.split x y≠[]:=by
 unfold Txt.split
 split
 ·simp
 ·split
  ·simp
  ·rw[PySem.StrLaws.partsBetween_eq]
   unfold PySem.StrLaws.partsFrom
   split <;> simp
theorem c8N:∀(xs:List V),(∀t∈xs,Th t)->(inV (.str ">") xs=false)\/(inV (.str ">") xs=true/\∃j:Nat,xs[j]? = some (.str ">")/\∀i y,i<j->xs[i]? = some y->eqV y (.str ">")=false)
 | [],_=>.inl rfl
 | t::r,h=>by
  have e:inV (.str ">") (t::r)=(eqV t (.str ">")||inV (.str ">") r):=by
   unfold inV
   rw[O7]
  rw[e]
  cases ht:eqV t (.str ">")with
  | true=>
   refine .inr ⟨rfl,0,?_,fun i y hi=>by omega⟩
   rcases h t (by simp)with ⟨n,rfl⟩ | ⟨s,rfl,_⟩
   ·cases ht
   ·have ht:(s == (">" : Str))=true:=ht
    rw[eq_of_beq ht]
    rfl
  | false=>
   rcases c8N r fun x hx=>h x (c9 _ hx)with g | ⟨g,j,g1,g2⟩
   ·exact .inl (by rw[g];rfl)
   ·refine .inr ⟨by rw[g];rfl,j+1,g1,fun i y hi hy=>?_⟩
    cases i with
    | zero=>cases hy;exact ht
    | succ i=>exact g2 i y (by omega) hy
theorem b9s(h:∀t∈xs,Th t):xs.all K8=true:=p9.mpr fun t ht=>(h t ht).flat
end
section
variable {K:Fg}{c:Cn}{T:Str}{E:XK}
theorem c5j{t:V}(h:t∈a1J xs lo hi):t∈xs:=List.mem_of_mem_drop (List.mem_of_mem_take h)
theorem d0Z(xs:List V)(lo hi:Option Int):(a1J xs lo hi).length<=xs.length:=by
 unfold a1J
 rw[E1,X3]
 omega
theorem b7B{w:Str}(hi:σ[i]? = some (some (.str w)))(hw:w.length<=90000)(k:∀T H' xs,H T=none->H' T=some (.lst xs)->(∀t∈xs,Th t)->xs.length<100000->t7 H H'->Q (.ref T) H') :
  T5 (a0b K (tBM K "str" a7r (b5 i) (a8 (tC (.str " ")) (d6)))) (U4) (u8 (a0D K) [] E0 (a8 (b5 0) (d6))) σ H Q:=by
 refine T7 (Z5 ?_)
 exact_mod_cast b5X ?_
 exact_mod_cast a9P hi ?_
 exists ⟨rfl,?_⟩
 refine⟨_,_,rfl,rfl,by omega,by decide +kernel,fun L hL=>?_⟩
 have ll:=a6l w " "
 have lp:∀p∈Txt.split w " ",p.length<=w.length:=fun p hp=>b0Z hp
 generalize Txt.split w " " = ps at ll lp
 have eL:upd H L (.lst (ps.map V.str)) L=some (.lst (ps.map V.str)):=c7
 have sL:t7 H (upd H L (.lst (ps.map V.str))):=u0 hL
 generalize upd H L (.lst (ps.map V.str))=H1 at eL sL
 refine⟨L,rfl,⟨_,SqL.of eL⟩,fun T hT=>?_⟩
 refine W8 (xs:=ps.map V.str) (fun i ys H2=>ys.length=i/\(∀t∈ys,Th t)/\H2 T=some (.lst ys)/\t7 H1 H2) ⟨rfl,by simp,c7,u0 hT⟩ ?_ ?_ ?_ ?_
 ·rintro i ys H2 ⟨_,_,h,_⟩
  exact h
 ·rintro i ys H2 _ ⟨_,_,_,s2⟩
  exact SqL.of (s2 _ _ eL)
 ·rintro i v ys H2 hx ⟨ly,hy,hT2,s2⟩ R hR
  rw[c8]at hx
  obtain⟨p,hp,rfl⟩:=z7.mp hx
  have hi:=(gI hp)
  have:=lp p (mI hp)
  ext
  refine c1a (by omega) fun v H4 s4 tv=>?_
  refine hR _ _ (s4 _ _ hT2) (K0 (by omega)) ⟨by simp[ly],fun t ht=>?_,c7,fun b o eb=>?_⟩
  ·rcases j8.mp ht with z | z
   ·exact hy t z
   ·rw[g8.mp z];exact tv
  ·have:=(s2.trans s4) b o eb
   rw[g7 (c6 eb hT)];exact this
 ·rintro ys H2 ⟨ly,hy,hT2,s2⟩
  rw[a9]at ly
  exact k T H2 ys (sL.free hT) hT2 hy (by omega) (sL.trans s2)
theorem b6d(ck:a4y K c)(hT:T.length<=90000)(k:∀v H',t7 H H'->(v=.non\/∃x rs N Ws,v=.ref x/\PlF c H' x rs N/\rs.length=N.length/\a1l H' rs Ws/\c2u Ws N/\a0c N)->Q v H'):a2q K c [.str T] H Q E:=by
 refine⟨rfl,?_⟩
 unfold a8R
 nofun
 exists D9 (by simp) fun R G1 hR eR sR=>?_
 nofun
 exists D9 (by simp) fun X G2 hX eX sX=>?_
 exact_mod_cast a0X ?_
 exact_mod_cast a2n (Z5 ?_)
 specialize b5X ?_
 exists ⟨rfl,?_⟩
 refine⟨_,_,rfl,rfl,by omega,by decide +kernel,fun L hL=>?_⟩
 have ll:=a6l T "; "
 have lp:∀p∈Txt.split T "; ",p.length<=T.length:=fun p hp=>b0Z hp
 have ln:=b5E T "; "
 generalize Txt.split T "; " = ps at ll lp ln
 have s02:t7 H G2:=sR.trans sX
 have nRX:R≠X:=c6 eR hX
 have eL:upd G2 L (.lst (ps.map V.str)) L=some (.lst (ps.map V.str)):=c7
 have sL:t7 G2 (upd G2 L (.lst (ps.map V.str))):=u0 hL
 have nRL:R≠L:=c6 (sX _ _ eR) hL
 have nXL:X≠L:=c6 eX hL
 generalize upd G2 L (.lst (ps.map V.str))=G3 at eL sL
 refine⟨L,rfl,⟨_,SqL.of eL⟩,a5Y (xs:=ps.map V.str) (fun i σ H2=>∃x3 x4 x5 rs as Xs,σ=[some (.str T),some (.ref R),some (.ref X),x3,x4,x5]/\H2 R=some (.lst ((rs:List Addr).map V.ref))/\H2 X=some (.lst ((as:List Addr).map V.ref))/\rs.length=i/\as.length=i/\(Xs:List (List V)).length=i/\H2 L=some (.lst (ps.map V.str))/\t7 H H2 /\
  (∀q∈rs,RwA H2 q)/\∀(j:Nat) q xs,as[j]? = some q->Xs[j]? = some xs->(H2 q=some (.lst xs)/\(∀t∈xs,Th t)/\xs.length<100000)/\q≠R/\q≠X) ⟨_,_,_,[],[],[],rfl,sL _ _ (sX _ _ eR),sL _ _ eX,rfl,rfl,rfl,eL,s02.trans sL,by simp,fun j q xs h=>by simp at h⟩ ?_ ?_ ?_⟩
 ·rintro i σ H2 _ ⟨_,_,_,_,_,_,_,_,_,_,_,_,h,_⟩
  exact SqL.of h
 ·rintro i v _ H2 hx ⟨x3,x4,x5,rs,as,Xs,rfl,r2,a2,lr2,la2,lx2,L2',s2,hrs,has⟩
  rw[c8]at hx
  obtain⟨w,hw,rfl⟩:=z7.mp hx
  have hi:=(gI hw)
  have lw:=lp w (mI hw)
  ext
  exact_mod_cast a0X ?_
  refine(show(T5 _ _ _:TE) _ H2 _ from ?_)
  refine b7B (H:=H2) rfl (by omega) fun D H3 xs hD eD hxs lxs s3=>?_
  exact_mod_cast a0n (P:=fun σ H4=>∃e:Nat,σ=[some (.str T),some (.ref R),some (.ref X),some (.str w),some (.ref D),some (.int (e:Int))]/\H4=H3) ?_ ?_
  rotate_left
  ·intro nx hnx
   ext
   exists c8F eD rfl (b9s hxs) ?_
   rcases c8N xs hxs with g | ⟨g,j,g1,g2⟩
   ·exists v7 g ?_
    exists K5 eD ?_
    exact hnx _ _ ⟨xs.length,rfl,rfl⟩
   ·refine A8 g ?_
    specialize a6E ?_
    exists ⟨.inl ⟨rfl,_,SqL.of eD⟩,?_⟩
    exists ⟨D,">",_,j,rfl,rfl,eD,b9s hxs,by omega,g1,g2,?_⟩
    exact hnx _ _ ⟨j,rfl,rfl⟩
  rintro _ _ ⟨e,rfl,rfl⟩
  rename_i H3
  nofun
  specialize a6E ?_
  exists ⟨.inl ⟨rfl,_,SqL.of (s3 _ _ r2)⟩,?_⟩
  exists b9O eD fun c1 H4 hc1 e4 s4=>?_
  refine b8a e4 (fun t ht=>hxs t (c5j ht)) fun q H5 rq s5=>?_
  have s25:=(s3.trans s4).trans s5
  ext
  exists a2a (s25 _ _ r2) (K0 (by rw[a9];omega)) ?_
  specialize a6E ?_
  have aX:upd H5 R (.lst (rs.map V.ref++[.ref q])) X=some (.lst (as.map V.ref)):=by rw[g7 nRX.symm];exact s25 _ _ a2
  refine⟨.inl ⟨rfl,_,SqL.of aX⟩,?_⟩
  have hDR:D≠R:=(c6 r2 hD).symm
  have eD6:upd H5 R (.lst (rs.map V.ref++[.ref q])) D=some (.lst xs):=by rw[g7 hDR];exact s5 _ _ (s4 _ _ eD)
  ext
  refine b9O eD6 fun c2 H6 hc2 e6 s6=>?_
  have hR6:upd H5 R (.lst (rs.map V.ref++[.ref q])) R=some (.lst (rs.map V.ref++[.ref q])):=c7
  have nc2R:c2≠R:=(c6 hR6 hc2).symm
  have nc2X:c2≠X:=(c6 aX hc2).symm
  ext
  refine a2a (s6 _ _ aX) (K0 (by rw[a9];omega)) ?_
  have keep5:∀b o,b≠R->b≠X->H5 b=some o->upd H6 X (.lst (as.map V.ref++[.ref c2])) b=some o:=fun b o n1 n2 e5=>by
   rw[g7 n2]
   refine s6 _ _ ?_
   rw[g7 n1]
   exact e5
  have keep:∀b o,b≠R->b≠X->H2 b=some o->upd H6 X (.lst (as.map V.ref++[.ref c2])) b=some o:=fun b o n1 n2 e=>keep5 b o n1 n2 (s25 b o e)
  have tsame5:a0o H5 (upd H6 X (.lst (as.map V.ref++[.ref c2]))):=fun b zs e=>keep5 b _ (R1 e (s25 _ _ r2) (by intro z;cases z)) (R1 e (s25 _ _ a2) (by intro z;cases z)) e
  refine⟨_,_,_,rs++[q],as++[c2],Xs++[a1J xs (some ((e:Int)+1)) none],rfl,?_,?_,by simp[lr2],by simp[la2],by simp[lx2],keep L _ nRL.symm nXL.symm L2',fun b o eb=>?_,fun z hz=>?_,fun j z zs f1 f2=>?_⟩
  ·rw[g7 nRX,s6 _ _ hR6];simp
  ·rw[c7];simp
  ·exact keep b o (c6 eb hR) (c6 (sR _ _ eb) hX) (s2 b o eb)
  ·rcases j8.mp hz with z1 | z1
   ·exact((hrs z z1).ts (t7.ts s25)).ts tsame5
   ·rw[g8.mp z1];exact rq.ts tsame5
  ·rcases a0g f1 with ⟨j1,g1⟩ | ⟨j1,g1⟩
   ·rcases a0g f2 with ⟨j2,g2⟩ | ⟨j2,g2⟩
    ·obtain⟨⟨y1,y2,y3⟩,y4,y5⟩:=has j z zs g1 g2
     exact⟨⟨keep z _ y4 y5 y1,y2,y3⟩,y4,y5⟩
    ·omega
   ·rcases a0g f2 with ⟨j2,g2⟩ | ⟨j2,g2⟩
    ·omega
    ·subst g1 g2
     refine⟨⟨?_,fun t ht=>hxs t (c5j ht),b0e (d0Z _ _ _) lxs⟩,nc2R,nc2X⟩
     rw[g7 nc2X]
     exact e6
 ·rintro _ H2 ⟨x3,x4,x5,rs,as,Xs,rfl,r2,a2,lr2,la2,lx2,L2',s2,hrs,has⟩
  rw[a9]at lr2 la2 lx2
  have lps:=A9.mpr ln
  unfold b5A b0X
  ext
  intro y dy hy hdy hne
  have sm:t7 H2 (upd (upd H2 dy (.own y)) y (.ins c.S9 dy [])):=fun b o e=>by
   rw[g7 (c6 e hy),g7 (c6 e hdy)];exact e
  rcases c4g ck r2 a2 (by omega) (by omega) (by omega) hrs (fun i q xs f1 f2=>(has i q xs f1 f2).1)with ⟨N,hR2,hN2,hv⟩ | ⟨j,n,hj,h⟩
  ·refine .inl (a4W ck (sm _ _ r2) (hR2.same sm) (hN2.same sm) hv c7 fun H' pz old=>⟨rfl,?_⟩)
   have s2':t7 H2 H':=fun b o e=>old b o (sm b o e) (c6 e hy)
   obtain⟨dx,r,n,e,es,ns,p1,⟨_,p2⟩,p3,p4,p5,_⟩:=pz.ex
   obtain⟨rs',f1,f2,f3⟩:=hR2.ex
   rw[r2]at f1
   have erf:rs'=rs:=by
    have:=HO.lst.inj (Option.some.inj f1)
    exact(a4h (fun a b h=>V.ref.inj h)).mp this |>.symm
   subst erf
   obtain⟨Ws,W⟩:=b1l (H:=H2) (rs:=rs') fun p hp=>by
    obtain⟨i,hi⟩:=F4.mp hp
    have hlt:=(gI hi)
    exact⟨_,f3 i p _ hi (P9 (by omega))⟩
   obtain⟨lr,ak⟩:=c0x hR2 r2 W
   exact k _ H' (s2.trans s2') (.inr ⟨y,rs',N,Ws,rfl,⟨dx,r,n,e,p1,p2,⟨ns,p3,p4,p5⟩⟩,lr,W.ts (t7.ts s2'),ak,hv⟩)
  ·refine .inr (h y _ _ _ sm fun H3 s3=>?_)
   intro d H4 hd s4
   exact⟨c.x.at j,rfl,ck.xn.up j (by omega),fun x' hx'=>k .non H4 (s2.trans ((sm.trans s3).trans s4)) (.inl rfl)⟩
def a6F(H:Hp)(v:V):Prop:=(∃T,v=.str T/\T.length<=90000/\¬a1m T)\/∃s,J9 v H=some s/\a4c s "str" = false
theorem c3S(ck:a4y K c)(h:a6F H v)(k:∀H',t7 H H'->E (.ref c.x.C_NoText) none H'):a5O K c c.x [v] H Q E:=by
 refine⟨rfl,?_⟩
 unfold b9z
 nofun
 rcases h with ⟨T,rfl,hT,ng⟩ | ⟨s,hv,hs⟩
 ·exists Z7 (s := "str") rfl (by decide) ?_
  exists v7 (by decide) ?_
  nofun
  exists b6d ck hT fun v H1 s1 hv=>?_
  nofun
  rcases hv with rfl | ⟨x,rs,N,Ws,rfl,pf,lr,W,ak,vl⟩
  ·exists (show qIs .non .non H1 _ from⟨rfl,?_⟩)
   refine A8 rfl ?_
   refine A8 rfl ?_
   exact k H1 s1
  ·exists (show qIs (.ref x) .non H1 _ from⟨rfl,?_⟩)
   exists v7 rfl ?_
   exists a8b ck pf lr W vl fun H2 s2=>?_
   refine A8 (by rw[d4L fun z=>ng ⟨_,_,_,_,W,lr,ak,vl,(V.str.inj z).symm⟩];rfl) ?_
   exact k H2 (s1.trans s2)
 ·exists Z7 hv (by decide) ?_
  refine A8 (by rw[hs];rfl) ?_
  exact k H (t7.refl _)
theorem d0S(ck:b4T K c.x){x:Addr}{dx:Option Addr}(hj:j<5)(hi:i<5)(hx:b4U dx H)(k:Q (.bl (decide (j=i))) H):qX K x (c.x.at j) dx [.ref x,.ref (c.x.at i)] H Q:=
 ⟨hx,.ref (c.x.at i),.ref (c.x.at i),_,rfl,rfl,ck.kit j i hj hi,fun u r=>r,ck.xi j hj,k⟩
theorem b1m(ck:a4y K c)(h:a6F H v)(k:∀H',t7 H H'->Q (.bl true) H'):a3y K c [v] H Q E:=by
 refine⟨rfl,?_⟩
 unfold b2T
 nofun
 exact_mod_cast a0n (P:=fun σ H2=>∃x2,σ=[some v,some (.bl true),x2]/\t7 H H2) ?_ ?_
 rotate_left
 ·intro nx hnx
  unfold b9x a0a a1Q
  ext
  refine c3S ck h fun H1 s1=>?_
  refine⟨c.x.C_NoText,rfl,ck.xn.up 4 (by decide),fun x hx=>?_⟩
  have hd:b4U none H1:=fun d e=>by cases e
  unfold b0Q
  nofun
  refine D9 (by simp) fun tp H2 htp e2 s2=>?_
  have hd2:b4U none H2:=fun d e=>(by cases e)
  ext
  have ka:c8p K (.ref c.x.C_NoText) ([c.x.C_NoThing,c.x.C_NoWay,c.x.C_TooMany,c.x.C_Wrong].map Value.ref)=some false:=by
   have e1:P6 K (.ref c.x.C_NoText) (.ref c.x.C_NoThing)=some false:=ck.xn.kit 4 1 (by decide) (by decide)
   have e2:P6 K (.ref c.x.C_NoText) (.ref c.x.C_NoWay)=some false:=ck.xn.kit 4 2 (by decide) (by decide)
   have e3:P6 K (.ref c.x.C_NoText) (.ref c.x.C_TooMany)=some false:=ck.xn.kit 4 3 (by decide) (by decide)
   have e4:P6 K (.ref c.x.C_NoText) (.ref c.x.C_Wrong)=some false:=ck.xn.kit 4 0 (by decide) (by decide)
   simp only[C6,a6C,c8p,e1,e2,e3,e4]
  exists (show qXT K x (c.x.at 4) none [.ref x,.ref tp] H2 _ from⟨hd2,tp,[c.x.C_NoThing,c.x.C_NoWay,c.x.C_TooMany,c.x.C_Wrong],false,rfl,e2,ka,ck.xn.xi 4 (by decide),?_⟩)
  exists v7 rfl ?_
  exists d0S (c:=c) (j:=4) (i:=4) ck.xn (by decide) (by decide) hd2 ?_
  exists A8 rfl ?_
  exists (show qX K x (c.x.at 4) none [.ref x,.ty "ValueError"] H2 _ from⟨hd2,.ty "ValueError",.type "ValueError",_,rfl,rfl,ck.xn.ve 4 (by decide),fun u r=>r,ck.xn.xi 4 (by decide),?_⟩)
  exact hnx _ _ ⟨_,rfl,s1.trans s2⟩
 rintro _ H2 ⟨x2,rfl,s2⟩
 ext
 exact k H2 s2
end
section
variable {T:Str}{c:Nat}{L:List (List Wd)}
theorem a8U(z:Str):(sg z).length=z.length:=z9
theorem a4M(x y:Str):sg (x++y)=sg x++sg y:=by
 unfold sg
 rw[Str.cps_append,N4]
theorem c3x{l u:Option Int}{a b:Nat}(z:Str)(e:Builtin.Str.strSliceIndices l u 1 z.length=Builtin.Str.strSliceIndices (some (a:Int)) (some (b:Int)) 1 z.length)(hab:a<=b)(hb:b<=z.length):sg (Txt.slice z l u)=((sg z).drop a).take (b - a):=by
 have hl:=a8U z
 unfold Txt.slice
 rw[e]
 split
 ·rename_i h
  rw[l9,PySem.StrLaws.strSliceIndices_plain hab hb,a9,O2]at h
  have h2:=eq_of_beq h.2
  have ha:a=0:=by omega
  subst ha
  rw[a4j,w6 (by omega)]
 ·exact PySem.StrLaws.sliced_plain z hab hb
theorem c3w{a:Nat}(h:a<=z.length):sg (Txt.slice z none (some (a:Int)))=(sg z).take a:=by
 rw[c3x (a:=0) (b:=a) z (by unfold Builtin.Str.strSliceIndices c8n;rfl) (K6 _) h]
 simp
theorem c3v{a:Nat}(h:a<=z.length):sg (Txt.slice z (some (a:Int)) none)=(sg z).drop a:=by
 have hl:=a8U z
 rw[c3x (a:=a) (b:=z.length) z (by
  have h0:¬((z.length:Int)<0):=by omega
  have h1:max 0 (z.length:Int)=z.length:=by omega
  unfold Builtin.Str.strSliceIndices c8n
  simp[h0,h1]) h (d9 _),w6 (by rw[X3];omega)]
theorem b3b:∀(l:List Wd),(∀w∈l,32∉w)->∀w∈a3B l,32∉w
 | [],_=>by simp[a3B]
 | [a],h=>fun w hw=>by
  have hw:w∈[a++[59]]:=hw
  rw[g8.mp hw]
  have:=h a (by simp)
  simp[this]
 | a::a2::q,h=>fun w hw=>by
  have hw:w∈a::a3B (a2::q):=hw
  rcases c5.mp hw with rfl | h1
  ·exact h w (by simp)
  ·exact b3b (a2::q) (fun x hx=>h x (c9 _ hx)) w h1
theorem b2S:∀(L:List (List Wd)),(∀l∈L,∀w∈l,32∉w)->∀w∈a1I L,32∉w
 | [],_=>by simp[a1I]
 | [l],h=>h l (by simp)
 | l::m::r,h=>fun w hw=>by
  have hw:w∈a3B l++a1I (m::r):=hw
  rcases j8.mp hw with h1 | h1
  ·exact b3b l (h l (by simp)) w h1
  ·exact b2S (m::r) (fun x hx=>h x (c9 _ hx)) w h1
theorem b1R(h:a1m T):∃L:List (List Wd),(Txt.split T "; ").map sg=L.map J8/\L≠[]/\(∀l∈L,b7g l)/\∀s∈Txt.split T "; ",s.length<=120:=by
 obtain⟨L,N',h1,h2,_,_,_,e⟩:=c4Z h
 obtain⟨H,rs,Ws,N,W,lr,ak,hv,rfl⟩:=h
 exact⟨L,e,h1,fun l hl=>(h2 l hl).1,by rw[a4K W lr hv];exact a6u W lr hv⟩
def b9d(o:Str):Bool := !c6v (a2Y (sg o))&&(go8 .st (a3B (a2Y (sg o)))).isNone
theorem c7X{o:Str}(h:a1m T)(hi:i<(Txt.split T "; ").length)(ho:b9d o=true):¬a1m (Txt.join "; " ((Txt.split T "; ").set i o)):=by
 obtain⟨L,e,ne,ok,_⟩:=b1R h
 unfold b9d at ho
 rw[l9,a0V,Option.isNone_iff_eq_none]at ho
 have hlen:=congrArg P3 e
 rw[a9,a9]at hlen
 have hne:∀l∈L.set i (a2Y (sg o)),l≠[]:=fun l hl=>by
  rcases a4B hl with h1 | rfl
  ·exact(ok l h1).1
  ·exact b0l _
 have hsg:sg (Txt.join "; " ((Txt.split T "; ").set i o))=T8 (L.set i (a2Y (sg o))):=b8G _ _ (by rw[d3b,d3b,e,b9g])
 refine a6d ⟨a1I (L.set i (a2Y (sg o))),by rw[hsg,b2i _ hne],b0g (fun z=>?_) hne,b2S _ fun l hl=>?_,b9W L i _ (by omega) ok (fun r=>?_) ho.2⟩
 ·have:=congrArg P3 z
  rw[V5,a0B]at this
  exact ne (P0.mp this)
 ·rcases a4B hl with h1 | rfl
  ·exact fun w hw=>(a0h _ _ (ok l h1).2.1 w hw).1
  ·exact b3a _
 ·rw[c8B r]at ho
  cases ho.1
end
section
variable {K:Fg}{c:Cn}{T:Str}{E:XK}
theorem c9g{ta:TA}(h:ta σ H1 fun vs H2=>∃i j:Int,vs=[.int i,.int j]/\(-(2 ^ 62)<=i/\i<2 ^ 62 /\ -(2 ^ 62)<=j/\j<2 ^ 62)/\R (Itr i (j - i).toNat) H2):c0c ta σ H1 R:=h
theorem c0o(f:Nat->Bool)(lo n:Nat)(hn:n<=5000)(hD:H D=none)
  (htt:∀(t:Nat) H',t<n->t7 H H'->∀R:Bool->Hp->Prop,R (f (lo+t)) H'->tt (some (.int ((lo:Int)+(t:Int)))::σ) H' R)
  (k:∀H' l,H' D=some (.lst (IL l))->l=((l6 n).map (lo + ·)).filter f->t7 H H'->QD H') :
  ∃W:Nat->Nat->List V->Hp->Prop,(∃m,W 0 m [] (upd H D (.lst [])))/\∀i m ys H2,W i m ys H2->H2 D=some (.lst ys) /\
   (((Itr lo n).stop i H2 /\ QD H2) \/ ((Itr lo n).go i H2 /\ ∀ x H3,(Itr lo n).yld i H2 x H3 -> tt (some x :: σ) H3 fun ok H4 => if ok = true then
     b5 0 (some x::σ) H4 (fun y H5=>H5 D=some (.lst ys)/\ys.length<j7/\∃m',m'<m/\W (i+1) m' (ys++[y]) (upd H5 D (.lst (ys++[y]))))
     else ∃m',m'<m/\W (i+1) m' ys H4)):=by
 refine c5o (J:=Itr lo n) n (fun i ys H9=>ys=IL (((l6 i).map (lo + ·)).filter f)/\H9 D=some (.lst ys)/\t7 H H9) ⟨rfl,c7,u0 hD⟩ ?_ ?_ ?_ ?_
 ·rintro i ys H9 ⟨_,h,_⟩
  exact h
 ·rintro ys H9 ⟨rfl,hd,s9⟩
  exact⟨d9 _,k H9 _ hd rfl s9⟩
 ·rintro i ys H9 hi _
  exact hi
 ·rintro i ys H9' hi ⟨rfl,hd,s9⟩ v H9 ⟨rfl,rfl⟩ R S' hR hS
  have tk:((l6 (i+1)).map (lo + ·)).filter f=((l6 i).map (lo + ·)).filter f++if f (lo+i)=true then [lo+i] else []:=by
   rw[a3H,E9,a4i]
   congr 1
   simp only[C6,a6C,List.filter_cons,List.filter_nil]
  refine htt i H9 hi s9 _ ?_
  cases hb:f (lo+i)with
  | false=>
   rw[hb,if_neg (by decide),F0]at tk
   exact v7 rfl (hS _ ⟨by rw[tk],hd,s9⟩)
  | true=>
   rw[hb,if_pos rfl]at tk
   refine A8 rfl ?_
   exact_mod_cast a9P rfl ?_
   have lle:(((l6 i).map (lo + ·)).filter f).length<=i:=by
    have h1:=R8 f ((l6 i).map (lo + ·))
    rw[a9,O2]at h1
    exact h1
   exact hR _ _ hd (K0 (by rw[Q0];omega)) ⟨by rw[tk];simp[IL],c7,fun b o e=>by rw[g7 (c6 e hD)];exact s9 _ _ e⟩
theorem c8C{f:Nat->Bool}{lo a:Nat}(h:a∈((l6 n).map (lo + ·)).filter f):lo<=a/\a<lo+n/\f a=true:=by
 obtain⟨h1,h2⟩:=Z1.mp h
 obtain⟨t,ht,rfl⟩:=y7.mp h1
 have:=E5.mp ht
 exact⟨by omega,by omega,h2⟩
theorem b7I{s:Nat}(h:(sg z)[i]? = some s):atI z.cps.toList (i:Int)=some s:=a2z h
theorem c6f(hB:Bag H b d){s:Nat}(hT:T.length<=3000)(hs:s∈sg T)(k:∀(n:Nat) H',(sg T)[n]? = some s->n<T.length->Bag H' b d->D1 b H H'->Q (.int (n:Int)) H'):a6n K [.ref b,.str T,.str ⟨#[s]⟩] H Q E:=by
 have hl:=a8U T
 refine⟨rfl,?_⟩
 unfold c3j
 exact_mod_cast a0X ?_
 refine c3E ?_
 specialize T7 (a1X ?_)
 exists a4T (small (by omega)) ?_
 refine⟨_,rfl,by omega,by omega,fun D hD=>?_⟩
 rw[E7]
 refine c0o (fun t=>decide ((sg T)[t]? = some s)) 0 T.length (by omega) hD (fun t H1 ht s1 R hR=>?_) fun H1 l hl1 el s1=>?_
 ·obtain⟨y,hy⟩:∃y,(sg T)[t]? = some y:=⟨_,b9 (by omega)⟩
  ext
  refine b1q (c:=y) (small (by omega)) ?_ ?_
  ·rw[show((0:Nat):Int)+(t:Int)=(t:Int) by omega];exact b7I hy
  ext
  refine b1s ?_
  rw[show sgn ⟨#[s]⟩ y=decide (y=s) by
   rw[show sgn ⟨#[s]⟩ y=decide (y∈(⟨#[s]⟩:Str).cps.toList)from G8 _ _]
   simp]
  ext
  rw[Nat.zero_add,hy]at hR
  simpa using hR
 ·ext
  exists K5 hl1 ?_
  have hne:l≠[]:=by
   obtain⟨i,hi⟩:=F4.mp hs
   have:=(gI hi)
   rw[el]
   refine List.ne_nil_of_mem (a:=i) (Z1.mpr ⟨y7.mpr ⟨i,E5.mpr (by omega),by omega⟩,d4M hi⟩)
  have hlp:=A9.mpr hne
  have hln:l.length<=3000:=by
   rw[el]
   have:=R8 (fun t=>decide ((sg T)[t]? = some s)) ((l6 T.length).map (0 + ·))
   rw[a9,O2]at this
   omega
  rw[Q0]
  exists F2 (hB.same s1) (by omega) (by omega) fun n H2 n0 n1 B2 k2=>?_
  obtain⟨a,ha⟩:∃a,l[n.toNat]? = some a:=⟨_,b9 (by omega)⟩
  have hm:=c8C (el ▸ mI ha)
  have e2:=k2.1 _ _ hl1 (hB.nb hD).1
  refine M4 (v:=.int (a:Int)) e2 ?_ ?_
  ·rw[show n=((n.toNat:Nat):Int) by omega]
   exact c5F ha
  exact k a H2 (of_decide_eq_true hm.2.2) (by omega) B2 ((D1.of_same s1).trans k2)
end
section
variable {K:Fg}{c:Cn}{T:Str}{E:XK}
def d2J:V->Bool
 | .str o=>b9d o&&decide (o.length<=60)
 | _=>false
theorem c7Z(h:d2J v=true):∃o,v=.str o/\b9d o=true/\o.length<=60:=by
 cases v with
 | str o=>
  have h:(b9d o&&decide (o.length<=60))=true:=h
  rw[l9,decide_eq_true_eq]at h
  exact⟨o,rfl,h.1,h.2⟩
 | _=>cases h
theorem b7b(hB:Bag H b d)(k:∀o H',b9d o=true->o.length<=60->Bag H' b d->D1 b H H'->Q (.str o) H'):a3M K [.ref b] H Q E:=by
 refine⟨rfl,?_⟩
 unfold b0W
 nofun
 exists D9 (by simp) fun l1 H1 n1 e1 s1=>?_
 nofun
 exists D9 (by simp) fun l2 H2 n2 e2 s2=>?_
 exists a4U (s2 _ _ e1) e2 (D9 (by simp) fun l3 H3 n3 e3 s3=>?_)
 nofun
 exists ⟨_,_,rfl,rfl,by decide,by decide,by decide,by decide,?_⟩
 exists a9e (by decide +kernel) ?_
 exists D9 (by simp) fun l4 H4 n4 e4 s4=>?_
 refine a4U (s4 _ _ e3) e4 (D9 (by simp) fun l5 H5 n5 e5 s5=>?_)
 have s15:=s1.trans (s2.trans (s3.trans (s4.trans s5)))
 ext
 exists K5 e5 ?_
 exists b0q (hB.same s15) e5 (hB.nb (s1.free (s2.free (s3.free (s4.free n5))))).1 (by simp) (by simp) fun n v H6 at6 hv e6 B6 k6=>?_
 have hb:d2J v=true:=by
  refine p9.mp ?_ v hv
  decide +kernel
 obtain⟨o,rfl,o1,o2⟩:=c7Z hb
 exact M4 e6 at6 (k o H6 o1 o2 B6 ((D1.of_same s15).trans k6))
theorem c1d(n:Nat):b7g [sg "skip",[62],w8 (.int (n:Int))]/\∀w∈[sg "skip",[62],w8 (.int (n:Int))],fl8 w=false:=by
 have hn:=nu8 n
 have fl:fl8 (w8 (.int (n:Int)))=false:=b3p (a8q hn)
 have f3:∀w∈[sg "skip",[62],w8 (.int (n:Int))],fl8 w=false:=fun w hw=>by
  simp only[c5,p8,or_false]at hw
  rcases hw with rfl | rfl | rfl
  ·decide +kernel
  ·decide
  ·exact fl
 have rn:Run .st [sg "skip",[62],w8 (.int (n:Int))]:=by
  refine Q9 (s1:=.gt false) (by decide +kernel) (Q9 (s1:=.no false) (by decide) (Q9 (s1:=.fin) ?_ ⟨.fin,rfl,rfl⟩))
  show noS false _=_
  unfold noS
  rw[a7Y fl,hn,fl]
  rfl
 exact⟨⟨by simp,rn,b1e _ _ (by simp) rn f3⟩,f3⟩
def chL:List (List Wd):=((l6 400).map fun i=>[sg "skip",[62],w8 (.int ((i+1:Nat):Int))])++[[sg "skip"]]
theorem d1b(h:sg T=T8 chL):¬a1m T:=fun g=>by
 have hv:=b1M (L:=chL) (by simp[chL]) (fun l hl=>by
  unfold chL at hl
  rcases j8.mp hl with h1 | h1
  ·obtain⟨i,_,rfl⟩:=y7.mp h1
   exact c1d _
  ·rw[g8.mp h1]
   exact⟨⟨by simp,⟨.gt false,by decide +kernel,rfl⟩,by decide +kernel⟩,fun w hw=>by rw[g8.mp hw];decide +kernel⟩) h g
 have:=hv.le
 unfold chL at this
 simp at this
def skT(j:Nat):Str := "skip > " ++ wT (.int ((j+1:Nat):Int))
theorem b9C(h:j<400):(skT j).length<=20:=by
 have h1:=(b4p (m:=j+1) (by omega)).2
 have h2:(("skip > " : Str)).length=7:=by decide +kernel
 unfold skT
 rw[Str.length_append,h2]
 omega
theorem d1J:((l6 400).map skT++[("skip" : Str)]).map sg=chL.map J8:=by
 unfold chL
 rw[E9,E9,G6,G6]
 refine congrArg (· ++ _) (a0j fun j _=>?_)
 show sg (skT j)=sg "skip" ++ 32::([62]++32::w8 _)
 unfold skT
 rw[a4M]
 rw[show sg "skip > " = sg "skip" ++ 32::([62]++[32]) by decide +kernel,C8]
 rfl
theorem c3t:∀l∈(l6 400).map skT++[("skip" : Str)],l.length<=20:=fun l hl=>by
 rcases j8.mp hl with h | h
 ·obtain⟨j,hj,rfl⟩:=y7.mp h
  exact b9C (E5.mp hj)
 ·rw[g8.mp h];decide +kernel
theorem c9a:a6F H (.str (Txt.join "; " ((l6 400).map skT++[("skip" : Str)]))):=by
 refine .inl ⟨_,rfl,?_,d1b (b8G _ _ d1J)⟩
 rw[show Txt.join "; " ((l6 400).map skT++[("skip" : Str)])=Str.join "; " ((l6 400).map skT++[("skip" : Str)])from F7 _ _]
 have h0:=S8 "; " ((l6 400).map skT++[("skip" : Str)])
 have h1:=a6v "; " _ 20 c3t
 have e2:(("; " : Str)).length=2:=by decide +kernel
 have e3:((l6 400).map skT++[("skip" : Str)]).length=401:=by simp
 rw[e2,e3]at h0
 rw[e3]at h1
 omega
def d2I:V->Bool
 | .str o=>c8a o&&decide (o.length<=60)
 | _=>false
theorem c7Y(h:d2I v=true):a6F H v:=by
 cases v with
 | str o=>
  have h:(c8a o&&decide (o.length<=60))=true:=h
  rw[l9,decide_eq_true_eq]at h
  exact .inl ⟨o,rfl,by omega,c0v h.1⟩
 | _=>cases h
theorem b8x(hB:Bag H b d)(k:∀v H',a6F H' v->Bag H' b d->D1 b H H'->Q v H'):a4L K [.ref b] H Q E:=by
 refine⟨rfl,?_⟩
 unfold b2W
 nofun
 exists F2 hB (by decide) (by decide) fun n0 H0 _ _ B0 k0=>?_
 refine Y8 (fun _=>?_) fun _=>?_
 ·ext
  specialize T7 (a1X ?_)
  refine⟨_,rfl,by decide,by decide,fun D hD=>?_⟩
  refine c5o (J:=Itr 0 400) 400 (fun i ys H9=>ys=((l6 i).map skT).map V.str/\H9 D=some (.lst ys)/\t7 H0 H9) ⟨rfl,c7,u0 hD⟩ ?_ ?_ ?_ ?_
  ·rintro i ys H9 ⟨_,h,_⟩
   exact h
  ·rintro ys H9 ⟨rfl,hd,s9⟩
   exists ⟨d9 _,?_⟩
   refine D9 (by simp) fun l1 H1 n1 e1 s1=>?_
   exists a4U (s1 _ _ hd) e1 (D9 (by simp) fun l2 H2 n2 e2 s2=>?_)
   refine b1p (ss:=(l6 400).map skT++[("skip" : Str)]) e2 (a3u ((l6 400).map skT++[("skip" : Str)])) ?_ ?_
   ·have h1:=a6v "; " _ 20 c3t
    have e2:(("; " : Str)).length=2:=by decide +kernel
    have e3:((l6 400).map skT++[("skip" : Str)]).length=401:=by simp
    rw[e2,e3]
    rw[e3]at h1
    omega
   ·have s:=s9.trans (s1.trans s2)
    exact k _ H2 c9a (B0.same s) (k0.trans (D1.of_same s))
  ·rintro i ys H9 hi _
   exact hi
  ·rintro i ys H9' hi ⟨rfl,hd,s9⟩ v H9 ⟨rfl,rfl⟩ R S' hR hS
   ext
   exists A8 rfl ?_
   refine .inr (.inl ⟨_,rfl,by omega,?_⟩)
   ext
   have ee:((0:Int)+(i:Int)+1)=((i+1:Nat):Int):=by omega
   rw[ee]
   refine a9e (small ?_) (hR _ _ hd (K0 (by rw[a9,a9,O2];omega)) ⟨?_,c7,fun b o e=>by rw[g7 (c6 e hD)];exact s9 _ _ e⟩)
   ·have:=b9C hi
    unfold skT at this
    rw[Str.length_append]at this
    exact t5 this (by decide)
   ·rw[a3H,E9,E9];rfl
 ·ext
  nofun
  exists D9 (by simp) fun l1 H1 n1 e1 s1=>?_
  nofun
  exists D9 (by simp) fun l2 H2 n2 e2 s2=>?_
  exists a4U (s2 _ _ e1) e2 (D9 (by simp) fun l3 H3 n3 e3 s3=>?_)
  nofun
  exists D9 (by simp) fun l4 H4 n4 e4 s4=>?_
  refine a4U (s4 _ _ e3) e4 (D9 (by simp) fun l5 H5 n5 e5 s5=>?_)
  have s15:=s1.trans (s2.trans (s3.trans (s4.trans s5)))
  ext
  exists K5 e5 ?_
  exists b0q (B0.same s15) e5 (B0.nb (s1.free (s2.free (s3.free (s4.free n5))))).1 (by simp) (by simp) fun n v H6 at6 hv e6 B6 k6=>?_
  have hb:d2I v=true:=by
   refine p9.mp ?_ v hv
   decide +kernel
  exact M4 e6 at6 (k v H6 (c7Y hb) B6 (k0.trans ((D1.of_same s15).trans k6)))
end
section
variable {K:Fg}{c:Cn}{T m:Str}{E:XK}{a a':Nat}{z:Wd}
theorem c4M(r:Run .st U)(hU:U≠[])(hb:(J8 U)[n]? = some 62)(hz:(32∉z/\z≠[62])\/∃u,z=62::32::u/\32∉u/\u≠[]/\fl8 u=false):a6G ((J8 U).take n++(z++(J8 U).drop (n+1))):=by
 obtain⟨A,B,s1,e,⟨a,g,rfl⟩,rB,eq⟩:=c5v r hU hb
 have fr:∀w∈A++[62]::B,32∉w:=fun w hw=>(a0h _ _ (e ▸ r) w hw).1
 have fA:∀w∈A,32∉w:=fun w hw=>fr w (by simp[hw])
 have fB:∀w∈B,32∉w:=fun w hw=>fr w (by simp[hw])
 rw[eq z]
 rcases hz with ⟨h1,h2⟩ | ⟨u,rfl,h1,h2,h3⟩
 ·refine⟨_,rfl,by simp,fun w hw=>a3c hw fA fun x hx=>?_,a7B g fun rr=>?_⟩
  ·rcases c5.mp hx with rfl | hx
   ·exact h1
   ·exact fB x hx
  ·obtain⟨s2,h,_⟩:=J5 rr
   exact h2 (a0w h).1
 ·refine⟨A++[62]::u::B,b9h (p:=[62]) A,by simp,fun w hw=>a3c hw fA fun x hx=>?_,a7B g (d0A rfl rB ⟨h2,h3⟩)⟩
  rcases c5.mp hx with rfl | hx
  ·decide
  ·rcases c5.mp hx with rfl | hx
   ·exact h1
   ·exact fB x hx
theorem b0u(ha:a<=T.length)(ha':a'<=T.length)(hm:m.length<=100)(hT:T.length<=3000)(h:a6G ((sg T).take a++(sg m++(sg T).drop a'))):a6F H (.str (Txt.slice T none (some (a:Int))++m++Txt.slice T (some (a':Int)) none)):=by
 refine .inl ⟨_,rfl,?_,a6d ?_⟩
 ·have h1:=Txt.slice_le T none (some (a:Int))
  have h2:=Txt.slice_le T (some (a':Int)) none
  rw[Str.length_append,Str.length_append]
  omega
 ·rw[a4M,a4M,c3w ha,c3v ha',C8]
  exact h
theorem c5l(ha:a<=T.length)(ha':a'<=T.length)(hT:T.length<=3000)(h:a6G ((sg T).take a++(sg T).drop a')):a6F H (.str (Txt.slice T none (some (a:Int))++Txt.slice T (some (a':Int)) none)):=by
 refine .inl ⟨_,rfl,?_,a6d ?_⟩
 ·have h1:=Txt.slice_le T none (some (a:Int))
  have h2:=Txt.slice_le T (some (a':Int)) none
  rw[Str.length_append]
  omega
 ·rw[a4M,c3w ha,c3v ha']
  exact h
theorem c4R{t:Wd}(r:Run .st (t::B)):t≠[62]:=fun e=>by
 subst e
 exact b9X (by decide +kernel) r
theorem c0X(g:a1m T)(hm:sg m=59::32::sg T):¬a1m (T++m):=fun g2=>by
 obtain⟨L,N,h1,h2,_,h3,rn,ne,_,hv,h6⟩:=a1y g
 have e:sg T=T8 L:=by rw[b2i L fun l hl=>(h2 l hl).1.1];exact h3
 have:=b1M (L:=L++L) (T':=T++m) (by simp[h1]) (fun l hl=>(j8.mp hl).elim (h2 l) (h2 l)) (by rw[a4M,hm,c5A L L h1 h1,e]) g2
 rw[E9,h6]at this
 exact c3e hv this
theorem c4K(g:a1m T)(hT:T.length<=3000)(h:v∈[V.str "; ",.str ";",.str " ",.str "\n",.str " >",.str " > ",.str ("; " ++ T),.str (" " ++ T)]):∃m:Str,v=.str m/\m.length<=3100/\¬a1m (T++m):=by
 obtain⟨L,N,h1,h2,_,h3,rn,ne,_,hv,h6⟩:=a1y g
 have bd:∀m:Str,a6G (J8 (a1I L)++sg m)->¬a1m (T++m):=fun m h=>a6d (by rw[a4M,h3];exact h)
 have l1:((" " : Str)).length=1:=by decide +kernel
 have l2:(("; " : Str)).length=2:=by decide +kernel
 simp only[c5,p8,or_false]at h
 rcases h with rfl | rfl | rfl | rfl | rfl | rfl | rfl | rfl
 ·exact⟨_,rfl,by decide +kernel,bd _ (c5u rn ne)⟩
 ·exact⟨_,rfl,by decide +kernel,bd _ (c0w (c:=59) rn ne (by decide) (by decide))⟩
 ·exact⟨_,rfl,by decide +kernel,bd _ (b7a (t:=[]) (B:=[]) rn ne (by simp) (by decide))⟩
 ·exact⟨_,rfl,by decide +kernel,bd _ (c0w (c:=10) rn ne (by decide) (by decide))⟩
 ·exact⟨_,rfl,by decide +kernel,bd _ (c5w (B:=[]) rn ne (.inl rfl))⟩
 ·exact⟨_,rfl,by decide +kernel,bd _ (c5w (B:=[[]]) rn ne (.inr rfl))⟩
 ·exact⟨_,rfl,by rw[Str.length_append];omega,c0X g (by rw[a4M];rfl)⟩
 ·refine⟨_,rfl,by rw[Str.length_append];omega,bd _ ?_⟩
  rw[a4M,h3]
  cases hU:a1I L with
  | nil=>exact absurd hU ne
  | cons t B=>
   have rn':=rn
   rw[hU]at rn'
   exact b7a (t:=t) (B:=B) rn' (by simp) (fun w hw=>(a0h _ _ rn' w hw).1) (c4R rn')
theorem c2t(g:a1m T)(h:v∈[V.str "; ",.str " ",.str ";",.str "\n",.str "> 0; "]):∃m:Str,v=.str m/\m.length<=100/\¬a1m (m++T):=by
 obtain⟨L,N,h1,h2,_,h3,rn,ne,_,hv,h6⟩:=a1y g
 have bd:∀m:Str,a6G (sg m++J8 (a1I L))->¬a1m (m++T):=fun m h=>a6d (by rw[a4M,h3];exact h)
 have fr:∀w∈a1I L,32∉w:=fun w hw=>(a0h _ _ rn w hw).1
 have f1:∀t:Wd,32∉t->∀w∈t::a1I L,32∉w:=fun t ht w hw=>(c5.mp hw).elim (fun e=>e ▸ ht) (fr w)
 simp only[c5,p8,or_false]at h
 rcases h with rfl | rfl | rfl | rfl | rfl
 ·refine⟨_,rfl,by decide +kernel,bd _ ?_⟩
  have:=a9A (t:=[59]) (B:=a1I L) (f1 _ (by decide)) (by decide +kernel)
  rw[a0x ne]at this
  exact this
 ·refine⟨_,rfl,by decide +kernel,bd _ ?_⟩
  have:=a9A (t:=[]) (B:=a1I L) (f1 _ (by decide)) (by decide +kernel)
  rw[a0x ne]at this
  exact this
 ·exact⟨_,rfl,by decide +kernel,bd _ (b7c (z:=[59]) rn ne (by simp) (by decide) ⟨59,by simp,.inr rfl⟩)⟩
 ·exact⟨_,rfl,by decide +kernel,bd _ (b7c (z:=[10]) rn ne (by simp) (by decide) ⟨10,by simp,.inl ⟨by decide,by decide⟩⟩)⟩
 ·refine⟨_,rfl,by decide +kernel,bd _ ?_⟩
  have:=a9A (t:=[62]) (B:=[48,59]::a1I L) (fun w hw=>(c5.mp hw).elim (fun e=>by rw[e];decide) (f1 _ (by decide) w)) (by decide +kernel)
  rw[a0x (by simp),a0x ne]at this
  exact this
end
section
variable {K:Fg}{c:Cn}{T m:Str}{E:XK}{a a':Nat}
theorem a6U(h:z.length<=100000)(k:Q (.str (Txt.slice z lo hi)) H):a9f (.str z) lo hi H Q:=⟨z,rfl,small h,k⟩
theorem a0R{x:Str}(hx:x.length<=20000)(hy:y.length<=20000)(k:Q (.str (x++y)) H):T9 (.str x) (.str y) H Q:=a9e (small (by omega)) k
theorem a5P(hT:T.length<=3000):(Txt.slice T lo hi).length<=3000:=t5 (Txt.slice_le T lo hi) hT
theorem b3P(hT:T.length<=3000)(hm:m.length<=100):(Txt.slice T lo hi++m).length<=20000:=by
 have:=a5P hT (lo:=lo) (hi:=hi)
 rw[Str.length_append]
 omega
theorem c8G{y:Nat}(hz:z=⟨#[y]⟩)(k:Q (.bl (decide (y∈sg T))) H):qIn false (.str z) (.str T) H Q:=by
 subst hz
 refine b1s ?_
 rw[show sgn T y=decide (y∈sg T)from G8 _ _]
 exact k
theorem b5K{s:Nat}(hz:z=⟨#[s]⟩)(hB:Bag H b d)(hT:T.length<=3000)(hs:s∈sg T)(k:∀(n:Nat) H',(sg T)[n]? = some s->n<T.length->Bag H' b d->D1 b H H'->Q (.int (n:Int)) H'):a6n K [.ref b,.str T,.str z] H Q E:=by
 subst hz
 exact c6f hB hT hs k
theorem c4L(h:v∈[V.str "",.str ">>",.str "> >",.str "<",.str "> 400",.str "> a"]):∃m:Str,v=.str m/\m.length<=100/\((32∉sg m/\sg m≠[62])\/∃u,sg m=62::32::u/\32∉u/\u≠[]/\fl8 u=false):=by
 simp only[c5,p8,or_false]at h
 rcases h with rfl | rfl | rfl | rfl | rfl | rfl
 ·exact⟨_,rfl,by decide +kernel,.inl (by decide +kernel)⟩
 ·exact⟨_,rfl,by decide +kernel,.inl (by decide +kernel)⟩
 ·exact⟨_,rfl,by decide +kernel,.inr ⟨[62],by decide +kernel⟩⟩
 ·exact⟨_,rfl,by decide +kernel,.inl (by decide +kernel)⟩
 ·exact⟨_,rfl,by decide +kernel,.inr ⟨[52,48,48],by decide +kernel⟩⟩
 ·exact⟨_,rfl,by decide +kernel,.inr ⟨[97],by decide +kernel⟩⟩
theorem d3u{z:Nat}:sgn (Str.ofString "0123456789") z=dg8 z:=by
 rw[show sgn (Str.ofString "0123456789") z=decide (z∈sg "0123456789")from G8 _ _,show sg "0123456789" = [48,49,50,51,52,53,54,55,56,57] by decide +kernel]
 unfold dg8
 rw[a2g]
 simp
 omega
theorem c5i(h:a<=ys.length):a1J ys none (some (a:Int))=ys.take a:=by
 unfold a1J
 rw[HT.a4R,HT.a8i,a4j,c2y,d1u h]
theorem c5k(h:a<=ys.length):a1J ys (some (a:Int)) none=ys.drop a:=by
 unfold a1J
 rw[HT.a4R,HT.a8i,d1u h,w6 (by rw[X3];omega)]
theorem c1c(hB:Bag H b d)(g:a1m T)(hT:T.length<=3000)(hs:(Txt.split T "; ").length<=24)(k:∀v H',a6F H' v->Bag H' b d->D1 b H H'->Q v H'):a6m K [.ref b,.str T] H Q E:=by
 have hl:=a8U T
 obtain⟨L,N,h1,h2,_,h3,rn,ne,_,hv,h6⟩:=a1y g
 rw[h3]at hl
 refine⟨rfl,?_⟩
 unfold b5y
 nofun
 exists F2 hB (by decide) (by decide) fun w H1 _ _ B1 k1=>?_
 nofun
 exists a4T (small (by omega)) ?_
 refine F2 B1 (by omega) (by omega) fun a0 H2 p0 p1 B2 k2=>?_
 obtain⟨a,rfl⟩:=L7 p0
 have ha:a<=T.length:=by omega
 have k02:=k1.trans k2
 ext
 nofun
 refine Y8 (fun _=>?_) fun _=>?_
 ·ext
  exists a6U (by omega) ?_
  exists a0R (t5 (a5P hT) (by decide)) (by decide +kernel) ?_
  exists a6U (by omega) ?_
  refine a0R (b3P hT (by decide +kernel)) (t5 (a5P hT) (by decide)) ?_
  exact k _ _ (b0u ha ha (by decide +kernel) hT (by rw[h3];exact c2q rn ne (by omega))) B2 k02
 ext
 nofun
 refine Y8 (fun _=>?_) fun _=>?_
 ·ext
  exists a6U (by omega) ?_
  exists F2 B2 (by decide) (by decide) fun y H3 y0 y1 B3 k3=>?_
  obtain⟨s,hs,hs2⟩:=a1A (xs:=(Str.ofString "AZ_-.,;>\n~+:").cps.toList) y0 (by rw[show(Str.ofString "AZ_-.,;>\n~+:").cps.toList.length=12 by decide +kernel];exact y1)
  have al:∀s∈(Str.ofString "AZ_-.,;>\n~+:").cps.toList,al8 s=false/\s≠32:=by decide +kernel
  obtain⟨a1,a2⟩:=al s (mI hs2)
  refine b1q (c:=s) (by decide +kernel) hs ?_
  exists a0R (t5 (a5P hT) (by decide)) (t5 (a2J (show Str.length ⟨#[s]⟩=1 from rfl)) (by decide)) ?_
  exists a6U (by omega) ?_
  refine a0R (b3P hT (t5 (a2J (show Str.length ⟨#[s]⟩=1 from rfl)) (by decide))) (t5 (a5P hT) (by decide)) ?_
  exact k _ _ (b0u ha ha (t5 (a2J (show Str.length ⟨#[s]⟩=1 from rfl)) (by decide)) hT (by rw[h3];exact b6Z rn ne (by omega) a1 a2)) B3 (k02.trans k3)
 ext
 exact_mod_cast a0n (P:=fun σ H3=>∃x4,σ=[some (.ref b),some (.str T),some (.int w),some (.int (a:Int)),x4,none]/\Bag H3 b d/\D1 b H H3) ?_ ?_
 rotate_left
 ·intro nx hnx
  ext
  refine Y8 (fun _=>?_) fun _=>?_
  ·exact_mod_cast a0X ?_
   refine c3E ?_
   specialize T7 (c9g ?_)
   exists a4T (small (by omega)) ?_
   refine⟨_,_,rfl,⟨by decide,by decide,by omega,by omega⟩,fun D hD=>?_⟩
   rw[show((T.length:Int) - 1).toNat=T.length - 1 by omega]
   refine c0o (fun t=>decide ((sg T)[t - 1]? = some 32)&&decide (∃y,(sg T)[t]? = some y/\dg8 y=true)) 1 (T.length - 1) (by omega) hD (fun t H3 ht s3 R hR=>?_) fun H3 l hl1 el s3=>?_
   ·obtain⟨y0,hy0⟩:∃y,(sg T)[t]? = some y:=⟨_,b9 (by rw[a8U];omega)⟩
    obtain⟨y1,hy1⟩:∃y,(sg T)[1+t]? = some y:=⟨_,b9 (by rw[a8U];omega)⟩
    have hR:R (decide (y0=32)&&dg8 y1) H3:=by
     have e1:1+t - 1=t:=by omega
     simp only[e1,hy0,hy1]at hR
     simpa using hR
    ext
    refine b1q (c:=y0) (small (by omega)) ?_ ?_
    ·rw[show((1:Nat):Int)+(t:Int) - 1=(t:Int) by omega];exact b7I hy0
    ext
    rw[show decide (V.str ⟨#[y0]⟩=V.str (Str.ofString " "))=decide (y0=32) by
     rw[show Str.ofString " " = ⟨#[32]⟩ by decide +kernel]
     simp]
    cases hd:decide (y0=32)with
    | false=>
     rw[hd]at hR
     exact v7 rfl hR
    | true=>
     rw[hd]at hR
     exists A8 rfl ?_
     refine b1q (c:=y1) (small (by omega)) ?_ ?_
     ·rw[show((1:Nat):Int)+(t:Int)=((1+t:Nat):Int) by omega];exact b7I hy1
     ext
     refine b1s ?_
     rw[d3u]
     exact⟨_,rfl,hR⟩
   ·ext
    refine D9 (by simp) fun l2 H4 n4 e4 s4=>?_
    have hl2:=s4 _ _ hl1
    refine⟨_,c0i hl2 e4 (p9.mpr fun v hv=>by obtain⟨_,_,rfl⟩:=y7.mp hv;rfl) rfl,_,rfl,?_⟩
    have s24:=s3.trans s4
    have hln:l.length<=3000:=by
     rw[el]
     refine t5 (R8 _ _) ?_
     rw[a9,O2]
     omega
    refine Y8 (fun he=>?_) fun _=>?_
    ·have hlp:0<l.length:=by
      cases l with
      | nil=>cases he
      | cons=>simp
     nofun
     refine K5 hl2 ?_
     rw[Q0]
     ext
     refine F2 (B2.same s24) (by omega) (by omega) fun n H5 n0 n1 B5 k5=>?_
     obtain⟨a2,ha2⟩:∃a,l[n.toNat]? = some a:=⟨_,b9 (by omega)⟩
     obtain⟨m1,m2,m3⟩:=c8C (el ▸ mI ha2)
     rw[l9,decide_eq_true_eq,decide_eq_true_eq]at m3
     obtain⟨m3,y,m4,m5⟩:=m3
     refine M4 (v:=.int (a2:Int)) (k5.1 _ _ hl2 (B2.nb hD).1) ?_ ?_
     ·rw[show n=((n.toNat:Nat):Int) by omega]
      exact c5F ha2
     ext
     exists a6U (by omega) ?_
     exists a0R (t5 (a5P hT) (by decide)) (by decide +kernel) ?_
     exists a6U (by omega) ?_
     refine a0R (b3P hT (by decide +kernel)) (t5 (a5P hT) (by decide)) ?_
     refine k _ _ (b0u (a:=a2) (a':=a2) (by omega) (by omega) (by decide +kernel) hT ?_) B5 (k02.trans ((D1.of_same s24).trans k5))
     obtain⟨a3,rfl⟩:∃a3,a2=a3+1:=⟨a2 - 1,by omega⟩
     rw[h3]at m3 m4 ⊢
     exact c5t rn ne m3 m4 m5
    ·ext
     exact hnx _ _ ⟨_,rfl,B2.same s24,k02.trans (D1.of_same s24)⟩
  ·ext
   exact hnx _ _ ⟨_,rfl,B2,k02⟩
 rintro _ H3 ⟨x4,rfl,B3,k3⟩
 exact_mod_cast a0n (P:=fun σ H4=>H4=H3/\σ=[some (.ref b),some (.str T),some (.int w),some (.int (a:Int)),x4,none]) ?_ ?_
 rotate_left
 ·intro nx hnx
  ext
  refine Y8 (fun _=>?_) fun _=>?_
  ·ext
   exists c8G (y:=32) (by decide +kernel) ?_
   refine Y8 (fun hm=>?_) fun _=>?_
   ·ext
    nofun
    exists b5K (s:=32) (by decide +kernel) B3 hT (of_decide_eq_true hm) fun n H4 hn ln B4 k4=>?_
    exists a6U (by omega) ?_
    exists a6U (by omega) ?_
    refine a0R (t5 (a5P hT) (by decide)) (t5 (a5P hT) (by decide)) ?_
    exact k _ _ (c5l (a:=n) (a':=n+1) (by omega) ln hT (by rw[h3]at hn ⊢;exact c2p rn ne hn)) B4 (k3.trans k4)
   ·ext
    exact hnx _ _ ⟨rfl,rfl⟩
  ·ext
   exists v7 rfl ?_
   exact hnx _ _ ⟨rfl,rfl⟩
 rintro _ H3 ⟨rfl,rfl⟩
 nofun
 refine Y8 (fun _=>?_) fun _=>?_
 ·ext
  exists a0R (by decide +kernel) (by omega) ?_
  exists a0R (by decide +kernel) (by omega) ?_
  exists D9 (by simp) fun l1 H4 n1 e1 s1=>?_
  refine F2 (B3.same s1) (by decide) (by decide) fun y H5 y0 y1 B5 k5=>?_
  obtain⟨v,hv1,hv2⟩:=a1A (xs:=[V.str "; ",.str ";",.str " ",.str "\n",.str " >",.str " > ",.str ("; " ++ T),.str (" " ++ T)]) y0 y1
  obtain⟨m,rfl,m1,m2⟩:=c4K g hT (mI hv2)
  refine M4 (k5.1 _ _ e1 (B3.nb n1).1) hv1 ?_
  refine a0R (by omega) (by omega) ?_
  exact k _ _ (.inl ⟨_,rfl,by rw[Str.length_append];omega,m2⟩) B5 (k3.trans ((D1.of_same s1).trans k5))
 ext
 nofun
 refine Y8 (fun _=>?_) fun _=>?_
 ·ext
  exists D9 (by simp) fun l1 H4 n1 e1 s1=>?_
  refine F2 (B3.same s1) (by decide) (by decide) fun y H5 y0 y1 B5 k5=>?_
  obtain⟨v,hv1,hv2⟩:=a1A (xs:=[V.str "; ",.str " ",.str ";",.str "\n",.str "> 0; "]) y0 y1
  obtain⟨m,rfl,m1,m2⟩:=c2t g (mI hv2)
  exists M4 (k5.1 _ _ e1 (B3.nb n1).1) hv1 ?_
  refine a0R (by omega) (by omega) ?_
  exact k _ _ (.inl ⟨_,rfl,by rw[Str.length_append];omega,m2⟩) B5 (k3.trans ((D1.of_same s1).trans k5))
 ext
 nofun
 refine Y8 (fun _=>?_) fun _=>?_
 ·ext
  exists D9 (by simp) fun l1 H4 n1 e1 s1=>?_
  exists D9 (by simp) fun l2 H5 n2 e2 s2=>?_
  exists b7X fun l3 H6 n3 e3 s3=>?_
  refine D9 (by simp) fun l4 H7 n4 e4 s4=>?_
  have s34:=s3.trans s4
  have s24:=s2.trans s34
  have s14:=s1.trans s24
  ext
  refine F2 (B3.same s14) (by decide) (by decide) fun y H8 y0 y1 B8 k8=>?_
  obtain⟨v,hv1,hv2⟩:=a1A (xs:=[V.non,.int 5,.bl true,.ref l1,.ref l2,.ref l3,.str ""]) y0 y1
  refine M4 (k8.1 _ _ e4 ((B3.same ((s1.trans s2).trans s3)).nb n4).1) hv1 ?_
  refine k _ _ ?_ B8 (k3.trans ((D1.of_same s14).trans k8))
  have hm:=mI hv2
  simp only[c5,p8,or_false]at hm
  rcases hm with rfl | rfl | rfl | rfl | rfl | rfl | rfl
  ·exact .inr ⟨_,rfl,by decide⟩
  ·exact .inr ⟨_,rfl,by decide⟩
  ·exact .inr ⟨_,rfl,by decide⟩
  ·have:=k8.1 _ _ (s24 _ _ e1) (B3.nb n1).1
   exact .inr ⟨"list",by simp[J9,this],by decide⟩
  ·have:=k8.1 _ _ (s34 _ _ e2) ((B3.same s1).nb n2).1
   exact .inr ⟨"tuple",by simp[J9,this],by decide⟩
  ·have:=k8.1 _ _ (s4 _ _ e3) ((B3.same (s1.trans s2)).nb n3).1
   exact .inr ⟨"dict",by simp[J9,this],by decide⟩
  ·exact .inl ⟨_,rfl,by decide +kernel,c0v (by decide +kernel)⟩
 ext
 exact_mod_cast a0n (P:=fun σ H4=>H4=H3/\σ=[some (.ref b),some (.str T),some (.int w),some (.int (a:Int)),x4,none]) ?_ ?_
 rotate_left
 ·intro nx hnx
  ext
  refine Y8 (fun _=>?_) fun _=>?_
  ·ext
   exists c8G (y:=62) (by decide +kernel) ?_
   refine Y8 (fun hm=>?_) fun _=>?_
   ·ext
    nofun
    exists b5K (s:=62) (by decide +kernel) B3 hT (of_decide_eq_true hm) fun n H4 hn ln B4 k4=>?_
    exists a6U (by omega) ?_
    exists D9 (by simp) fun l1 H5 n1 e1 s1=>?_
    refine F2 (B4.same s1) (by decide) (by decide) fun y H6 y0 y1 B6 k6=>?_
    obtain⟨v,hv1,hv2⟩:=a1A (xs:=[V.str "",.str ">>",.str "> >",.str "<",.str "> 400",.str "> a"]) y0 y1
    obtain⟨m,rfl,m1,m2⟩:=c4L (mI hv2)
    refine M4 (k6.1 _ _ e1 (B4.nb n1).1) hv1 ?_
    exists a0R (t5 (a5P hT) (by decide)) (by omega) ?_
    exists a6U (by omega) ?_
    refine a0R (b3P hT m1) (t5 (a5P hT) (by decide)) ?_
    exact k _ _ (b0u (a:=n) (a':=n+1) (by omega) ln m1 hT (by rw[h3]at hn ⊢;exact c4M rn ne hn m2)) B6 (k3.trans (k4.trans ((D1.of_same s1).trans k6)))
   ·ext
    exact hnx _ _ ⟨rfl,rfl⟩
  ·ext
   exists v7 rfl ?_
   exact hnx _ _ ⟨rfl,rfl⟩
 rintro _ H3 ⟨rfl,rfl⟩
 obtain⟨_,_,_,_,ll⟩:=b1R g
 have lp:0<(Txt.split T "; ").length:=A9.mpr (b5E _ _)
 have put:∀(i:Nat) (o:Str),i<(Txt.split T "; ").length->b9d o=true->¬a1m (Txt.join "; " ((Txt.split T "; ").set i o)):=fun i o hi ho=>c7X g hi ho
 nofun
 specialize b5X ?_
 exists ⟨rfl,?_⟩
 refine⟨_,_,rfl,rfl,by omega,by decide +kernel,fun l5 n5=>?_⟩
 generalize Txt.split T "; " = ss at hs ll lp put
 have e5:upd H3 l5 (.lst (ss.map V.str)) l5=some (.lst (ss.map V.str)):=c7
 have s5:t7 H3 (upd H3 l5 (.lst (ss.map V.str))):=u0 n5
 generalize upd H3 l5 (.lst (ss.map V.str))=H5 at e5 s5
 have nb5:=(B3.nb n5).1
 have B5:=B3.same s5
 have k05:=k3.trans (D1.of_same s5)
 ext
 nofun
 exists K5 e5 ?_
 rw[a9]
 refine F2 B5 (by omega) (by omega) fun i0 H6 p6 p7 B6 k6=>?_
 obtain⟨i,rfl⟩:=L7 p6
 have hi:i<ss.length:=by omega
 have e6:=k6.1 _ _ e5 nb5
 ext
 refine b4b e6 fun q7 n7=>?_
 rw[c5i (by rw[a9];omega)]
 have e7:upd H6 q7 (.lst ((ss.map V.str).take i)) q7=some (.lst ((ss.map V.str).take i)):=c7
 have s7:t7 H6 (upd H6 q7 (.lst ((ss.map V.str).take i))):=u0 n7
 generalize upd H6 q7 (.lst ((ss.map V.str).take i))=H7 at e7 s7
 ext
 exists b7b (B6.same s7) fun o H8 o1 o2 B8 k8=>?_
 refine D9 (by simp) fun q9 H9 n9 e9 s9=>?_
 have e79:=s9 _ _ (k8.1 _ _ e7 (B6.nb n7).1)
 exists a4U e79 e9 (D9 (by simp;omega) fun q10 H10 n10 e10 s10=>?_)
 have e510:=s10 _ _ (s9 _ _ (k8.1 _ _ (s7 _ _ e6) nb5))
 refine b4b e510 fun q11 n11=>?_
 rw[show((i:Int)+1)=((i+1:Nat):Int) by omega,c5k (by rw[a9];omega)]
 have e11:upd H10 q11 (.lst ((ss.map V.str).drop (i+1))) q11=some (.lst ((ss.map V.str).drop (i+1))):=c7
 have s11:t7 H10 (upd H10 q11 (.lst ((ss.map V.str).drop (i+1)))):=u0 n11
 generalize upd H10 q11 (.lst ((ss.map V.str).drop (i+1)))=H11 at e11 s11
 exists a4U (s11 _ _ e10) e11 (D9 (by simp;omega) fun q12 H12 n12 e12 s12=>?_)
 have eS:(ss.map V.str).take i++[V.str o]++(ss.map V.str).drop (i+1)=(ss.set i o).map V.str:=by
  rw[List.set_eq_take_append_cons_drop,if_pos hi,E9,C6,List.map_take,d2T,C8]
  rfl
 rw[eS]at e12
 have lS:∀l∈ss.set i o,l.length<=120:=fun l hl=>by
  rcases a4B hl with h | rfl
  ·exact ll l h
  ·omega
 have j1:=a6v "; " _ 120 lS
 have j2:(("; " : Str)).length=2:=by decide +kernel
 have j3:=S8 "; " (ss.set i o)
 rw[V5]at j1 j3
 rw[j2]at j3
 refine b1p e12 (a3u _) ?_ ?_
 ·rw[j2,V5];omega
 have sz:=(s9.trans s10).trans (s11.trans s12)
 refine k _ _ (.inl ⟨_,rfl,?_,put i o hi o1⟩) (B8.same sz) (k05.trans (k6.trans ((D1.of_same s7).trans (k8.trans (D1.of_same sz)))))
 rw[show Txt.join "; " (ss.set i o)=Str.join "; " (ss.set i o)from F7 _ _]
 omega
end
structure Dw(H:Hp)(ra na:Addr)(N:Nt)(rs:List Addr)(Ws:List (List V)):Prop where
 R:R4 H ra N
 r:H ra=some (.lst (rs.map V.ref))
 W:a1l H rs Ws
 ak:c2u Ws N
 lr:rs.length=N.length
 n:F9 H na N
 v:a0c N
section
variable {K:Fg}{c:Cn}{E:XK}
theorem d2E(R:R4 H ra N)(n:F9 H na N)(v:a0c N):∃rs Ws,Dw H ra na N rs Ws:=by
 obtain⟨rs,r1,r2,r3⟩:=id R.ex
 obtain⟨Ws,W⟩:=b1l (H:=H) (rs:=rs) fun q hq=>by
  obtain⟨i,hi⟩:=F4.mp hq
  have h1:=(gI hi)
  exact⟨_,r3 i q _ hi (b9 (by omega))⟩
 exact⟨rs,Ws,R,r1,W,(c0x R r1 W).2,r2,n,v⟩
theorem Dw.same(h:Dw H ra na N rs Ws)(s:t7 H H'):Dw H' ra na N rs Ws:=⟨h.R.same s,s _ _ h.r,h.W.ts (t7.ts s),h.ak,h.lr,h.n.same s,h.v⟩
theorem Dw.kept(h:Dw H ra na N rs Ws)(hB:Bag H b d)(k:D1 b H H'):Dw H' ra na N rs Ws:=⟨h.R.kept hB k,k.1 _ _ h.r (a6s hB h.r),h.W.ts (D1.ts k hB),h.ak,h.lr,h.n.kept hB h.v.two k,h.v⟩
theorem a6F.same(h:a6F H v)(s:t7 H H'):a6F H' v:=by
 rcases h with h | ⟨t,h1,h2⟩
 ·exact .inl h
 ·refine .inr ⟨t,?_,h2⟩
  cases v with
  | ref a=>
   simp only[J9]at h1 ⊢
   cases e:H a with
   | none=>rw[e]at h1;cases h1
   | some o=>rw[s _ _ e];rw[e]at h1;exact h1
  | _=>exact h1
theorem a6F.kept(h:a6F H v)(hB:Bag H b d)(hB':Bag H' b d)(k:D1 b H H'):a6F H' v:=by
 rcases h with h | ⟨t,h1,h2⟩
 ·exact .inl h
 ·refine .inr ⟨t,?_,h2⟩
  cases v with
  | ref a=>
   simp only[J9]at h1 ⊢
   by_cases e:a=b
   ·subst e
    obtain⟨_,_,_,_,P⟩:=hB.parts
    obtain⟨_,_,_,_,P'⟩:=hB'.parts
    rw[P.hb]at h1
    rw[P'.hb]
    exact h1
   ·cases e2:H a with
    | none=>rw[e2]at h1;cases h1
    | some o=>rw[k.1 _ _ e2 e];rw[e2]at h1;exact h1
  | _=>exact h1
theorem c6b(W:a1l H rs Ws)(lr:rs.length=N.length)(hv:a0c N)(h:N.length<=24):(a3t Ws N).length<=3000:=by
 unfold a3t
 rw[show Txt.join "; " (G7 Ws N)=Str.join "; " (G7 Ws N)from F7 _ _]
 have h0:=S8 "; " (G7 Ws N)
 have h1:=a6v "; " (G7 Ws N) 120 (a6u W lr hv)
 have e2:(("; " : Str)).length=2:=by decide +kernel
 have e3:(G7 Ws N).length=N.length:=by simp[G7]
 rw[e2]at h0
 omega
end
theorem law_reading(K:Fg)(hl:ns.length<=63)(hO:c8h H)(hS:SqL K H a (ns.map V.int)):b1b K [.ref a] H (fun v _=>v=.bl true) (fun _ _ _=>False):=by
 refine⟨rfl,fun c ck=>?_⟩
 unfold c3m
 nofun
 exists d1d hS hl fun b d H1 B1 s1 _=>?_
 nofun
 refine c5e B1 fun p ra na N H2 e2 R2 T2 V2 l2 B2 k2=>?_
 obtain⟨rs,Ws,D2⟩:=d2E R2 T2 V2
 refine a8g (SqT.of e2) ?_
 nofun
 specialize c9l ?_
 intro y dy hy hdy hne
 have sm:t7 H2 (upd (upd H2 dy (.own y)) y (.ins c.S9 dy [])):=fun b o e=>by
  rw[g7 (c6 e hy),g7 (c6 e hdy)];exact e
 have Dm:=D2.same sm
 refine a4W ck Dm.r Dm.R Dm.n Dm.v c7 fun H3 pz old=>⟨rfl,?_⟩
 have s3:t7 H2 H3:=fun b o e=>old b o (sm b o e) (c6 e hy)
 obtain⟨dx,r,n,e,es,nxs,p1,⟨_,p2⟩,p3,p4,p5,_⟩:=pz.ex
 have D3:=D2.same s3
 ext
 refine a8b ck ⟨dx,r,n,e,p1,p2,⟨nxs,p3,p4,p5⟩⟩ D3.lr D3.W D3.v fun H4 s4=>?_
 have D4:=D3.same s4
 have B4:=(B2.same s3).same s4
 ext
 nofun
 have g:a1m (a3t Ws N):=⟨_,_,_,_,D4.W,D4.lr,D4.ak,D4.v,rfl⟩
 refine c1c B4 g (c6b D4.W D4.lr D4.v l2) (by rw[a4K D4.W D4.lr D4.v];simpa[G7]using l2) fun v H5 v5 B5 k5=>?_
 have D5:=D4.kept B4 k5
 ext
 exact_mod_cast a0n (P:=fun σ H6=>∃v,σ=[some (.ref a),some (.ref b),some (.ref ra),some (.ref na),some (.str (a3t Ws N)),some v,none]/\a6F H6 v/\Dw H6 ra na N rs Ws) ?_ ?_
 rotate_left
 ·intro nx hnx
  ext
  exists F2 B5 (by decide) (by decide) fun w H6 _ _ B6 k6=>?_
  refine Y8 (fun _=>?_) fun _=>?_
  ·ext
   exists b8x B6 fun u H7 u7 B7 k7=>?_
   exact hnx _ _ ⟨u,rfl,u7,D5.kept B5 (k6.trans k7)⟩
  ·ext
   exact hnx _ _ ⟨v,rfl,a6F.kept v5 B5 B6 k6,D5.kept B5 k6⟩
 rintro _ H6 ⟨v,rfl,v6,D6⟩
 nofun
 exists b9N ck D6.W D6.lr D6.ak D6.v fun x H7 rs7 P7 l7 W7 s7=>?_
 exists a8b ck P7 l7 W7 D6.v fun H8 s8=>?_
 exists v7 (by simp) ?_
 have s68:=s7.trans s8
 nofun
 exists b1m ck (v6.same s68) fun H9 s9=>?_
 exists v7 rfl ?_
 have s69:=s68.trans s9
 exists b1m ck (v6.same s69) fun H10 s10=>?_
 exists v7 rfl ?_
 have D10:=D6.same (s69.trans s10)
 nofun
 refine b9N ck D10.W D10.lr D10.ak D10.v fun z H11 rs11 P11 l11 W11 s11=>?_
 have D11:=D10.same s11
 obtain⟨dz,rz,nz,ez,q1,q2,q3⟩:=P11
 ext
 specialize b1k ?_
 exists ⟨z,_,dz,_,.ref rz,rfl,q1,ck.a0M,ck.a2h,rfl,?_⟩
 exists ⟨rz,ra,3,rfl,rfl,by decide,c3P W11 D11.W q2 D11.r,?_⟩
 exists A8 rfl ?_
 specialize b1k ?_
 exists ⟨z,_,dz,_,.ref nz,rfl,q1,ck.a0M,ck.Y4,rfl,?_⟩
 exists ⟨nz,na,2,rfl,rfl,by decide,d3q q3 D11.n,?_⟩
 rfl
end RD
set_option maxHeartbeats 0
namespace PR
open PySem L2 RD Y
abbrev d3G:Str:="__init__"
abbrev d3H:Str:="_law_script"
abbrev d3I:Str:="_law_bag"
abbrev d3J:Str:="_law_bag_here"
abbrev d3K:Str:="_law_many"
abbrev d3L:Str:="_law_take"
abbrev d3M:Str:="_law_nexts"
abbrev d3N:Str:="_law_k"
abbrev d3O:Str:="_law_some_here"
abbrev d3P:Str:="_law_way"
abbrev d3Q:Str:="_law_net"
abbrev d3R:Str:="_law_good"
abbrev d3S:Str:="_law_turn"
abbrev d3T:Str:="_law_reached"
abbrev d3U:Str:="_law_one"
abbrev d3V:Str:="_law_order"
abbrev d3W:Str:="_law_mended"
abbrev d3X:Str:="_law_signs"
abbrev d3Y:Str:="_law_name"
abbrev d3Z:Str:="_law_names_here"
abbrev d4a:Str:="_law_names"
abbrev d4b:Str:="_law_value"
abbrev d4c:Str:="_law_operand"
abbrev d4d:Str:="_law_deed"
abbrev d4e:Str:="_law_pool"
abbrev d4f:Str:="_law_row"
abbrev d4g:Str:="_law_drawn"
abbrev d4h:Str:="words_of"
abbrev d4i:Str:="following"
abbrev d4j:Str:="shown_place"
abbrev d4k:Str:="_law_text"
abbrev d4l:Str:="_law_some"
abbrev d4m:Str:="_law_bad_line"
abbrev d4n:Str:="_law_spoilt"
abbrev d4o:Str:="_law_no_plan"
abbrev d4p:Str:="thing_of"
abbrev d4q:Str:="things"
abbrev d4r:Str:="check_length"
abbrev d4s:Str:="thing"
abbrev d4t:Str:="is_whole"
abbrev d4u:Str:="is_value"
abbrev d4v:Str:="is_operand"
abbrev d4w:Str:="check_each"
abbrev d4x:Str:="is_below"
abbrev d4y:Str:="place"
abbrev d4z:Str:="are_nexts"
abbrev d4A:Str:="rows"
abbrev d4B:Str:="nexts"
abbrev d4C:Str:="check_nexts"
abbrev d4D:Str:="stops_of"
abbrev d4E:Str:="check_ways"
abbrev d4F:Str:="steps_of"
abbrev d4G:Str:="self"
abbrev d4H:Str:="most"
abbrev d4I:Str:="read"
abbrev d4J:Str:="ValueError"
abbrev d4K:Str:="_law_refused"
section
def top(i:Nat):Stmt:=PySem.Challenge.pw_oncedone_k92_texts_refused.main.body.getD i (.Pass ⟨0,0,0,0⟩)
abbrev b9I:Stmt:=top 44
abbrev b7S:Stmt:=top 45
abbrev c3H:Stmt:=top 52
abbrev a4s:Stmt:=top 53
abbrev b3W:Stmt:=top 46
abbrev b3V:Stmt:=top 47
abbrev b3S:Stmt:=top 48
abbrev a8Y:Stmt:=top 49
abbrev b7Y:Stmt:=top 50
abbrev c3F:Stmt:=top 51
abbrev a8h:Stmt:=top 54
abbrev a7k:Stmt:=top 36
abbrev a2w:Stmt:=top 37
abbrev b0m:Stmt:=top 38
abbrev b3T:Stmt:=top 56
abbrev a7q:Stmt:=top 57
abbrev a8e:Stmt:=top 58
abbrev a6q:Stmt:=top 59
abbrev a4N:Stmt:=top 39
abbrev b1g:Stmt:=top 40
abbrev a1Y:Stmt:=top 23
abbrev a6r:Stmt:=top 16
abbrev a7l:Stmt:=top 14
abbrev a7m:Stmt:=top 15
abbrev a4Q:Stmt:=top 17
abbrev a8Z:Stmt:=top 18
abbrev b1h:Stmt:=top 19
abbrev a3a:Stmt:=top 24
abbrev a7n:Stmt:=top 22
abbrev a3N:Stmt:=top 27
abbrev a1i:Stmt:=top 28
abbrev a8X:Stmt:=top 31
abbrev a8d:Stmt:=top 30
abbrev a4O:Stmt:=top 29
abbrev a2Z:Stmt:=top 32
abbrev a4P:Stmt:=top 33
abbrev a2Q:Stmt:=X8 (top 34) 2
abbrev a0I:Stmt:=X8 (top 34) 0
abbrev a6p:Stmt:=top 41
abbrev b3U:Stmt:=top 42
abbrev b1i:Stmt:=X8 (top 3) 0
abbrev a7p:Stmt:=X8 (top 4) 0
abbrev b1j:Stmt:=X8 (top 6) 0
abbrev a7o:Stmt:=X8 (top 5) 0
abbrev a8W:Stmt:=top 55
abbrev b9G:Stmt:=top 60
structure Txt(K:Fg)(mg:Str->Option Value)(c:Cn):Prop where
 d2Y:mg "abs" = none
 c5M:mg "all" = none
 d2X:mg "any" = none
 d1q:mg "bool" = none
 a2L:mg "enumerate" = none
 c8S:mg "int" = none
 G9:mg "isinstance" = none
 L6:mg "len" = none
 a5j:mg "list" = none
 d2W:mg "min" = none
 a0k:mg "range" = none
 c5L:mg "sorted" = none
 b3C:mg "str" = none
 a8I:mg "tuple" = none
 c5K:mg "zip" = none
 c0H:∃u,mg "BOUND" = some u/\F1 (.int 1000000000000) u
 b5b:∃u,mg "DEED_KINDS" = some u/\F1 (.ref c.a5i) u
 b3B:∃u,mg "FIGURES" = some u/\F1 (.str "0123456789") u
 a8H:∃u,mg "FIRST_STEP" = some u/\F1 (.ref c.a2i) u
 b3A:∃u,mg "LETTERS" = some u/\F1 (.str "abcdefghijklmnopqrstuvwxyz") u
 b2p:∃u,mg "LONGEST_NAME" = some u/\F1 (.int 8) u
 b9m:∃u,mg "MOST" = some u/\F1 (.int 400) u
abbrev scF(ns:List (Str×a6J)):Scope:={ kind:=.function,names:=ns,isGenerator:=false,isCoroutine:=false,more:=[] }
local macro_rules | `(tactic| walk_at "c0") => `(tactic| exact ⟨rfl, by decide +kernel, by decide +kernel, rfl, by decide +kernel, by decide +kernel, rfl, by decide +kernel⟩)
local macro_rules | `(tactic| walk_at "c1") => `(tactic| exact ⟨rfl, by decide +kernel, by decide +kernel, rfl, c0f (by decide +kernel), by decide +kernel, rfl, by decide +kernel⟩)
local macro_rules | `(tactic| walk_at "c2") => `(tactic| exact ⟨rfl, by decide +kernel, by decide +kernel, rfl, rfl, by decide +kernel, by decide +kernel, rfl, rfl, by decide +kernel⟩)
local macro_rules | `(tactic| walk_at "c3") => `(tactic| exact ⟨rfl, by decide +kernel, by decide +kernel, rfl, rfl, c0f (by decide +kernel), by decide +kernel, rfl, rfl, by decide +kernel⟩)
def c5H(f:List Value->Prop):List Str->Prop
 | []=>f []
 | _::r=>∀u,c5H (fun us=>f (u::us)) r
theorem c5H.mp:∀ {ps:List Str} {f:List Value->Prop},c5H f ps->∀us,us.length=ps.length->f us
 | [],_,h,[],_=>h
 | _::_,_,h,u::us,e=>c5H.mp (h u) us (Nat.succ.inj e)
section
variable {P:v8}{w:World}{K:Fg}{mg:Str->Option Value}{base h:Heap}{c:Cn}{f C:Addr}{fd:U1}{x q:Str}{st:Stmt}{N ps:List Str}{k:Nat}{t:TS}{pm cd:Value}{sp:Sp}
open PySem.Spec PyProof.Rows in
theorem fk(F:Fun K x q st f fd)(S:A4 N ps (i9 st))(b:∀cdv A outer s H E,R3 k (A.deeper (b0B q (i9 st) s.heap.objs.size f cdv))->N.Nodup->a5H (a8x CX0 P w K mg base N q (i9 st) f cdv A outer s H E).nox (a1r st) t):F5 P w K mg base CX0 (k+1) f fd ps (spD ps.length N.length t):=
 a4m F S (fun _ _ _ _ h=>h.1) fun cdv A outer s H _ _ E hr h=>⟨t,b cdv A outer s H E hr S.nd,h.2⟩
open PySem.Spec PyProof.Rows in
theorem fkX{t:XK->TS}(F:Fun K x q st f fd)(S:A4 N ps (i9 st))(b:∀cdv A outer s H E,R3 k (A.deeper (b0B q (i9 st) s.heap.objs.size f cdv))->N.Nodup->a5H (a8x (CX1 P w) P w K mg base N q (i9 st) f cdv A outer s H E) (a1r st) (t E)):F5 P w K mg base (CX1 P w) (k+1) f fd ps (spX ps.length N.length t):=
 c0T F S (fun _ _ _ _ h=>h.1) fun cdv A outer s H _ _ E hr h=>⟨t E,b cdv A outer s H E hr S.nd,h.2⟩
abbrev fdM(x q:Str)(st:Stmt)(pm cd:Value):U1:=a1a x q (a5a st) (a1r st) (i9 st) .none .none .none pm none cd .none
structure FnI(K:Fg)(x q:Str)(st:Stmt)(f:Addr)(pm cd:Value):Prop where
 l:K.lookup f=some ⟨.type "function",none,.func (fdM x q st pm cd),#[]⟩
 c:a6I K cd q=true
 k:T0 K (.ref f)=true
structure FnG(K:Fg)(x:Str)(st:Stmt)(f:Addr)(pm cd:Value):Prop where
 i:FnI K x x st f pm cd
 a:A5 K u4 x=some (some (.ref f))
structure FnM(K:Fg)(C:Addr)(x q:Str)(st:Stmt)(f:Addr)(pm cd:Value):Prop where
 i:FnI K x q st f pm cd
 a:z6 K (.ref C) x=some (some (.ref f))
 n:a9K K (.ref f)=true
theorem FnI.F(h:FnI K x q st f pm cd):Fun K x q st f (fdM x q st pm cd):=d0X h.l h.c h.k
abbrev BdA(x q:Str)(st:Stmt)(ps:List Str):Prop:=∀(kV doc pm:Value) (an:Option Addr) (cdv ct:Value),c5H (fun us=>bindArgs (a1a x q (a5a st) (a1r st) (i9 st) .none kV doc pm an cdv ct) ⟨us,[]⟩=pure (ps.zip us)) ps
theorem mkC(X:K.In h)(G:h.Ns u4 mg)(g:FnG K x st f pm cd)(O:F5 P w K mg base CX0 k f (fdM x x st pm cd) ps sp)(B:BdA x x st ps):F6 P w K mg base k x ps sp:=c2g g.i.F O (E3 X G g.a) (g.i.F.binds fun _ _ _ _ _ _ us hl=>(B _ _ _ _ _ _).mp us hl)
theorem mkM(g:FnM K C x q st f pm cd)(cl:Cls K C)(O:F5 P w K mg base CX0 k f (fdM x q st pm cd) ps sp)(B:BdA x q st ps):b0y P w K mg base k x C ps sp:=⟨_,_,O,cl,⟨g.a,g.n,g.i.k⟩,g.i.F.binds fun _ _ _ _ _ _ us hl=>(B _ _ _ _ _ _).mp us hl⟩
theorem mkK{y:Str}(X:K.In h)(G:h.Ns u4 mg)(g:FnM K C d3G q st f pm cd)(y1:A5 K u4 y=some (some (.ref C)))(m:a5y K C=true)(kc:T0 K (.ref C)=true)(O:F5 P w K mg base CX0 k f (fdM d3G q st pm cd) ps sp)(B:BdA d3G q st ps):b7f P w K mg base k y C ps sp:=⟨_,_,O,E3 X G y1,⟨m,g.a,g.n,kc⟩,g.i.F.binds fun _ _ _ _ _ _ us hl=>(B _ _ _ _ _ _).mp us hl⟩
end
section
variable {P:v8}{w:World}{K:Fg}{mg:Str->Option Value}{base:Heap}{c:Cn}{f:Addr}{fd:U1}(T:Txt K mg c)
abbrev c4v:List Str:=[d3H]
theorem c9e:A4 [d3H] c4v (i9 b9I):=by walk_at "sc"
theorem c5p:Q1 [d3H] (i9 b9I) (scF [ (".0",.local),("_law_cell",.local),("abs",.globalImplicit)]) "_law_cell" := by walk_at "c0"
include T in
theorem d0w(F:Fun K d3I d3I b9I f fd):F5 P w K mg base CX0 1 f fd c4v (b3N K):=fk F c9e fun _ _ _ _ _ _ hr nd=>b8 (o8 (C2 (b5l b6 b6 b6 (M8 c5p rfl (O8 (K9 c0I (b7 0) M7 (M6 b6))) (fun _ _ _ _ _=>I0) (fun _ _ _ _ _=>g9 b5r rfl T.d2Y PyProof.Rows.boot_abs (j5 (b7 0)))))))
variable(c0s:F6 P w K mg base 1 d3I c4v (b3N K))
abbrev b8j:List Str:=[d3J,d3K]
theorem c6n:A4 [d3J,d3K,"_law_more","_law_cell","_law_value_here","_law_first","_law_second"] b8j (i9 b7S):=by walk_at "sc"
include T in
theorem c7m(F:Fun K d3L d3L b7S f fd):F5 P w K mg base CX0 1 f fd b8j (D8 K):=fk F c6n fun _ _ _ _ _ _ hr nd=>b4 (w4 (D0 (C3 hr) (A7 (b7 0) b6) b6) (b4 (y8 2 nd b6) (b4 (w4 (D0 a1P (A7 (b7 0) b6) (g9 o6 rfl T.L6 i8 (j5 (A7 (b7 0) b6)))) (b4 (y8 3 nd (A7 (A7 (b7 0) b6) (A7 (b7 0) b6))) (b4 (c0L (b7 0) b6 c5W b6 c2X b0f) (b4 (w4 (D0 c2W (b7 3) b6) (b8 (a7N (b7 3) (b0G (b7 0) b6 b0f))) o5) (b8 (y8 2 nd (u9 y9 (u9 a1D (b7 3) b6) b6)))))) o5) (b8 (a7N (u9 a1D (u9 y9 (u9 a3i (A7 (b7 0) b6) b6) (b7 2)) b6) (b0G (b7 0) b6 b0f))))) o5) (b4 (w4 (D0 a2C (A7 (b7 0) b6) b6) (b4 (y8 4 nd (u9 a1D (A7 (b7 0) b6) (b7 1))) (b4 (a7N (u9 b2O (A7 (b7 0) b6) (b7 1)) (b0G (b7 0) b6 b0f)) (b8 (o8 (b7 4))))) o5) (b4 (y8 5 nd (u9 a1D (u9 a3i (A7 (b7 0) b6) b6) b6)) (b4 (y8 6 nd (u9 a1D (u9 a3i (b7 5) b6) b6)) (b4 (w4 (D0 a2C (b7 1) b6) (b8 (o8 (u9 a1D (u9 y9 (u9 a3i (b7 6) b6) (b7 5)) (b7 1)))) o5) (b8 (o8 (u9 a1D (u9 b2O (b7 6) b6) (b7 1))))))))
variable(A2:F6 P w K mg base 1 d3L b8j (D8 K))
abbrev c4u:List Str:=[d3J,d3K]
theorem c9d:A4 [d3J,d3K,d3M,d3N,"_law_near",d3O,d3P] c4u (i9 c3H):=by walk_at "sc"
include T A2 in
theorem d0u(F:Fun K d3Q d3Q c3H f fd):F5 P w K mg base CX0 2 f fd c4u (b3M K):=fk F c9d fun _ _ _ _ _ _ hr nd=>b4 (y8 2 nd (C2 W5)) (b4 (S0 PassesOwn.never rfl (M3 rfl T.a0k (j5 (b7 1))) (W3 3 nd) (b4 (y8 4 nd (g9 (b5p rfl) rfl T.d2W PyProof.Rows.boot_min (A1 (u9 y9 (b7 3) b6) (u9 a3h (b7 1) b6)))) (b4 (y8 5 nd (C2 (A1 (b7 4) (o9 A2 hr (A1 (b7 0) (b7 1)))))) (b4 (y8 6 nd (o9 A2 hr (A1 (b7 0) b6))) (b4 (w4 (D0 a1P (b7 6) b6) (b8 (y8 5 nd (C2 (A1 (A7 (b7 5) b6) (b7 4))))) o5) (b4 (w4 (D0 (C3 hr) (b7 6) b6) (b8 (y8 5 nd (C2 (A1 (A7 (b7 5) b6) (o9 A2 hr (A1 (b7 0) (b7 1))))))) o5) (b4 (w4 (Q3 (a0d (Q3 (a3o (D0 a2C (b7 6) b6) (a2p (D0 a1P (b7 6) b6)))) (V9 (D0 (C3 hr) (b7 1) b6)))) (b8 (y8 5 nd (C2 (j5 (b7 4))))) o5) (b4 (w4 (Q3 (a3o (D0 (C3 hr) (b7 6) b6) (a2p (D0 a2C (b7 1) b6)))) (b8 (y8 5 nd (C2 (j5 (A7 (b7 5) b6))))) o5) (b4 (w4 (Q3 (a0d (D0 (C3 hr) (b7 3) (u9 a3h (b7 1) b6)) (V9 (Q3 (a3o (D0 (C3 hr) (b7 6) b6) (a2p (D0 (C3 hr) (o9 A2 hr (A1 (b7 0) b6)) b6))))))) (b8 (y8 5 nd (C2 W5))) o5) (b8 (J7 (R5 A3 O0 N9 a0e (b7 2) (j5 (b7 5)))))))))))))) (b8 (o8 (b7 2))))
variable(c0r:F6 P w K mg base 2 d3Q c4u (b3M K))
abbrev b1z:List Str:=[d3M]
theorem c1i:A4 [d3M,d3R,d3S,d3N,d3T,d3U,d3V] b1z (i9 a4s):=by walk_at "sc"
theorem b6W:Q1 [d3M,d3R,d3S,d3N,d3T,d3U,d3V] (i9 a4s) (scF [ (".0",.local),(d3U,.local),(d3R,.free)]) d3U := by walk_at "c0"
theorem b6V:Q1 [d3M,d3R,d3S,d3N,d3T,d3U,d3V] (i9 a4s) (scF [ (".0",.local),(d3N,.local),("len",.globalImplicit),(d3R,.free),(d3M,.free)]) d3N := by walk_at "c0"
theorem b6U:Q1 [d3M,d3R,d3S,d3N,d3T,d3U,d3V] (i9 a4s) (scF [ (".0",.local),(d3N,.local),(d3M,.free),(d3V,.free)]) d3N := by walk_at "c0"
theorem b6T(env:Env):Q1 [d3N,d3M,d3R,d3S,"._law_k",d3T,d3U,d3V] (a8M (scF [ (".0",.local),(d3N,.local),(d3M,.free),(d3V,.free)]) env) (scF [ (".0",.local),(d3U,.local),(d3V,.free)]) d3U := by walk_at "c1"
include T in
theorem c1E(F:Fun K d3W d3W a4s f fd):F5 P w K mg base CX0 1 f fd b1z (a6o K):=fk F c1i fun _ _ _ _ _ _ hr nd=>b4 (y8 1 nd a7b) (b4 (S0 PassesOwn.never rfl (M3 rfl T.a0k (j5 (g9 o6 rfl T.L6 i8 (j5 (b7 0))))) (W3 2 nd) (b8 (S0 PassesOwn.never rfl (M3 rfl T.a0k (j5 (g9 o6 rfl T.L6 i8 (j5 (b7 0))))) (W3 3 nd) (b8 (w4 (Q3 (a0d (D0 (C3 hr) (A7 (b7 0) (b7 3)) (C2 W5)) (V9 (Q8 (g9 (b5q rfl) rfl T.d2X PyProof.Rows.boot_any (j5 (M8 b6W rfl (O8 (A7 (b7 0) (b7 3))) (fun _ _ _ _ _=>I0) (fun _ _ _ _ _=>c2U hr (b7 0) (b7 2) rfl)))))))) (b8 (a8O hr (b7 1) (b7 3) a0O)) o5))))) (b4 (y8 0 nd (M8 b6V rfl (M3 rfl T.a0k (j5 (g9 o6 rfl T.L6 i8 (j5 (b7 0))))) (fun _ _ _ _ _=>I0) (fun _ _ _ _ _=>a4D (b5g hr (b7 0) (b7 2) rfl) (A7 (b7 1) (b7 0)) (u9 y9 (C2 (j5 (u9 a3h (g9 o6 rfl T.L6 i8 (j5 (b7 1))) b6))) (K9 a7a (A7 (b7 1) (b7 0)) (M6 b6) M7))))) (b4 (y8 4 nd (c0O (b7u b6 a0O c0M))) (b4 (S0 PassesOwn.never rfl (M3 rfl T.a0k (j5 (g9 o6 rfl T.L6 i8 (j5 (b7 0))))) (W3 2 nd) (b8 (S0 PassesOwn.never rfl (M3 rfl T.a0k (j5 (g9 o6 rfl T.L6 i8 (j5 (b7 0))))) (W3 3 nd) (b8 (w4 (b5g hr (b7 3) (b7 4) rfl) (b8 (S0 PassesOwn.never rfl (O8 (A7 (b7 0) (b7 3))) (W3 5 nd) (b8 (a8O hr (b7 4) (b7 5) a0O)))) o5))))) (b4 (y8 6 nd (g9 b0J rfl T.c5L PyProof.Rows.boot_sorted (j5 (V1 (b2q rfl) rfl T.a5j J2 (j5 (b7 4)))))) (b8 (o8 (M8 b6U rfl (O8 (b7 6)) (fun _ _ _ _ _=>I0) (fun _ _ _ _ _=>M8 (b6T _) rfl (O8 (A7 (b7 1) (b7 0))) (fun _ _ _ _ _=>I0) (fun _ _ _ _ _=>R5 A3 a1L b5c b5o (b7 8) (j5 (b7 0))))))))))))
variable(a8A:F6 P w K mg base 1 d3W b1z (a6o K))
abbrev b8l:List Str:=[d3J]
theorem c6p:A4 [d3J,"_law_letters",d3X] b8l (i9 b3W):=by walk_at "sc"
theorem c2f:Q1 [d3J,"_law_letters",d3X] (i9 b3W) (scF [ (".0",.local),(d3N,.local),(d3L,.globalImplicit),(d3J,.free),(d3X,.free)]) d3N := by walk_at "c0"
include T A2 in
theorem c7p(F:Fun K d3Y d3Y b3W f fd):F5 P w K mg base CX0 2 f fd b8l (b0j K):=fk F c6p fun _ _ _ _ _ _ hr nd=>b4 (y8 1 nd d5) (b4 (y8 2 nd (u9 y9 (b7 1) d5)) (b8 (o8 (u9 y9 (A7 (b7 1) (o9 A2 hr (A1 (b7 0) b6))) (R5 L9 a0A a0z a3r d5 (j5 (M8 c2f rfl (M3 rfl T.a0k (j5 (o9 A2 hr (A1 (b7 0) b6)))) (fun _ _ _ _ _=>I0) (fun _ _ _ _ _=>A7 (b7 3) (o9 A2 hr (A1 (b7 1) b6))))))))))
variable(b4P:F6 P w K mg base 2 d3Y b8l (b0j K))
abbrev b4k:List Str:=[d3J]
theorem c3B:A4 [d3J,"_law_menu","_law_first","_law_by",d3Z,d3N,"_law_name_here"] b4k (i9 b3V):=by walk_at "sc"
include T A2 b4P in
theorem c4A(F:Fun K d4a d4a b3V f fd):F5 P w K mg base CX0 3 f fd b4k (a7Z K):=fk F c3B fun _ _ _ _ _ _ hr nd=>b4 (y8 1 nd (C2 (C4 d5 (C4 d5 (C4 d5 (a5D d5 d5 d5 d5 d5)))))) (b4 (y8 1 nd (u9 y9 (b7 1) (C2 (C4 d5 (C4 d5 (C4 d5 (a5D d5 d5 d5 d5 d5))))))) (b4 (y8 2 nd (o9 A2 hr (A1 (b7 0) b6))) (b4 (y8 3 nd (u9 y9 b6 (u9 a3i b6 (o9 A2 hr (A1 (b7 0) b6))))) (b4 (y8 4 nd (C2 W5)) (b4 (S0 PassesOwn.never rfl (M3 rfl T.a0k (j5 (u9 y9 b6 (o9 A2 hr (A1 (b7 0) b6))))) (W3 5 nd) (b4 (y8 6 nd (A7 (b7 1) (u9 a1D (u9 y9 (b7 2) (u9 a3i (b7 5) (b7 3))) b6))) (b4 (w4 (D0 (C3 hr) (o9 A2 hr (A1 (b7 0) b6)) b6) (b8 (y8 6 nd (o9 b4P hr (j5 (b7 0))))) o5) (b8 (w4 (a0N b5m (b7 6) (b7 4) rfl) (b8 (J7 (R5 A3 O0 N9 a0e (b7 4) (j5 (b7 6))))) o5))))) (b8 (o8 (b7 4))))))))
variable(b0w:F6 P w K mg base 3 d4a b4k (a7Z K))
abbrev b4i:List Str:=[d3J]
theorem c3z:A4 [d3J] b4i (i9 b3S):=by walk_at "sc"
include T A2 in
theorem c4y(F:Fun K d4b d4b b3S f fd):F5 P w K mg base CX0 2 f fd b4i (a7W K):=fk F c3z fun _ _ _ _ _ _ hr nd=>b8 (o8 (A7 (C2 (b5l b6 b6 (u9 a3h (u9 a3h (u9 c0P b6 b6) b6) (o9 A2 hr (A1 (b7 0) b6))) (o9 A2 hr (A1 (b7 0) b6)))) (o9 A2 hr (A1 (b7 0) b6))))
variable(b0v:F6 P w K mg base 2 d4b b4i (a7W K))
abbrev a9m:List Str:=[d3J,d3Z]
theorem b7N:A4 [d3J,d3Z] a9m (i9 a8Y):=by walk_at "sc"
include T A2 b0v in
theorem b8s(F:Fun K d4c d4c a8Y f fd):F5 P w K mg base CX0 3 f fd a9m (a0E K):=fk F b7N fun _ _ _ _ _ _ hr nd=>b4 (w4 (D0 (C3 hr) (o9 A2 hr (A1 (b7 0) b6)) b6) (b8 (o8 (o9 b0v hr (j5 (b7 0))))) o5) (b8 (o8 (A7 (b7 1) (o9 A2 hr (A1 (b7 0) (g9 o6 rfl T.L6 i8 (j5 (b7 1))))))))
variable(a0u:F6 P w K mg base 3 d4c a9m (a0E K))
abbrev b8m:List Str:=[d3J,d3Z]
theorem c6q:A4 [d3J,d3Z,"_law_kind",d3U,"_law_other"] b8m (i9 b7Y):=by walk_at "sc"
include T A2 a0u in
theorem c7q(F:Fun K d4d d4d b7Y f fd):F5 P w K mg base CX0 4 f fd b8m (b0k K):=fk F c6q fun _ _ _ _ _ _ hr nd=>b4 (y8 2 nd (A7 (C2 (a5D d5 d5 d5 d5 d5)) (o9 A2 hr (A1 (b7 0) b6)))) (b4 (y8 3 nd (o9 a0u hr (A1 (b7 0) (b7 1)))) (b4 (y8 4 nd (o9 a0u hr (A1 (b7 0) (b7 1)))) (b4 (w4 (D0 (C3 hr) (o9 A2 hr (A1 (b7 0) b6)) b6) (b8 (y8 4 nd (b7 3))) o5) (b8 (o8 (W4 (a6K (b7 2) (b7 3) (b7 4))))))))
variable(b4Q:F6 P w K mg base 4 d4d b8m (b0k K))
abbrev c4t:List Str:=[d3J,d3Z,d4e,d3K]
theorem c9c:A4 [d3J,d3Z,d4e,d3K,d3P,"_law_name_here"] c4t (i9 c3F):=by walk_at "sc"
include T A2 a0u in
theorem d0t(F:Fun K d4f d4f c3F f fd):F5 P w K mg base CX0 4 f fd c4t (b3L K):=fk F c9c fun _ _ _ _ _ _ hr nd=>b4 (w4 (D0 (C3 hr) (b7 3) b6) (b8 (o8 (W4 (A1 d5 (o9 a0u hr (A1 (b7 0) (b7 1))))))) o5) (b4 (y8 4 nd (o9 A2 hr (A1 (b7 0) b6))) (b4 (y8 5 nd (A7 (b7 1) (o9 A2 hr (A1 (b7 0) (g9 o6 rfl T.L6 i8 (j5 (b7 1))))))) (b4 (w4 (D0 a1P (b7 4) b6) (b8 (o8 (W4 (a6K d5 (b7 5) (A7 (b7 2) (o9 A2 hr (A1 (b7 0) (g9 o6 rfl T.L6 i8 (j5 (b7 2)))))))))) o5) (b4 (w4 (D0 (C3 hr) (b7 4) b6) (b8 (o8 (W4 (a6K d5 (b7 5) (o9 a0u hr (A1 (b7 0) (b7 1))))))) o5) (b4 (w4 (D0 (C3 hr) (b7 4) b6) (b8 (o8 (W4 (A1 d5 (b7 5))))) o5) (b8 (o8 (A7 (C2 (A1 (W4 (A1 d5 (o9 a0u hr (A1 (b7 0) (b7 1))))) (W4 (j5 d5)))) (o9 A2 hr (A1 (b7 0) b6))))))))))
variable(c0q:F6 P w K mg base 4 d4f c4t (b3L K))
abbrev b4l:List Str:=[d3J]
theorem c3D:A4 [d3J,d3K,d3M,d3Z,d4e] b4l (i9 a8h):=by walk_at "sc"
theorem b8Z:Q1 [d3J,d3K,d3M,d3Z,d4e] (i9 a8h) (scF [ (".0",.local),(d3N,.local),(d4d,.globalImplicit),(d3J,.free),(d3Z,.free)]) d3N := by walk_at "c0"
theorem b8Y:Q1 [d3J,d3K,d3M,d3Z,d4e] (i9 a8h) (scF [ (".0",.local),(d3O,.local),(d4f,.globalImplicit),("len",.globalImplicit),(d3J,.free),(d3Z,.free),(d4e,.free)]) d3O := by walk_at "c0"
include T A2 c0r a8A b0w b4Q c0q in
theorem c4B(F:Fun K d4g d4g a8h f fd):F5 P w K mg base CX0 5 f fd b4l (a8a K):=fk F c3D fun _ _ _ _ _ _ hr nd=>b4 (y8 1 nd (u9 y9 b6 (o9 A2 hr (A1 (b7 0) b6)))) (b4 (w4 (D0 (C3 hr) (o9 A2 hr (A1 (b7 0) b6)) b6) (b8 (y8 1 nd (u9 y9 b6 (o9 A2 hr (A1 (b7 0) b6))))) o5) (b4 (y8 2 nd (o9 a8A hr (j5 (o9 c0r hr (A1 (b7 0) (b7 1)))))) (b4 (y8 3 nd (o9 b0w hr (j5 (b7 0)))) (b4 (y8 4 nd (M8 b8Z rfl (M3 rfl T.a0k (j5 (u9 y9 b6 (o9 A2 hr (A1 (b7 0) b6))))) (fun _ _ _ _ _=>I0) (fun _ _ _ _ _=>o9 b4Q hr (A1 (b7 1) (b7 4))))) (b8 (o8 (W4 (A1 (M8 b8Y rfl (O8 (b7 2)) (fun _ _ _ _ _=>I0) (fun _ _ _ _ _=>o9 c0q hr (b5l (b7 1) (b7 4) (b7 5) (g9 o6 rfl T.L6 i8 (j5 (b7 0)))))) (b7 2)))))))))
variable(b0x:F6 P w K mg base 5 d4g b4l (a8a K))
abbrev a7t:List Str:=["row"]
theorem b5N:A4 ["row","words","part"] a7t (i9 a7k):=by walk_at "sc"
include T in
theorem b6h(F:Fun K d4h d4h a7k f fd):F5 P w K mg base CX0 1 f fd a7t (a3K K):=fk F b5N fun _ _ _ _ _ _ hr nd=>b4 (y8 1 nd (C2 W5)) (b4 (S0 PassesOwn.never rfl (c2Q (b7 0)) (W3 2 nd) (b8 (J7 (R5 A3 Y9 a1B b0I (b7 1) (j5 (a4D (Q8 (g9 O9 rfl T.G9 t6 (A1 (b7 2) (T3 rfl T.a8I Y6 rfl)))) (b7 2) (C2 (j5 (b7 2))))))))) (b8 (o8 (b7 1))))
variable(a5b:F6 P w K mg base 1 d4h a7t (a3K K))
abbrev a4a:List Str:=["row",d4i]
theorem b1f:A4 ["row",d4i,"words"] a4a (i9 a2w):=by walk_at "sc"
theorem a9x:Q1 ["row",d4i,"words"] (i9 a2w) (scF [ (".0",.local),("word",.local),("str",.globalImplicit)]) "word" := by walk_at "c0"
include T a5b in
theorem b1B(F:Fun K d4j d4j a2w f fd):F5 P w K mg base CX0 2 f fd a4a (a1T K):=fk F b1f fun _ _ _ _ _ _ hr nd=>b4 (y8 2 nd (o9 a5b hr (j5 (b7 0)))) (b4 (w4 (D0 a2C (g9 o6 rfl T.L6 i8 (j5 (b7 1))) b6) (b4 (J7 (R5 A3 O0 N9 a0e (b7 2) (j5 d5))) (b8 (J7 (R5 A3 Y9 a1B b0I (b7 2) (j5 (b7 1)))))) o5) (b8 (o8 (R5 L9 a0A a0z a3r d5 (j5 (M8 a9x rfl (O8 (b7 2)) (fun _ _ _ _ _=>I0) (fun _ _ _ _ _=>V1 (a4F hr) rfl T.b3C V8 (j5 (b7 0)))))))))
variable(a2y:F6 P w K mg base 2 d4j a4a (a1T K))
abbrev b4j:List Str:=["plan"]
theorem c3A:A4 ["plan"] b4j (i9 b0m):=by walk_at "sc"
theorem b8X:a3Q ["plan"] (i9 b0m) (scF [ (".0",.local),("row",.local),(d4i,.local),(d4j,.globalImplicit)]) "row" d4i := by walk_at "c2"
include T a2y in
theorem c4z(F:Fun K "shown" "shown" b0m f fd):F5 P w K mg base CX0 3 f fd b4j (a3x K):=fk F c3A fun _ _ _ _ _ _ hr nd=>b8 (o8 (R5 L9 a0A a0z a3r d5 (j5 (a4E b8X rfl (b0F rfl T.c5K (A1 (a3p (b7 0)) (a3p (b7 0)))) (fun _ _ _ _ _=>I0) (fun _ _ _ _ _=>o9 a2y hr (A1 (b7 0) (b7 1)))))))
variable(c_shown:F6 P w K mg base 3 "shown" b4j (a3x K))
abbrev b8k:List Str:=[d3J,d4k,d3X]
theorem c6o:A4 [d3J,d4k,d3X,d3O] b8k (i9 b3T):=by walk_at "sc"
theorem c2e:Q1 [d3J,d4k,d3X,d3O] (i9 b3T) (scF [ (".0",.local),(d3N,.local),(d3X,.free),(d4k,.free)]) d3N := by walk_at "c0"
include T A2 in
theorem c7n(F:Fun K d4l d4l b3T f fd):F5 P w K mg base CX0 2 f fd b8k (a6n K):=fk F c6o fun _ _ _ _ _ _ hr nd=>b4 (a2X (n:=3) nd rfl rfl c2e rfl (M3 rfl T.a0k (j5 (g9 o6 rfl T.L6 i8 (j5 (b7 1))))) (fun _ _ _ _ _=>a8N (a0N a1e (A7 (b7 2) (b7 0)) (b7 3) rfl)) (fun _ _ _ _ _=>b7 0)) (b8 (o8 (A7 (b7 3) (o9 A2 hr (A1 (b7 0) (g9 o6 rfl T.L6 i8 (j5 (b7 3))))))))
variable(b2f:F6 P w K mg base 2 d4l b8k (a6n K))
abbrev a7A:List Str:=[d3J]
theorem b5W:A4 [d3J,"_law_odd"] a7A (i9 a7q):=by walk_at "sc"
include T A2 in
theorem b6q(F:Fun K d4m d4m a7q f fd):F5 P w K mg base CX0 2 f fd a7A (a3M K):=fk F b5W fun _ _ _ _ _ _ hr nd=>b4 (y8 1 nd (C2 (C4 d5 (C4 d5 (C4 d5 (C4 d5 (C4 d5 (a5D d5 d5 d5 d5 d5)))))))) (b4 (y8 1 nd (u9 y9 (b7 1) (C2 (b5l d5 d5 d5 d5)))) (b4 (y8 1 nd (u9 y9 (b7 1) (C2 (C4 d5 (a5D d5 d5 d5 d5 (u9 y9 d5 (u9 b7v d5 b6))))))) (b8 (o8 (A7 (b7 1) (o9 A2 hr (A1 (b7 0) (g9 o6 rfl T.L6 i8 (j5 (b7 1))))))))))
variable(a5e:F6 P w K mg base 2 d4m a7A (a3M K))
abbrev b1x:List Str:=[d3J,d4k]
theorem c1g:A4 [d3J,d4k,d3P,"_law_at",d3O,"_law_lines"] b1x (i9 a8e):=by walk_at "sc"
theorem b6S:Q1 [d3J,d4k,d3P,"_law_at",d3O,"_law_lines"] (i9 a8e) (scF [ (".0",.local),(d3N,.local),(d4k,.free)]) d3N := by walk_at "c0"
include T A2 b2f a5e in
theorem c1C(F:Fun K d4n d4n a8e f fd):F5 P w K mg base CX0 3 f fd b1x (a6m K):=fk F c1g fun _ _ _ _ _ _ hr nd=>b4 (y8 2 nd (o9 A2 hr (A1 (b7 0) b6))) (b4 (y8 3 nd (o9 A2 hr (A1 (b7 0) (u9 y9 (g9 o6 rfl T.L6 i8 (j5 (b7 1))) b6)))) (b4 (w4 (D0 (C3 hr) (b7 2) b6) (b8 (o8 (u9 y9 (u9 y9 (K9 a0q (b7 1) M7 (M6 (b7 3))) d5) (K9 a0q (b7 1) (M6 (b7 3)) M7)))) o5) (b4 (w4 (D0 (C3 hr) (b7 2) b6) (b8 (o8 (u9 y9 (u9 y9 (K9 a0q (b7 1) M7 (M6 (b7 3))) (A7 d5 (o9 A2 hr (A1 (b7 0) b6)))) (K9 a0q (b7 1) (M6 (b7 3)) M7)))) o5) (b4 (w4 (D0 (C3 hr) (b7 2) b6) (b4 (a2X (n:=4) nd rfl rfl b6S rfl (b5k rfl T.a0k (A1 b6 (g9 o6 rfl T.L6 i8 (j5 (b7 1))))) (fun _ _ _ _ _=>a8N (Q3 (a3o (D0 (C3 hr) (A7 (b7 2) (u9 a3h (b7 0) b6)) d5) (a2p (a0N a1e (A7 (b7 2) (b7 0)) d5 rfl))))) (fun _ _ _ _ _=>b7 0)) (b8 (w4 (D0 (a3q hr) (b7 4) (C2 W5)) (b4 (y8 3 nd (A7 (b7 4) (o9 A2 hr (A1 (b7 0) (g9 o6 rfl T.L6 i8 (j5 (b7 4))))))) (b8 (o8 (u9 y9 (u9 y9 (K9 a0q (b7 1) M7 (M6 (b7 3))) d5) (K9 a0q (b7 1) (M6 (b7 3)) M7))))) o5))) o5) (b4 (w4 (Q3 (a3o (D0 (C3 hr) (b7 2) b6) (a2p (a0N a1e d5 (b7 1) rfl)))) (b4 (y8 3 nd (o9 b2f hr (a6K (b7 0) (b7 1) d5))) (b8 (o8 (u9 y9 (K9 a0q (b7 1) M7 (M6 (b7 3))) (K9 a0q (b7 1) (M6 (u9 y9 (b7 3) b6)) M7))))) o5) (b4 (w4 (D0 (C3 hr) (b7 2) b6) (b8 (o8 (u9 y9 (b7 1) (A7 (C2 (C4 d5 (C4 d5 (C4 d5 (a5D d5 d5 d5 (u9 y9 d5 (b7 1)) (u9 y9 d5 (b7 1))))))) (o9 A2 hr (A1 (b7 0) b6)))))) o5) (b4 (w4 (D0 (C3 hr) (b7 2) b6) (b8 (o8 (u9 y9 (A7 (C2 (a5D d5 d5 d5 d5 d5)) (o9 A2 hr (A1 (b7 0) b6))) (b7 1)))) o5) (b4 (w4 (D0 (C3 hr) (b7 2) b6) (b8 (o8 (A7 (C2 (C4 a7O (C4 b6 (a5D a0O (C2 (j5 (b7 1))) (W4 (j5 (b7 1))) a7b d5)))) (o9 A2 hr (A1 (b7 0) b6))))) o5) (b4 (w4 (Q3 (a3o (D0 (C3 hr) (b7 2) b6) (a2p (a0N a1e d5 (b7 1) rfl)))) (b4 (y8 3 nd (o9 b2f hr (a6K (b7 0) (b7 1) d5))) (b8 (o8 (u9 y9 (u9 y9 (K9 a0q (b7 1) M7 (M6 (b7 3))) (A7 (C2 (C4 d5 (a5D d5 d5 d5 d5 d5))) (o9 A2 hr (A1 (b7 0) b6)))) (K9 a0q (b7 1) (M6 (u9 y9 (b7 3) b6)) M7))))) o5) (b4 (y8 5 nd (R5 L9 V7 a5x a5F (b7 1) (j5 d5))) (b4 (y8 3 nd (o9 A2 hr (A1 (b7 0) (g9 o6 rfl T.L6 i8 (j5 (b7 5)))))) (b8 (o8 (R5 L9 a0A a0z a3r d5 (j5 (u9 y9 (u9 y9 (K9 a7a (b7 5) M7 (M6 (b7 3))) (C2 (j5 (o9 a5e hr (j5 (b7 0)))))) (K9 a7a (b7 5) (M6 (u9 y9 (b7 3) b6)) M7)))))))))))))))))
variable(a8z:F6 P w K mg base 3 d4n b1x (a6m K))
abbrev a9n:List Str:=[d3J]
theorem b7O:A4 [d3J,"_law_odd"] a9n (i9 a6q):=by walk_at "sc"
theorem b4H:Q1 [d3J,"_law_odd"] (i9 a6q) (scF [ (".0",.local),(d3N,.local),("str",.globalImplicit)]) d3N := by walk_at "c0"
include T A2 in
theorem b8t(F:Fun K d4o d4o a6q f fd):F5 P w K mg base CX0 2 f fd a9n (a4L K):=fk F b7O fun _ _ _ _ _ _ hr nd=>b4 (w4 (D0 (C3 hr) (o9 A2 hr (A1 (b7 0) b6)) b6) (b8 (o8 (R5 L9 a0A a0z a3r d5 (j5 (u9 y9 (M8 b4H rfl (M3 rfl T.a0k (j5 b6)) (fun _ _ _ _ _=>I0) (fun _ _ _ _ _=>u9 y9 d5 (V1 (a4F hr) rfl T.b3C V8 (j5 (u9 y9 (b7 0) b6))))) (C2 (j5 d5))))))) o5) (b4 (y8 1 nd (C2 (a5D d5 d5 d5 d5 d5))) (b4 (y8 1 nd (u9 y9 (b7 1) (C2 (j5 d5)))) (b4 (y8 1 nd (u9 y9 (b7 1) (C2 (a5D d5 d5 d5 d5 d5)))) (b8 (o8 (A7 (b7 1) (o9 A2 hr (A1 (b7 0) (g9 o6 rfl T.L6 i8 (j5 (b7 1)))))))))))
variable(a6A:F6 P w K mg base 2 d4o a9n (a4L K))
abbrev a7u:List Str:=["word"]
theorem b5O:A4 ["word"] a7u (i9 a4N):=by walk_at "sc"
theorem b2B:Q1 ["word"] (i9 a4N) (scF [ (".0",.local),("sign",.local),("FIGURES",.globalImplicit)]) "sign" := by walk_at "c0"
include T in
theorem b6i(F:Fun K d4p d4p a4N f fd):F5 P w K mg base CX0 1 f fd a7u (a0D K):=fk F b5O fun _ _ _ _ _ _ hr nd=>b4 (w4 (Q3 (a3o (b0D a1P a5E b6 (g9 o6 rfl T.L6 i8 (j5 (b7 0))) (g9 o6 rfl T.L6 i8 (j5 (V1 (a4F hr) rfl T.b3C V8 (j5 (L3 T.c0H rfl)))))) (a2p (Q8 (g9 (a5G rfl) rfl T.c5M a4A (j5 (M8 b2B rfl (b5j (b7 0)) (fun _ _ _ _ _=>I0) (fun _ _ _ _ _=>a1C a1e (b7 0) (L3 T.b3B rfl) rfl)))))))) (b8 (o8 (V1 b3F rfl T.c8S b2K (j5 (b7 0))))) o5) (b8 (o8 (b7 0)))
variable(c_thing_of:F6 P w K mg base 1 d4p a7u (a0D K))
abbrev b1y:List Str:=[d4q]
theorem c1h:A4 [d4q] b1y (i9 b1g):=by walk_at "sc"
include T in
theorem c1D(F:Fun K "row_of" "row_of" b1g f fd):F5 P w K mg base CX0 1 f fd b1y (a4r K):=fk F c1h fun _ _ _ _ _ _ hr nd=>b4 (w4 (D0 (C3 hr) (g9 o6 rfl T.L6 i8 (j5 (b7 0))) b6) (b8 (o8 (W4 (a6K (A7 (b7 0) b6) (A7 (b7 0) b6) (V1 a6L rfl T.a8I Y6 (j5 (K9 a7a (b7 0) (M6 b6) M7))))))) o5) (b8 (o8 (V1 a6L rfl T.a8I Y6 (j5 (b7 0)))))
variable(c_row_of:F6 P w K mg base 1 "row_of" b1y (a4r K))
abbrev Z8:List Str:=[d4q,"at","least"]
theorem a5m:A4 [d4q,"at","least"] Z8 (i9 a1Y):=by walk_at "sc"
include T in
theorem a5o(F:Fun K d4r d4r a1Y f fd):F5 P w K mg base CX0 1 f fd Z8 (a0m K):=fk F a5m fun _ _ _ _ _ _ hr nd=>b4 (w4 (Q3 (a0d (W0 (Q8 (g9 O9 rfl T.G9 t6 (A1 (b7 0) (T3 rfl T.a5j J2 rfl))))) (V9 (D0 a1P (g9 o6 rfl T.L6 i8 (j5 (b7 0))) (b7 2))))) (b8 a1v) o5) (b8 (w4 (D0 a2C (g9 o6 rfl T.L6 i8 (j5 (b7 0))) (L3 T.b9m rfl)) (b8 a1v) o5))
variable(c_check_length:F6 P w K mg base 1 d4r Z8 (a0m K))
abbrev a9o:List Str:=[d4s]
theorem b7P:A4 [d4s] a9o (i9 a6r):=by walk_at "sc"
theorem b4I:Q1 [d4s] (i9 a6r) (scF [ (".0",.local),("sign",.local),("LETTERS",.globalImplicit),("FIGURES",.globalImplicit)]) "sign" := by walk_at "c0"
include T in
theorem b8u(F:Fun K "is_name" "is_name" a6r f fd):F5 P w K mg base CX0 1 f fd a9o (T6 K):=fk F b7P fun _ _ _ _ _ _ hr nd=>b4 (w4 (Q3 (a0d (W0 (Q8 (g9 O9 rfl T.G9 t6 (A1 (b7 0) (T3 rfl T.b3C V8 rfl))))) (V9 (W0 (b0D a5E a5E b6 (g9 o6 rfl T.L6 i8 (j5 (b7 0))) (L3 T.b2p rfl)))))) (b8 (o8 a0O)) o5) (b8 (o8 (U3 (a1C a1e (A7 (b7 0) b6) (L3 T.b3A rfl) rfl) (X6 (g9 (a5G rfl) rfl T.c5M a4A (j5 (M8 b4I rfl (b5j (b7 0)) (fun _ _ _ _ _=>I0) (fun _ _ _ _ _=>a1C a1e (b7 0) (u9 y9 (L3 T.b3A rfl) (L3 T.b3B rfl)) rfl))))))))
variable(a0U:F6 P w K mg base 1 "is_name" a9o (T6 K))
abbrev a7x:List Str:=[d4s]
theorem b5R:A4 [d4s] a7x (i9 a7l):=by walk_at "sc"
include T in
theorem b6l(F:Fun K d4t d4t a7l f fd):F5 P w K mg base CX0 1 f fd a7x (a0F K):=fk F b5R fun _ _ _ _ _ _ hr nd=>b8 (o8 (U3 (g9 O9 rfl T.G9 t6 (A1 (b7 0) (T3 rfl T.c8S b2K rfl))) (X6 (c2S (g9 O9 rfl T.G9 t6 (A1 (b7 0) (T3 rfl T.d1q PyProof.Rows.boot_bool rfl)))))))
variable(a1z:F6 P w K mg base 1 d4t a7x (a0F K))
abbrev a7y:List Str:=[d4s]
theorem b5S:A4 [d4s] a7y (i9 a7m):=by walk_at "sc"
include T a1z in
theorem b6m(F:Fun K d4u d4u a7m f fd):F5 P w K mg base CX0 2 f fd a7y (a2E K):=fk F b5S fun _ _ _ _ _ _ hr nd=>b8 (o8 (U3 (o9 a1z hr (j5 (b7 0))) (X6 (b0H a5E a1P b6 (b7 0) (L3 T.c0H rfl)))))
variable(a5c:F6 P w K mg base 2 d4u a7y (a2E K))
abbrev a4X:List Str:=[d4s]
theorem b2v:A4 [d4s] a4X (i9 a4Q):=by walk_at "sc"
include T a0U a5c in
theorem b2x(F:Fun K d4v d4v a4Q f fd):F5 P w K mg base CX0 3 f fd a4X (V3 K):=fk F b2v fun _ _ _ _ _ _ hr nd=>b8 (o8 (c5S (o9 a0U hr (j5 (b7 0))) (X6 (o9 a5c hr (j5 (b7 0))))))
variable(V0:F6 P w K mg base 3 d4v a4X (V3 K))
abbrev a9p:List Str:=[d4s]
theorem b7Q:A4 [d4s] a9p (i9 a8Z):=by walk_at "sc"
include T V0 in
theorem b8v(F:Fun K "is_deed" "is_deed" a8Z f fd):F5 P w K mg base CX0 4 f fd a9p (a0G K c):=fk F b7Q fun _ _ _ _ _ _ hr nd=>b4 (w4 (Q3 (a0d (W0 (Q8 (g9 O9 rfl T.G9 t6 (A1 (b7 0) (T3 rfl T.a8I Y6 rfl))))) (V9 (D0 (a3q hr) (g9 o6 rfl T.L6 i8 (j5 (b7 0))) b6)))) (b8 (o8 a0O)) o5) (b8 (o8 (U3 (a1C c0Q (A7 (b7 0) b6) (L3 T.b5b rfl) rfl) (U3 (o9 V0 hr (j5 (A7 (b7 0) b6))) (X6 (o9 V0 hr (j5 (A7 (b7 0) b6))))))))
variable(a6B:F6 P w K mg base 4 "is_deed" a9p (a0G K c))
abbrev b1A:List Str:=[d4s]
theorem c1j:A4 [d4s,"kind","rest"] b1A (i9 b1h):=by walk_at "sc"
include T a0U V0 a6B in
theorem c1F(F:Fun K "is_row" "is_row" b1h f fd):F5 P w K mg base CX0 5 f fd b1A (a0r K c):=fk F c1j fun _ _ _ _ _ _ hr nd=>b4 (w4 (Q3 (a0d (W0 (Q8 (g9 O9 rfl T.G9 t6 (A1 (b7 0) (T3 rfl T.a8I Y6 rfl))))) (V9 (D0 (C3 hr) (g9 o6 rfl T.L6 i8 (j5 (b7 0))) b6)))) (b8 (o8 a0O)) o5) (b4 (y8 1 nd (A7 (b7 0) b6)) (b4 (y8 2 nd (K9 a7a (b7 0) (M6 b6) M7)) (b4 (w4 (D0 (C3 hr) (b7 1) d5) (b8 (o8 (U3 (a8P (C3 hr) (g9 o6 rfl T.L6 i8 (j5 (b7 2))) b6) (U3 (o9 a0U hr (j5 (A7 (b7 2) b6))) (X6 (o9 a6B hr (j5 (A7 (b7 2) b6)))))))) o5) (b4 (w4 (D0 (C3 hr) (b7 1) d5) (b8 (o8 (U3 (a8P (C3 hr) (g9 o6 rfl T.L6 i8 (j5 (b7 2))) b6) (U3 (o9 a0U hr (j5 (A7 (b7 2) b6))) (X6 (o9 V0 hr (j5 (A7 (b7 2) b6)))))))) o5) (b4 (w4 (D0 (C3 hr) (b7 1) d5) (b8 (o8 (U3 (a8P (C3 hr) (g9 o6 rfl T.L6 i8 (j5 (b7 2))) b6) (X6 (o9 a0U hr (j5 (A7 (b7 2) b6))))))) o5) (b4 (w4 (a0N a1e (b7 1) (W4 (A1 d5 d5)) rfl) (b8 (o8 (U3 (a8P (C3 hr) (g9 o6 rfl T.L6 i8 (j5 (b7 2))) b6) (X6 (o9 V0 hr (j5 (A7 (b7 2) b6))))))) o5) (b8 (o8 (U3 (a8P (C3 hr) (b7 1) d5) (X6 (a8P (C3 hr) (g9 o6 rfl T.L6 i8 (j5 (b7 2))) b6)))))))))))
variable(c_is_row:F6 P w K mg base 5 "is_row" b1A (a0r K c))
abbrev a0T:List Str:=["rights"]
theorem a6T:A4 ["rights","k","right"] a0T (i9 a3a):=by walk_at "sc"
include T in
theorem a6W(F:Fun K d4w d4w a3a f fd):F5 P w K mg base CX0 1 f fd a0T (a0s K):=fk F a6T fun _ _ _ _ _ _ hr nd=>b8 (S0 PassesOwn.never rfl (a4k rfl T.a2L (j5 (b7 0))) (a5C rfl (Y1 (W3 1 nd) (Y1 (W3 2 nd) a4l))) (b8 (w4 (W0 (Q8 (b7 2))) (b8 a1v) o5)))
variable(c_check_each:F6 P w K mg base 1 d4w a0T (a0s K))
abbrev a7z:List Str:=[d4s,"many"]
theorem b5T:A4 [d4s,"many"] a7z (i9 a7n):=by walk_at "sc"
include T a1z in
theorem b6n(F:Fun K d4x d4x a7n f fd):F5 P w K mg base CX0 2 f fd a7z (a2F K):=fk F b5T fun _ _ _ _ _ _ hr nd=>b8 (o8 (U3 (o9 a1z hr (j5 (b7 0))) (X6 (b0H a5E a1P b6 (b7 0) (b7 1)))))
variable(a5d:F6 P w K mg base 2 d4x a7z (a2F K))
abbrev a5S:List Str:=["row",d4i,"many"]
theorem b3R:A4 ["row",d4i,"many","wanted"] a5S (i9 a3N):=by walk_at "sc"
theorem b2b:Q1 ["row",d4i,"many","wanted"] (i9 a3N) (scF [ (".0",.local),(d4y,.local),(d4x,.globalImplicit),("many",.free)]) d4y := by walk_at "c0"
include T a5d in
theorem b4o(F:Fun K d4z d4z a3N f fd):F5 P w K mg base CX0 3 f fd a5S (a0f K):=fk F b3R fun _ _ _ _ _ _ hr nd=>b4 (w4 (W0 (Q8 (g9 O9 rfl T.G9 t6 (A1 (b7 1) (T3 rfl T.a5j J2 rfl))))) (b8 (o8 a0O)) o5) (b4 (y8 3 nd (a4D (D0 (C3 hr) (A7 (b7 0) b6) d5) (W4 (j5 b6)) (W4 (A1 b6 b6)))) (b8 (o8 (U3 (a1C a1e (g9 o6 rfl T.L6 i8 (j5 (b7 1))) (b7 3) rfl) (X6 (g9 (a5G rfl) rfl T.c5M a4A (j5 (M8 b2b rfl (O8 (b7 1)) (fun _ _ _ _ _=>I0) (fun _ _ _ _ _=>o9 a5d hr (A1 (b7 0) (b7 3)))))))))))
variable(c_are_nexts:F6 P w K mg base 3 d4z a5S (a0f K))
abbrev a0t:List Str:=[d4A,d4B]
theorem a5Q:A4 [d4A,d4B] a0t (i9 a1i):=by walk_at "sc"
theorem a4w:a3Q [d4A,d4B] (i9 a1i) (scF [ (".0",.local),("row",.local),(d4i,.local),(d4z,.globalImplicit),("len",.globalImplicit),(d4A,.free)]) "row" d4i := by walk_at "c2"
include T c_check_each c_are_nexts in
theorem a5T(F:Fun K d4C d4C a1i f fd):F5 P w K mg base CX0 4 f fd a0t (a0H K):=fk F a5Q fun _ _ _ _ _ _ hr nd=>b4 (w4 (Q3 (a0d (W0 (Q8 (g9 O9 rfl T.G9 t6 (A1 (b7 1) (T3 rfl T.a5j J2 rfl))))) (V9 (D0 (a3q hr) (g9 o6 rfl T.L6 i8 (j5 (b7 1))) (g9 o6 rfl T.L6 i8 (j5 (b7 0))))))) (b8 a1v) o5) (b8 (J7 (o9 c_check_each hr (j5 (a4E a4w rfl (b0F rfl T.c5K (A1 (b7 0) (b7 1))) (fun _ _ _ _ _=>I0) (fun _ _ _ _ _=>o9 c_are_nexts hr (a6K (b7 0) (b7 1) (g9 o6 rfl T.L6 i8 (j5 (b7 2))))))))))
variable(c_check_nexts:F6 P w K mg base 4 d4C a0t (a0H K))
abbrev a9k:List Str:=["begins","leads"]
theorem b7L:A4 ["begins","leads","seen","waiting",d4y] a9k (i9 a8X):=by walk_at "sc"
include T in
theorem b8q(F:Fun K "reached" "reached" a8X f fd):F5 P w K mg base CX0 1 f fd a9k (a1w K):=fk F b7L fun _ _ _ _ _ _ hr nd=>b4 (y8 2 nd a7b) (b4 (y8 3 nd (V1 a4G rfl T.a5j J2 (j5 (b7 0)))) (b4 (b7t PassesOwn.never (D0 a2C (g9 o6 rfl T.L6 i8 (j5 (b7 3))) b6) (b4 (y8 4 nd (c2V A3 PySem.F.slot_list_pop PySem.F.type_list_pop c0S (b7 3))) (b8 (w4 (a2B hr (b7 4) (b7 2) rfl) (b4 (a8O hr (b7 2) (b7 4) a0O) (b8 (J7 (R5 A3 Y9 a1B a7P (b7 3) (j5 (A7 (b7 1) (b7 4))))))) o5)))) (b8 (o8 (b7 2)))))
variable(c_reached:F6 P w K mg base 1 "reached" a9k (a1w K))
abbrev b1w:List Str:=[d4B]
theorem c1f:A4 [d4B,"sources",d4y,d4i,"target"] b1w (i9 a8d):=by walk_at "sc"
theorem b6R:Q1 [d4B,"sources",d4y,d4i,"target"] (i9 a8d) (scF [(".0",.local),(d4i,.local)]) d4i := by walk_at "c0"
include T in
theorem c1B(F:Fun K "turned" "turned" a8d f fd):F5 P w K mg base CX0 1 f fd b1w (a4q K):=fk F c1f fun _ _ _ _ _ _ hr nd=>b4 (a2X (n:=1) nd rfl rfl b6R rfl (O8 (b7 0)) (fun _ _ _ _ _=>I0) (fun _ _ _ _ _=>C2 W5)) (b4 (S0 PassesOwn.never rfl (a4k rfl T.a2L (j5 (b7 0))) (a5C rfl (Y1 (W3 2 nd) (Y1 (W3 3 nd) a4l))) (b8 (S0 PassesOwn.never rfl (O8 (b7 3)) (W3 4 nd) (b8 (J7 (R5 A3 O0 N9 a0e (A7 (b7 1) (b7 4)) (j5 (b7 2)))))))) (b8 (o8 (b7 1))))
variable(c_turned:F6 P w K mg base 1 "turned" b1w (a4q K))
abbrev a7v:List Str:=[d4B]
theorem b5P:A4 [d4B] a7v (i9 a4O):=by walk_at "sc"
theorem b2C:a3Q [d4B] (i9 a4O) (scF [ (".0",.local),(d4y,.local),(d4i,.local),("len",.globalImplicit)]) d4y d4i := by walk_at "c2"
include T in
theorem b6j(F:Fun K d4D d4D a4O f fd):F5 P w K mg base CX0 1 f fd a7v (a2D K):=fk F b5P fun _ _ _ _ _ _ hr nd=>b8 (o8 (a4E b2C rfl (a4k rfl T.a2L (j5 (b7 0))) (fun _ _ _ _ _=>a8N (D0 (C3 hr) (g9 o6 rfl T.L6 i8 (j5 (b7 1))) b6)) (fun _ _ _ _ _=>b7 0)))
variable(c_stops_of:F6 P w K mg base 1 d4D a7v (a2D K))
abbrev a0S:List Str:=[d4B]
theorem a6S:A4 [d4B,"begun","ending",d4y] a0S (i9 a2Z):=by walk_at "sc"
include T c_reached c_turned c_stops_of in
theorem a6V(F:Fun K d4E d4E a2Z f fd):F5 P w K mg base CX0 2 f fd a0S (a1h K):=fk F a6S fun _ _ _ _ _ _ hr nd=>b4 (y8 1 nd (o9 c_reached hr (A1 (C2 (j5 b6)) (b7 0)))) (b4 (y8 2 nd (o9 c_reached hr (A1 (o9 c_stops_of hr (j5 (b7 0))) (o9 c_turned hr (j5 (b7 0)))))) (b8 (S0 PassesOwn.never rfl (M3 rfl T.a0k (j5 (g9 o6 rfl T.L6 i8 (j5 (b7 0))))) (W3 3 nd) (b8 (w4 (Q3 (a0d (a2B hr (b7 3) (b7 1) rfl) (V9 (a2B hr (b7 3) (b7 2) rfl)))) (b8 a1v) o5)))))
variable(c_check_ways:F6 P w K mg base 2 d4E a0S (a1h K))
abbrev a7w:List Str:=[d4B]
theorem b5Q:A4 [d4B,"steps",d4y,d4i] a7w (i9 a4P):=by walk_at "sc"
theorem b2D:Q1 [d4B,"steps",d4y,d4i] (i9 a4P) (scF [ (".0",.local),("at",.local),(d4y,.free)]) "at" := by walk_at "c0"
include T in
theorem b6k(F:Fun K d4F d4F a4P f fd):F5 P w K mg base CX0 1 f fd a7w (a3L K c):=fk F b5Q fun _ _ _ _ _ _ hr nd=>b4 (y8 1 nd (C2 (j5 (L3 T.a8H rfl)))) (b4 (S0 PassesOwn.never rfl (a4k rfl T.a2L (j5 (b7 0))) (a5C rfl (Y1 (W3 2 nd) (Y1 (W3 3 nd) a4l))) (b8 (J7 (R5 A3 Y9 a1B a7P (b7 1) (j5 (M8 b2D rfl (M3 rfl T.a0k (j5 (g9 o6 rfl T.L6 i8 (j5 (b7 3))))) (fun _ _ _ _ _=>I0) (fun _ _ _ _ _=>W4 (A1 (b7 3) (b7 0))))))))) (b8 (o8 (b7 1))))
variable(c_steps_of:F6 P w K mg base 1 d4F a7w (a3L K c))
abbrev a2S:List Str:=[d4G,"step"]
theorem a8V:A4 [d4G,"step"] a2S (i9 a2Q):=by walk_at "sc"
include T in
theorem a9q(F:Fun K "leads_to" "Plan.leads_to" a2Q f fd):F5 P w K mg base CX0 1 f fd a2S (a0P K c):=fk F a8V fun _ _ _ _ _ _ hr nd=>b4 (w4 (a0N (c0R hr) (b7 1) (L3 T.a8H rfl) (b1G _)) (b8 (o8 b6)) o5) (b8 (o8 (A7 (A7 (a3p (b7 0)) (A7 (b7 1) b6)) (A7 (b7 1) b6))))
variable(c_Plan_leads_to:b0y P w K mg base 1 "leads_to" c.S9 a2S (a0P K c))
abbrev a1E:List Str:=[d4G,d4A,d4B]
theorem a8c:A4 [d4G,d4A,d4B,"step"] a1E (i9 a0I):=by walk_at "sc"
theorem a6c:Q1 [d4G,d4A,d4B,"step"] (i9 a0I) (scF [ (".0",.local),("row",.local),("is_row",.globalImplicit)]) "row" := by walk_at "c0"
theorem b2d:Q1 [d4G,d4A,d4B,"step"] (i9 a0I) (scF [ (".0",.local),(d4i,.local),("list",.globalImplicit)]) d4i := by walk_at "c0"
theorem b2c:Q1 [d4G,d4A,d4B,"step"] (i9 a0I) (scF [(".0",.local),("row",.local)]) "row" := by walk_at "c0"
include T c_check_length c_is_row c_check_each c_check_nexts c_check_ways c_steps_of c_Plan_leads_to in
theorem a8p(F:Fun K d3G "Plan.__init__" a0I f fd):F5 P w K mg base CX0 6 f fd a1E (a1U K c):=fk F a8c fun _ _ _ _ _ _ hr nd=>b4 (J7 (o9 c_check_length hr (a6K (b7 1) b6 b6))) (b4 (J7 (o9 c_check_each hr (j5 (M8 a6c rfl (O8 (b7 1)) (fun _ _ _ _ _=>I0) (fun _ _ _ _ _=>o9 c_is_row hr (j5 (b7 0))))))) (b4 (J7 (o9 c_check_nexts hr (A1 (b7 1) (b7 2)))) (b4 (J7 (o9 c_check_ways hr (j5 (b7 2)))) (b4 (b0E (b7 0) (V1 a4G rfl T.a5j J2 (j5 (b7 1)))) (b4 (b0E (b7 0) (M8 b2d rfl (O8 (b7 2)) (fun _ _ _ _ _=>I0) (fun _ _ _ _ _=>V1 a4G rfl T.a5j J2 (j5 (b7 0))))) (b4 (b0E (b7 0) (M8 b2c rfl (O8 (b7 1)) (fun _ _ _ _ _=>I0) (fun _ _ _ _ _=>C2 W5))) (b8 (S0 PassesOwn.never rfl (O8 (o9 c_steps_of hr (j5 (a3p (b7 0))))) (W3 3 nd) (b8 (J7 (R5 A3 O0 N9 a0e (A7 (a3p (b7 0)) (c2T c_Plan_leads_to hr (by decide) (b7 0) (j5 (b7 3)))) (j5 (b7 3)))))))))))))
variable(b4s:b7f P w K mg base 6 "Plan" c.S9 a1E (a1U K c))
theorem c1k:A4 [d4G,"at"] [d4G,"at"] (i9 b1i):=by walk_at "sc"
theorem c1G(F:Fun K d3G "Wrong.__init__" b1i f fd):F5 P w K mg base CX0 1 f fd [d4G,"at"] (P4 K "at"):=
 a4m F c1k (fun vs H Q E h=>by obtain⟨a,v,C,rfl,_⟩:=h;rfl) fun cdv A outer s H vs Q E hr h=>⟨b3d K (b5 0) (b5 1) "at",b8 (a6i (b7 0) (b7 1)),by
  obtain⟨a,v,C,rfl,h1,h2,h3,q⟩:=h
  exact⟨v,rfl,.ref a,rfl,a,C,rfl,h1,h2,h3,q⟩⟩
theorem b5V:A4 [d4G,"at"] [d4G,"at"] (i9 a7p):=by walk_at "sc"
theorem b6p(F:Fun K d3G "NoThing.__init__" a7p f fd):F5 P w K mg base CX0 1 f fd [d4G,"at"] (P4 K "at"):=
 a4m F b5V (fun vs H Q E h=>by obtain⟨a,v,C,rfl,_⟩:=h;rfl) fun cdv A outer s H vs Q E hr h=>⟨b3d K (b5 0) (b5 1) "at",b8 (a6i (b7 0) (b7 1)),by
  obtain⟨a,v,C,rfl,h1,h2,h3,q⟩:=h
  exact⟨v,rfl,.ref a,rfl,a,C,rfl,h1,h2,h3,q⟩⟩
theorem c1l:A4 [d4G,"at"] [d4G,"at"] (i9 b1j):=by walk_at "sc"
theorem c1H(F:Fun K d3G "NoWay.__init__" b1j f fd):F5 P w K mg base CX0 1 f fd [d4G,"at"] (P4 K "at"):=
 a4m F c1l (fun vs H Q E h=>by obtain⟨a,v,C,rfl,_⟩:=h;rfl) fun cdv A outer s H vs Q E hr h=>⟨b3d K (b5 0) (b5 1) "at",b8 (a6i (b7 0) (b7 1)),by
  obtain⟨a,v,C,rfl,h1,h2,h3,q⟩:=h
  exact⟨v,rfl,.ref a,rfl,a,C,rfl,h1,h2,h3,q⟩⟩
theorem b5U:A4 [d4G,d4H] [d4G,d4H] (i9 a7o):=by walk_at "sc"
theorem b6o(F:Fun K d3G "TooMany.__init__" a7o f fd):F5 P w K mg base CX0 1 f fd [d4G,d4H] (P4 K d4H):=
 a4m F b5U (fun vs H Q E h=>by obtain⟨a,v,C,rfl,_⟩:=h;rfl) fun cdv A outer s H vs Q E hr h=>⟨b3d K (b5 0) (b5 1) d4H,b8 (a6i (b7 0) (b7 1)),by
  obtain⟨a,v,C,rfl,h1,h2,h3,q⟩:=h
  exact⟨v,rfl,.ref a,rfl,a,C,rfl,h1,h2,h3,q⟩⟩
section
variable {e:Xn}
variable (mx_Wrong:a4e P w K mg base 1 "Wrong" e.C_Wrong [d4G,"at"] (P4 K "at"))
variable (mx_NoThing:a4e P w K mg base 1 "NoThing" e.C_NoThing [d4G,"at"] (P4 K "at"))
variable (mx_NoWay:a4e P w K mg base 1 "NoWay" e.C_NoWay [d4G,"at"] (P4 K "at"))
variable (mx_TooMany:a4e P w K mg base 1 "TooMany" e.C_TooMany [d4G,d4H] (P4 K d4H))
include T mx_TooMany mx_Wrong in
theorem a9r(F:Fun K d4r d4r a1Y f fd):F5 P w K mg base (CX1 P w) 3 f fd Z8 (a0Q K e):=fkX F a5m fun _ _ _ _ _ E hr nd=>b4 (w4 (Q3 (a0d (W0 (Q8 (g9 O9 rfl T.G9 t6 (A1 (b7 0) (T3 rfl T.a5j J2 rfl))))) (V9 (D0 a1P (g9 o6 rfl T.L6 i8 (j5 (b7 0))) (b7 2))))) (b8 (a7M mx_Wrong a2O hr (j5 (b7 1)))) o5) (b8 (w4 (D0 a2C (g9 o6 rfl T.L6 i8 (j5 (b7 0))) (L3 T.b9m rfl)) (b8 (a7M mx_TooMany a2O hr (j5 (L3 T.b9m rfl)))) o5))
variable (d_check_length:a0y P w K mg base 3 d4r Z8 (a2r K e))
include T mx_NoThing in
theorem b1D(F:Fun K d4w d4w a3a f fd):F5 P w K mg base (CX1 P w) 3 f fd a0T (a3A K e):=fkX F a6T fun _ _ _ _ _ E hr nd=>b8 (S0 PassesOwn.leaving rfl (a4k rfl T.a2L (j5 (b7 0))) (a5C rfl (Y1 (W3 1 nd) (Y1 (W3 2 nd) a4l))) (b8 (w4 (W0 (Q8 (b7 2))) (b8 (a7M mx_NoThing a2O hr (j5 (b7 1)))) o5)))
variable (d_check_each:a0y P w K mg base 3 d4w a0T (a1V K e))
include T mx_Wrong d_check_each c_are_nexts in
theorem b0a(F:Fun K d4C d4C a1i f fd):F5 P w K mg base (CX1 P w) 5 f fd a0t (a1o K e):=fkX F a5Q fun _ _ _ _ _ E hr nd=>b4 (w4 (Q3 (a0d (W0 (Q8 (g9 O9 rfl T.G9 t6 (A1 (b7 1) (T3 rfl T.a5j J2 rfl))))) (V9 (D0 (a3q hr) (g9 o6 rfl T.L6 i8 (j5 (b7 1))) (g9 o6 rfl T.L6 i8 (j5 (b7 0))))))) (b8 (a7M mx_Wrong a2O hr (j5 b6))) o5) (b8 (J7 (a6j a2O d_check_each hr (j5 (a4E a4w rfl (b0F rfl T.c5K (A1 (b7 0) (b7 1))) (fun _ _ _ _ _=>I0) (fun _ _ _ _ _=>o9 c_are_nexts hr (a6K (b7 0) (b7 1) (g9 o6 rfl T.L6 i8 (j5 (b7 2))))))))))
variable (d_check_nexts:a0y P w K mg base 5 d4C a0t (a2P K e))
include T mx_NoWay c_reached c_stops_of c_turned in
theorem b1C(F:Fun K d4E d4E a2Z f fd):F5 P w K mg base (CX1 P w) 3 f fd a0S (a1W K e):=fkX F a6S fun _ _ _ _ _ E hr nd=>b4 (y8 1 nd (o9 c_reached hr (A1 (C2 (j5 b6)) (b7 0)))) (b4 (y8 2 nd (o9 c_reached hr (A1 (o9 c_stops_of hr (j5 (b7 0))) (o9 c_turned hr (j5 (b7 0)))))) (b8 (S0 PassesOwn.leaving rfl (M3 rfl T.a0k (j5 (g9 o6 rfl T.L6 i8 (j5 (b7 0))))) (W3 3 nd) (b8 (w4 (Q3 (a0d (a2B hr (b7 3) (b7 1) rfl) (V9 (a2B hr (b7 3) (b7 2) rfl)))) (b8 (a7M mx_NoWay a2O hr (j5 (b7 3)))) o5)))))
variable (d_check_ways:a0y P w K mg base 3 d4E a0S (a3z K e))
include T c_is_row d_check_each d_check_length d_check_nexts d_check_ways in
theorem b2y(F:Fun K d3G "Plan.__init__" a0I f fd):F5 P w K mg base (CX1 P w) 8 f fd a1E (Y3 K c e):=fkX F a8c fun _ _ _ _ _ E hr nd=>b4 (J7 (a6j a2O d_check_length hr (a6K (b7 1) b6 b6))) (b4 (J7 (a6j a2O d_check_each hr (j5 (M8 a6c rfl (O8 (b7 1)) (fun _ _ _ _ _=>I0) (fun _ _ _ _ _=>o9 c_is_row hr (j5 (b7 0))))))) (b4 (J7 (a6j a2O d_check_nexts hr (A1 (b7 1) (b7 2)))) (b4 (J7 (a6j a2O d_check_ways hr (j5 (b7 2)))) b5h)))
end
section
variable (mr_Plan:a9G P w K mg base 8 "Plan" c.S9 a1E (a3Z K c c.x))(gO:mg "OnceError" = some (.ref c.x.C_OnceError))(xO:a5I K c.x.C_OnceError=true)
abbrev a9l:List Str:=["text"]
theorem b7M:A4 ["text",d4A,d4B,"part",d4q,"end"] a9l (i9 a6p):=by walk_at "sc"
theorem b4G:Q1 ["text",d4A,d4B,"part",d4q,"end"] (i9 a6p) (scF [ (".0",.local),("word",.local),(d4p,.globalImplicit)]) "word" := by walk_at "c0"
include T c_row_of c_thing_of mr_Plan gO xO in
theorem b8r(F:Fun K "plan_of" "plan_of" a6p f fd):F5 P w K mg base CX0 10 f fd a9l (a2q K c):=fk F b7M fun _ _ _ _ _ _ hr nd=>b4 (y8 1 nd (C2 W5)) (b4 (y8 2 nd (C2 W5)) (b4 (S0 PassesOwn.never rfl (O8 (R5 L9 V7 a5x a5F (b7 0) (j5 d5))) (W3 3 nd) (b4 (a2X (n:=4) nd rfl rfl b4G rfl (O8 (R5 L9 V7 a5x a5F (b7 3) (j5 d5))) (fun _ _ _ _ _=>I0) (fun _ _ _ _ _=>o9 c_thing_of hr (j5 (b7 0)))) (b4 (y8 5 nd (a4D (a0N a1e d5 (b7 4) rfl) (R5 A3 a1L b5c b3E (b7 4) (j5 d5)) (g9 o6 rfl T.L6 i8 (j5 (b7 4))))) (b4 (J7 (R5 A3 O0 N9 a0e (b7 1) (j5 (o9 c_row_of hr (j5 (K9 a7a (b7 4) M7 (M6 (b7 5)))))))) (b8 (J7 (R5 A3 O0 N9 a0e (b7 2) (j5 (K9 a7a (b7 4) (M6 (u9 y9 (b7 5) b6)) M7))))))))) (b8 (c0K rfl rfl rfl rfl gO xO (fun EE pins xe W=>b8 (o8 (c5U W mr_Plan hr (A1 (b7 1) (b7 2))))) (fun pins x C dx oe hx=>b8 (o8 a7O))))))
end
variable(c_plan_of:F6 P w K mg base 10 "plan_of" a9l (a2q K c))
abbrev a9j:List Str:=["text"]
theorem b9E:A4 ["text","plan"] a9j (i9 b3U):=by walk_at "sc"
include T c_shown c_plan_of in
theorem c7o(F:Fun K d4I d4I b3U f fd):F5 P w K mg base CX0 11 f fd a9j (a7X K c):=fk F b9E fun _ _ _ _ _ _ hr nd=>b4 (w4 (W0 (Q8 (g9 O9 rfl T.G9 t6 (A1 (b7 0) (T3 rfl T.b3C V8 rfl))))) (b8 a1v) o5) (b4 (y8 1 nd (o9 c_plan_of hr (j5 (b7 0)))) (b4 (w4 (Q3 (a0d (D0 b5n (b7 1) a7O) (V9 (D0 (a3q hr) (o9 c_shown hr (j5 (b7 1))) (b7 0))))) (b8 a1v) o5) (b8 (o8 (b7 1)))))
section
variable (my:c5D K mg "NoText" c.x.C_NoText)
include T my c_plan_of c_shown in
theorem c4C(F:Fun K d4I d4I b3U f fd):F5 P w K mg base (CX1 P w) 11 f fd a9j (a5O K c c.x):=fkX F b9E fun _ _ _ _ _ E hr nd=>b4 (w4 (W0 (Q8 (g9 O9 rfl T.G9 t6 (A1 (b7 0) (T3 rfl T.b3C V8 rfl))))) (b8 (b5i my a2O)) o5) (b4 (y8 1 nd (o9 c_plan_of hr (j5 (b7 0)))) (b4 (w4 (Q3 (a0d (D0 b5n (b7 1) a7O) (V9 (D0 (a3q hr) (o9 c_shown hr (j5 (b7 1))) (b7 0))))) (b8 (b5i my a2O)) o5) (b8 (o8 (b7 1)))))
end
variable(b2g:F6 P w K mg base 11 d4I a9j (a7X K c))
abbrev a9i:List Str:=[d4k]
theorem b7K:A4 [d4k,"_law_found","e"] a9i (i9 a8W):=by walk_at "sc"
theorem c7W:a0W d4J = some (.type "ValueError"):=by decide +kernel
section
variable (d_read:a0y P w K mg base 11 d4I a9j (a5O K c c.x))(bVE:mg d4J = none)(gO:mg "OnceError" = some (.ref c.x.C_OnceError))(xO:a5I K c.x.C_OnceError=true)(g0:∃u,mg "Wrong" = some u/\F1 (.ref c.x.C_Wrong) u)(g1:∃u,mg "NoThing" = some u/\F1 (.ref c.x.C_NoThing) u)(g2:∃u,mg "NoWay" = some u/\F1 (.ref c.x.C_NoWay) u)(g3:∃u,mg "TooMany" = some u/\F1 (.ref c.x.C_TooMany) u)(g4:∃u,mg "NoText" = some u/\F1 (.ref c.x.C_NoText) u)
include T d_read bVE gO xO g0 g1 g2 g3 g4 in
theorem b8p(F:Fun K d4K d4K a8W f fd):F5 P w K mg base CX0 12 f fd a9i (a3y K c):=
 fk F b7K fun _ _ _ _ _ _ hr nd=>b4 (y8 1 nd a0O) (b4 (c0J (i:=2) (th:=b0Q K c.x) rfl rfl rfl nd rfl rfl rfl gO xO (fun EE pins xe W=>b8 (J7 (a6j W d_read hr (j5 (b7 0))))) (fun pins x C dx oe hx=>b4 (w4 (Q8 (g9 (b5s hx) rfl T.G9 t6 (A1 (b7 2) (W4 (b5l (L3 g1 rfl) (L3 g2 rfl) (L3 g3 rfl) (L3 g0 rfl)))))) (b8 (o8 a0O)) o5) (b8 (y8 1 nd (U3 (g9 (b0K hx) rfl T.G9 t6 (A1 (b7 2) (L3 g4 rfl))) (X6 (g9 (b0K hx) rfl T.G9 t6 (A1 (b7 2) (T3 rfl bVE c7W rfl))))))))) (b8 (o8 (b7 1))))
end
variable(a4x:F6 P w K mg base 12 d4K a9i (a3y K c))
abbrev c8I:List Str:=[d3H]
theorem c3C:A4 [d3H,d3J,"_law_rows",d3M,d4k,"_law_bad","_law_again"] c8I (i9 b9G):=by walk_at "sc"
include T c0s A2 b0x c_shown a8z a6A b4s b2g a4x in
theorem d0v(ck:a4y K c)(F:Fun K "law" "law" b9G f fd):F5 P w K mg base CX0 13 f fd c8I (b1b K):=by
 refine a4m F c3C (fun vs H Q E h=>h.1) (fun cdv A outer s H vs Q E hr h=>⟨c3m K c,?_,h.2 c ck⟩)
 have nd:=c3C.nd
 exact b4 (y8 1 nd (o9 c0s hr (j5 (b7 0)))) (b4 (a7N (o9 b0x hr (j5 (b7 1))) (a5C rfl (Y1 (W3 2 nd) (Y1 (W3 3 nd) a4l)))) (b4 (y8 4 nd (o9 c_shown hr (j5 (c8X b4s hr (A1 (b7 2) (b7 3)))))) (b4 (y8 5 nd (o9 a8z hr (A1 (b7 1) (b7 4)))) (b4 (w4 (D0 (C3 hr) (o9 A2 hr (A1 (b7 1) b6)) b6) (b8 (y8 5 nd (o9 a6A hr (j5 (b7 1))))) o5) (b4 (w4 (D0 (a3q hr) (o9 c_shown hr (j5 (o9 b2g hr (j5 (b7 4))))) (b7 4)) (b8 (o8 a0O)) o5) (b4 (w4 (Q3 (a0d (W0 (Q8 (o9 a4x hr (j5 (b7 5))))) (V9 (W0 (Q8 (o9 a4x hr (j5 (b7 5)))))))) (b8 (o8 a0O)) o5) (b4 (y8 6 nd (o9 b2g hr (j5 (b7 4)))) (b8 (o8 (U3 (a1C (b2N hr) (a3p (b7 6)) (b7 2) (b1G _)) (X6 (a1C (b2N hr) (a3p (b7 6)) (b7 3) (b1G _)))))))))))))
end
end
structure XcF(K:Fg)(y:Str)(C:Addr)(f:Str):Prop where
 y:A5 K u4 y=some (some (.ref C))
 xc:a5I K C=true
 sa:z6 K (.ref C) "__setattr__" = some (some (.builtin "object.__setattr__"))
 ve:b3G K C=true
 hd:a2m K C=true
 kp:T0 K (.ref C)=true
 ga:z6 K (.ref C) "__getattribute__" = some (some (.builtin "BaseException.__getattribute__"))
 gg:z6 K (.ref C) "__getattr__" = some none
 be:a2M K C (.type "BaseException")=some true
 ha:z6 K (.ref C) "__class__" = some (some (.builtin "object.__class__"))
 hn:a4g K (.builtin "object.__class__") "__get__" = some (some (.builtin "getset_descriptor.__get__"))
 tk:b2k K (.builtin "object.__class__")=some true
 ob:a2M K C (.type "object")=some true
 up:a2M K C (.ref 31)=some true
 vk:P6 K (.ref C) (.type "ValueError")=some true
 na:z6 K (.ref C) f=some none
theorem XcF.cl{K:Fg}{y f:Str}{C:Addr}(h:XcF K y C f):b4V K C:=⟨h.xc,h.sa,h.ve,h.hd,h.kp⟩
theorem XcF.is{K:Fg}{y f:Str}{C:Addr}(h:XcF K y C f):XIs K C:=⟨⟨h.ga,h.gg,h.be⟩,h.hd,h.ha,h.hn,h.tk,h.ob⟩
structure XiF(K:Fg)(q:Str)(st:Stmt)(C f:Addr)(pm cd:Value):Prop where
 i:FnI K d3G q st f pm cd
 a:z6 K (.ref C) d3G = some (some (.ref f))
 t:c8o K (.ref f)=some (.type "function")
theorem mkX{P:v8}{w:World}{K:Fg}{mg:Str->Option Value}{base h:Heap}{f C:Addr}{y q g:Str}{st:Stmt}{ps:List Str}{k:Nat}{pm cd:Value}{sp:Sp}(X:K.In h)(G:h.Ns u4 mg)(c:XcF K y C g)(i:XiF K q st C f pm cd)(O:F5 P w K mg base CX0 k f (fdM d3G q st pm cd) ps sp)(B:BdA d3G q st ps):a4e P w K mg base k y C ps sp:=
 ⟨_,_,O,E3 X G c.y,c.cl,i.a,i.t,i.i.F.binds fun _ _ _ _ _ _ us hl=>(B _ _ _ _ _ _).mp us hl⟩
def d2y(K:Fg):Bool:=[51,70,108,89,120].zipIdx.all fun p=>[51,70,108,89,120].zipIdx.all fun q=>P6 K (.ref p.1) (.ref q.1) == some (decide (p.2=q.2))
theorem U0{K:Fg}(kt:d2y K=true)(p q:Addr×Nat)(hp:p∈[51,70,108,89,120].zipIdx)(hq:q∈[51,70,108,89,120].zipIdx):P6 K (.ref p.1) (.ref q.1)=some (decide (p.2=q.2)):=beq_iff_eq.mp (p9.mp (p9.mp kt p hp) q hq)
theorem c7z{P:v8}{w:World}{K:Fg}{mg:Str->Option Value}{base h:Heap}{f:Addr}{x:Str}{st:Stmt}{ps:List Str}{j k n:Nat}{pm cd:Value}{a b:Sp}(X:K.In h)(G:h.Ns u4 mg)(g:FnG K x st f pm cd)(O:F5 P w K mg base CX0 j f (fdM x x st pm cd) ps a)(O1:F5 P w K mg base (CX1 P w) k f (fdM x x st pm cd) ps b)(hj:j<=n)(hk:k<=n)(B:BdA x x st ps):a0y P w K mg base n x ps (b5H a b):=
 ⟨_,_,O.or O1 hj hk,E3 X G g.a,g.i.k,g.i.F.binds fun _ _ _ _ _ _ us hl=>(B _ _ _ _ _ _).mp us hl⟩
theorem d3r{P:v8}{w:World}{K:Fg}{mg:Str->Option Value}{base h:Heap}{f:Addr}{x:Str}{st:Stmt}{ps:List Str}{k:Nat}{pm cd:Value}{b:Sp}(X:K.In h)(G:h.Ns u4 mg)(g:FnG K x st f pm cd)(O1:F5 P w K mg base (CX1 P w) k f (fdM x x st pm cd) ps b)(B:BdA x x st ps):a0y P w K mg base k x ps b:=
 ⟨_,_,O1,E3 X G g.a,g.i.k,g.i.F.binds fun _ _ _ _ _ _ us hl=>(B _ _ _ _ _ _).mp us hl⟩
structure ClF(K:Fg)(y:Str)(C:Addr):Prop where
 y:A5 K u4 y=some (some (.ref C))
 pg:a2I K C Str.empty=true
 hd:a2m K C=true
 po:a9I K C=true
 sa:z6 K (.ref C) "__setattr__" = some (some (.builtin "object.__setattr__"))
 mm:a5y K C=true
 kc:T0 K (.ref C)=true
abbrev pm0:Value:=(.str "law_oncedone_k92_texts_refused" 599)
abbrev pm1:Value:=(.str "oncedone.texts" 549)
abbrev pm2:Value:=(.str "oncedone.checks" 389)
abbrev pm3:Value:=(.str "oncedone.words" 330)
abbrev pm4:Value:=(.str "oncedone.plans" 419)
theorem d1e{l:PySem.W.OpenLaw}{w:World}{K:Fg}{h:Heap}{mg:Str->Option Value}{fa:Addr}(X:K.In h)(G:h.Ns u4 mg)(hfa:mg "law" = some (.ref fa))
  (y_Plan:ClF K "Plan" 281)
  (a1u:z6 K (.ref 281) "entries" = some none)
  (Y4:z6 K (.ref 281) d4B = some none)
  (a2h:z6 K (.ref 281) d4A = some none)
  (y_DEED_KINDS:A5 K u4 "DEED_KINDS" = some (some (.ref 123))) (l_DEED_KINDS:K.lookup 123=some ⟨.type "tuple",none,.seq (([(.str "plus" 340),(.str "minus" 341),(.str "times" 342),(.str "less" 343),(.str "same" 344)]:List Value).toArray) 0,#[]⟩)
  (y_FIRST_STEP:A5 K u4 "FIRST_STEP" = some (some (.ref 185))) (l_FIRST_STEP:K.lookup 185=some ⟨.type "tuple",none,.seq (([(.int (-1) 422),(.int (0) 423)]:List Value).toArray) 0,#[]⟩)
  (x0:FnG K d3I b9I 331 pm0 (.ref 330))
  (x1:FnG K d3L b7S 338 pm0 (.ref 337))
  (x2:FnG K d3Q c3H 385 pm0 (.ref 384))
  (x3:FnG K d3W a4s 390 pm0 (.ref 389))
  (x4:FnG K d3Y b3W 343 pm0 (.ref 342))
  (x5:FnG K d4a b3V 350 pm0 (.ref 349))
  (x6:FnG K d4b b3S 357 pm0 (.ref 356))
  (x7:FnG K d4c a8Y 364 pm0 (.ref 363))
  (x8:FnG K d4d b7Y 371 pm0 (.ref 370))
  (x9:FnG K d4f c3F 378 pm0 (.ref 377))
  (x10:FnG K d4g a8h 395 pm0 (.ref 394))
  (x11:FnG K d4h a7k 292 pm1 (.ref 291))
  (x12:FnG K d4j a2w 297 pm1 (.ref 296))
  (x13:FnG K "shown" b0m 302 pm1 (.ref 301))
  (x14:FnG K d4l b3T 407 pm0 (.ref 406))
  (x15:FnG K d4m a7q 414 pm0 (.ref 413))
  (x16:FnG K d4n a8e 419 pm0 (.ref 418))
  (x17:FnG K d4o a6q 424 pm0 (.ref 423))
  (x18:FnG K d4p a4N 307 pm1 (.ref 306))
  (x19:FnG K "row_of" b1g 314 pm1 (.ref 313))
  (x20:FnG K d4r a1Y 177 pm2 (.ref 176))
  (x21:FnG K "is_name" a6r 142 pm3 (.ref 141))
  (x22:FnG K d4t a7l 130 pm3 (.ref 129))
  (x23:FnG K d4u a7m 137 pm3 (.ref 136))
  (x24:FnG K d4v a4Q 149 pm3 (.ref 148))
  (x25:FnG K "is_deed" a8Z 156 pm3 (.ref 155))
  (x26:FnG K "is_row" b1h 163 pm3 (.ref 162))
  (x27:FnG K d4w a3a 184 pm2 (.ref 183))
  (x28:FnG K d4x a7n 170 pm2 (.ref 169))
  (x29:FnG K d4z a3N 190 pm4 (.ref 189))
  (x30:FnG K d4C a1i 195 pm4 (.ref 194))
  (x31:FnG K "reached" a8X 212 pm4 (.ref 211))
  (x32:FnG K "turned" a8d 205 pm4 (.ref 204))
  (x33:FnG K d4D a4O 200 pm4 (.ref 199))
  (x34:FnG K d4E a2Z 219 pm4 (.ref 218))
  (x35:FnG K d4F a4P 224 pm4 (.ref 223))
  (x36:FnM K 281 "leads_to" "Plan.leads_to" a2Q 250 pm4 (.ref 249))
  (x37:FnM K 281 d3G "Plan.__init__" a0I 236 pm4 (.ref 235))
  (x38:FnG K "plan_of" a6p 319 pm1 (.ref 318))
  (x39:FnG K d4I b3U 326 pm1 (.ref 325))
  (x40:FnG K d4K a8W 402 pm0 (.ref 401))
  (x41:FnG K "law" b9G 431 pm0 (.ref 430))
  (z_abs:A5 K u4 "abs" = some none)
  (z_all:A5 K u4 "all" = some none)
  (z_any:A5 K u4 "any" = some none)
  (z_bool:A5 K u4 "bool" = some none)
  (z_enumerate:A5 K u4 "enumerate" = some none)
  (z_int:A5 K u4 "int" = some none)
  (z_isinstance:A5 K u4 "isinstance" = some none)
  (z_len:A5 K u4 "len" = some none)
  (z_list:A5 K u4 "list" = some none)
  (z_min:A5 K u4 "min" = some none)
  (z_range:A5 K u4 "range" = some none)
  (z_sorted:A5 K u4 "sorted" = some none)
  (z_str:A5 K u4 "str" = some none)
  (z_tuple:A5 K u4 "tuple" = some none)
  (z_zip:A5 K u4 "zip" = some none)
  (y_BOUND:A5 K u4 "BOUND" = some (some (.int (1000000000000) 332)))
  (y_FIGURES:A5 K u4 "FIGURES" = some (some (.str "0123456789" 336)))
  (y_LETTERS:A5 K u4 "LETTERS" = some (some (.str "abcdefghijklmnopqrstuvwxyz" 334)))
  (y_LONGEST_NAME:A5 K u4 "LONGEST_NAME" = some (some (.int (8) 338)))
  (y_MOST:A5 K u4 "MOST" = some (some (.int (400) 391)))
  (z_ValueError:A5 K u4 d4J = some none)
  (yO:A5 K u4 "OnceError" = some (some (.ref 31))) (xO:a5I K 31=true)
  (k0:XcF K "Wrong" 51 "at") (i0:XiF K "Wrong.__init__" b1i 51 48 (.str "oncedone.errors" 194) (.ref 47))
  (k1:XcF K "NoThing" 70 "at") (i1:XiF K "NoThing.__init__" a7p 70 67 (.str "oncedone.errors" 194) (.ref 66))
  (k2:XcF K "NoWay" 108 "at") (i2:XiF K "NoWay.__init__" b1j 108 105 (.str "oncedone.errors" 194) (.ref 104))
  (k3:XcF K "TooMany" 89 d4H) (i3:XiF K "TooMany.__init__" a7o 89 86 (.str "oncedone.errors" 194) (.ref 85))
  (k4:XcF K "NoText" 120 "at") (i4:z6 K (.ref 120) d3G = some (some (.builtin "ValueError.__init__"))) (kt:d2y K=true)
  : ∃fd:U1,(∀(s:d4) (v:Value),b7s s fd ⟨[v],[]⟩ [(d3H,v)])/\∀base:Heap,K.In base->base.Ns u4 mg->F5 l.prog w K mg base CX0 13 fa fd [d3H] (b1b K):=by
 have e:=hfa.symm.trans (E3 X G x41.a)
 cases e
 let c:Cn:=⟨281,123,185,31,51,70,108,89,120⟩
 have xn:b4T K c.x:=by
  have hc:∀i,i<5->i=0\/i=1\/i=2\/i=3\/i=4:=fun i h=>by omega
  refine⟨fun i h=>?_,fun i h=>?_,fun i h=>?_,fun i h=>?_,fun i j h1 h2=>?_,fun i h=>?_⟩
  ·rcases hc i h with rfl | rfl | rfl | rfl | rfl
   ·exact k0.cl
   ·exact k1.cl
   ·exact k2.cl
   ·exact k3.cl
   ·exact k4.cl
  ·rcases hc i h with rfl | rfl | rfl | rfl | rfl
   ·exact k0.is
   ·exact k1.is
   ·exact k2.is
   ·exact k3.is
   ·exact k4.is
  ·rcases hc i h with rfl | rfl | rfl | rfl | rfl
   ·exact k0.na
   ·exact k1.na
   ·exact k2.na
   ·exact k3.na
   ·exact k4.na
  ·rcases hc i h with rfl | rfl | rfl | rfl | rfl
   ·exact k0.up
   ·exact k1.up
   ·exact k2.up
   ·exact k3.up
   ·exact k4.up
  ·rcases hc i h1 with rfl | rfl | rfl | rfl | rfl
   ·rcases hc j h2 with rfl | rfl | rfl | rfl | rfl
    ·exact U0 kt (51,0) (51,0) (by decide) (by decide)
    ·exact U0 kt (51,0) (70,1) (by decide) (by decide)
    ·exact U0 kt (51,0) (108,2) (by decide) (by decide)
    ·exact U0 kt (51,0) (89,3) (by decide) (by decide)
    ·exact U0 kt (51,0) (120,4) (by decide) (by decide)
   ·rcases hc j h2 with rfl | rfl | rfl | rfl | rfl
    ·exact U0 kt (70,1) (51,0) (by decide) (by decide)
    ·exact U0 kt (70,1) (70,1) (by decide) (by decide)
    ·exact U0 kt (70,1) (108,2) (by decide) (by decide)
    ·exact U0 kt (70,1) (89,3) (by decide) (by decide)
    ·exact U0 kt (70,1) (120,4) (by decide) (by decide)
   ·rcases hc j h2 with rfl | rfl | rfl | rfl | rfl
    ·exact U0 kt (108,2) (51,0) (by decide) (by decide)
    ·exact U0 kt (108,2) (70,1) (by decide) (by decide)
    ·exact U0 kt (108,2) (108,2) (by decide) (by decide)
    ·exact U0 kt (108,2) (89,3) (by decide) (by decide)
    ·exact U0 kt (108,2) (120,4) (by decide) (by decide)
   ·rcases hc j h2 with rfl | rfl | rfl | rfl | rfl
    ·exact U0 kt (89,3) (51,0) (by decide) (by decide)
    ·exact U0 kt (89,3) (70,1) (by decide) (by decide)
    ·exact U0 kt (89,3) (108,2) (by decide) (by decide)
    ·exact U0 kt (89,3) (89,3) (by decide) (by decide)
    ·exact U0 kt (89,3) (120,4) (by decide) (by decide)
   ·rcases hc j h2 with rfl | rfl | rfl | rfl | rfl
    ·exact U0 kt (120,4) (51,0) (by decide) (by decide)
    ·exact U0 kt (120,4) (70,1) (by decide) (by decide)
    ·exact U0 kt (120,4) (108,2) (by decide) (by decide)
    ·exact U0 kt (120,4) (89,3) (by decide) (by decide)
    ·exact U0 kt (120,4) (120,4) (by decide) (by decide)
  ·rcases hc i h with rfl | rfl | rfl | rfl | rfl
   ·exact k0.vk
   ·exact k1.vk
   ·exact k2.vk
   ·exact k3.vk
   ·exact k4.vk
 have ck:a4y K c:=⟨⟨y_Plan.pg,y_Plan.hd,y_Plan.po,y_Plan.sa⟩,a1u,Y4,a2h,fun H=>.inr ⟨_,([(.str "plus" 340),(.str "minus" 341),(.str "times" 342),(.str "less" 343),(.str "same" 344)]:List Value).toArray,0,l_DEED_KINDS,rfl,rfl,by decide,.cons ⟨_,rfl⟩ ( .cons ⟨_,rfl⟩ ( .cons ⟨_,rfl⟩ ( .cons ⟨_,rfl⟩ ( .cons ⟨_,rfl⟩ ( .nil)))))⟩,fun H=>.inr ⟨_,([(.int (-1) 422),(.int (0) 423)]:List Value).toArray,0,l_FIRST_STEP,rfl,rfl,by decide,.cons ⟨_,rfl⟩ ( .cons ⟨_,rfl⟩ ( .nil))⟩,xn⟩
 have T:Txt K mg c:=⟨C5 X G z_abs,C5 X G z_all,C5 X G z_any,C5 X G z_bool,C5 X G z_enumerate,C5 X G z_int,C5 X G z_isinstance,C5 X G z_len,C5 X G z_list,C5 X G z_min,C5 X G z_range,C5 X G z_sorted,C5 X G z_str,C5 X G z_tuple,C5 X G z_zip,⟨_,E3 X G y_BOUND,⟨_,rfl⟩⟩,⟨_,E3 X G y_DEED_KINDS,rfl⟩,⟨_,E3 X G y_FIGURES,⟨_,rfl⟩⟩,⟨_,E3 X G y_FIRST_STEP,rfl⟩,⟨_,E3 X G y_LETTERS,⟨_,rfl⟩⟩,⟨_,E3 X G y_LONGEST_NAME,⟨_,rfl⟩⟩,⟨_,E3 X G y_MOST,⟨_,rfl⟩⟩⟩
 refine⟨fdM "law" "law" b9G pm0 (.ref 430),fun s v=>.of_eq rfl,fun base _ _=>?_⟩
 have c0s:=mkC X G x0 (d0w (P:=l.prog) (w:=w) (base:=base) T x0.i.F) fun _ _ _ _ _ _ _=>rfl
 have A2:=mkC X G x1 (c7m (P:=l.prog) (w:=w) (base:=base) T x1.i.F) fun _ _ _ _ _ _ _ _=>rfl
 have c0r:=mkC X G x2 (d0u T A2 x2.i.F) fun _ _ _ _ _ _ _ _=>rfl
 have a8A:=mkC X G x3 (c1E (P:=l.prog) (w:=w) (base:=base) T x3.i.F) fun _ _ _ _ _ _ _=>rfl
 have b4P:=mkC X G x4 (c7p T A2 x4.i.F) fun _ _ _ _ _ _ _=>rfl
 have b0w:=mkC X G x5 (c4A T A2 b4P x5.i.F) fun _ _ _ _ _ _ _=>rfl
 have b0v:=mkC X G x6 (c4y T A2 x6.i.F) fun _ _ _ _ _ _ _=>rfl
 have a0u:=mkC X G x7 (b8s T A2 b0v x7.i.F) fun _ _ _ _ _ _ _ _=>rfl
 have b4Q:=mkC X G x8 (c7q T A2 a0u x8.i.F) fun _ _ _ _ _ _ _ _=>rfl
 have c0q:=mkC X G x9 (d0t T A2 a0u x9.i.F) fun _ _ _ _ _ _ _ _ _ _=>rfl
 have b0x:=mkC X G x10 (c4B T A2 c0r a8A b0w b4Q c0q x10.i.F) fun _ _ _ _ _ _ _=>rfl
 have a5b:=mkC X G x11 (b6h (P:=l.prog) (w:=w) (base:=base) T x11.i.F) fun _ _ _ _ _ _ _=>rfl
 have a2y:=mkC X G x12 (b1B T a5b x12.i.F) fun _ _ _ _ _ _ _ _=>rfl
 have c_shown:=mkC X G x13 (c4z T a2y x13.i.F) fun _ _ _ _ _ _ _=>rfl
 have b2f:=mkC X G x14 (c7n T A2 x14.i.F) fun _ _ _ _ _ _ _ _ _=>rfl
 have a5e:=mkC X G x15 (b6q T A2 x15.i.F) fun _ _ _ _ _ _ _=>rfl
 have a8z:=mkC X G x16 (c1C T A2 b2f a5e x16.i.F) fun _ _ _ _ _ _ _ _=>rfl
 have a6A:=mkC X G x17 (b8t T A2 x17.i.F) fun _ _ _ _ _ _ _=>rfl
 have c_thing_of:=mkC X G x18 (b6i (P:=l.prog) (w:=w) (base:=base) T x18.i.F) fun _ _ _ _ _ _ _=>rfl
 have c_row_of:=mkC X G x19 (c1D (P:=l.prog) (w:=w) (base:=base) T x19.i.F) fun _ _ _ _ _ _ _=>rfl
 have c_check_length:=mkC X G x20 (a5o (P:=l.prog) (w:=w) (base:=base) T x20.i.F) fun _ _ _ _ _ _ _ _ _=>rfl
 have a0U:=mkC X G x21 (b8u (P:=l.prog) (w:=w) (base:=base) T x21.i.F) fun _ _ _ _ _ _ _=>rfl
 have a1z:=mkC X G x22 (b6l (P:=l.prog) (w:=w) (base:=base) T x22.i.F) fun _ _ _ _ _ _ _=>rfl
 have a5c:=mkC X G x23 (b6m T a1z x23.i.F) fun _ _ _ _ _ _ _=>rfl
 have V0:=mkC X G x24 (b2x T a0U a5c x24.i.F) fun _ _ _ _ _ _ _=>rfl
 have a6B:=mkC X G x25 (b8v T V0 x25.i.F) fun _ _ _ _ _ _ _=>rfl
 have c_is_row:=mkC X G x26 (c1F T a0U V0 a6B x26.i.F) fun _ _ _ _ _ _ _=>rfl
 have c_check_each:=mkC X G x27 (a6W (P:=l.prog) (w:=w) (base:=base) T x27.i.F) fun _ _ _ _ _ _ _=>rfl
 have a5d:=mkC X G x28 (b6n T a1z x28.i.F) fun _ _ _ _ _ _ _ _=>rfl
 have c_are_nexts:=mkC X G x29 (b4o T a5d x29.i.F) fun _ _ _ _ _ _ _ _ _=>rfl
 have c_check_nexts:=mkC X G x30 (a5T T c_check_each c_are_nexts x30.i.F) fun _ _ _ _ _ _ _ _=>rfl
 have c_reached:=mkC X G x31 (b8q (P:=l.prog) (w:=w) (base:=base) T x31.i.F) fun _ _ _ _ _ _ _ _=>rfl
 have c_turned:=mkC X G x32 (c1B (P:=l.prog) (w:=w) (base:=base) T x32.i.F) fun _ _ _ _ _ _ _=>rfl
 have c_stops_of:=mkC X G x33 (b6j (P:=l.prog) (w:=w) (base:=base) T x33.i.F) fun _ _ _ _ _ _ _=>rfl
 have c_check_ways:=mkC X G x34 (a6V T c_reached c_turned c_stops_of x34.i.F) fun _ _ _ _ _ _ _=>rfl
 have c_steps_of:=mkC X G x35 (b6k (P:=l.prog) (w:=w) (base:=base) T x35.i.F) fun _ _ _ _ _ _ _=>rfl
 have c_Plan_leads_to:=mkM x36 ck.a0M (a9q (P:=l.prog) (w:=w) (base:=base) T x36.i.F) fun _ _ _ _ _ _ _ _=>rfl
 have b4s:=mkK X G x37 y_Plan.y y_Plan.mm y_Plan.kc (a8p T c_check_length c_is_row c_check_each c_check_nexts c_check_ways c_steps_of c_Plan_leads_to x37.i.F) fun _ _ _ _ _ _ _ _ _=>rfl
 have mx_Wrong:a4e l.prog w K mg base 1 "Wrong" c.x.C_Wrong [d4G,"at"] (P4 K "at"):=mkX X G k0 i0 (c1G (P:=l.prog) (w:=w) (mg:=mg) (base:=base) i0.i.F) fun _ _ _ _ _ _ _ _=>rfl
 have mx_NoThing:a4e l.prog w K mg base 1 "NoThing" c.x.C_NoThing [d4G,"at"] (P4 K "at"):=mkX X G k1 i1 (b6p (P:=l.prog) (w:=w) (mg:=mg) (base:=base) i1.i.F) fun _ _ _ _ _ _ _ _=>rfl
 have mx_NoWay:a4e l.prog w K mg base 1 "NoWay" c.x.C_NoWay [d4G,"at"] (P4 K "at"):=mkX X G k2 i2 (c1H (P:=l.prog) (w:=w) (mg:=mg) (base:=base) i2.i.F) fun _ _ _ _ _ _ _ _=>rfl
 have mx_TooMany:a4e l.prog w K mg base 1 "TooMany" c.x.C_TooMany [d4G,d4H] (P4 K d4H):=mkX X G k3 i3 (b6o (P:=l.prog) (w:=w) (mg:=mg) (base:=base) i3.i.F) fun _ _ _ _ _ _ _ _=>rfl
 have d_check_length:a0y l.prog w K mg base 3 d4r Z8 (a2r K c.x):=c7z X G x20 (a5o (P:=l.prog) (w:=w) (base:=base) (T:=T) x20.i.F) (a9r (P:=l.prog) (w:=w) (base:=base) (e:=c.x) (T:=T) (mx_TooMany:=mx_TooMany) (mx_Wrong:=mx_Wrong) x20.i.F) (by decide) (by decide) fun _ _ _ _ _ _ _ _ _=>rfl
 have d_check_each:a0y l.prog w K mg base 3 d4w a0T (a1V K c.x):=c7z X G x27 (a6W (P:=l.prog) (w:=w) (base:=base) (T:=T) x27.i.F) (b1D (P:=l.prog) (w:=w) (base:=base) (e:=c.x) (T:=T) (mx_NoThing:=mx_NoThing) x27.i.F) (by decide) (by decide) fun _ _ _ _ _ _ _=>rfl
 have d_check_nexts:a0y l.prog w K mg base 5 d4C a0t (a2P K c.x):=c7z X G x30 (a5T (P:=l.prog) (w:=w) (base:=base) (T:=T) (c_are_nexts:=c_are_nexts) (c_check_each:=c_check_each) x30.i.F) (b0a (P:=l.prog) (w:=w) (base:=base) (e:=c.x) (T:=T) (mx_Wrong:=mx_Wrong) (d_check_each:=d_check_each) (c_are_nexts:=c_are_nexts) x30.i.F) (by decide) (by decide) fun _ _ _ _ _ _ _ _=>rfl
 have d_check_ways:a0y l.prog w K mg base 3 d4E a0S (a3z K c.x):=c7z X G x34 (a6V (P:=l.prog) (w:=w) (base:=base) (T:=T) (c_reached:=c_reached) (c_stops_of:=c_stops_of) (c_turned:=c_turned) x34.i.F) (b1C (P:=l.prog) (w:=w) (base:=base) (e:=c.x) (T:=T) (mx_NoWay:=mx_NoWay) (c_reached:=c_reached) (c_stops_of:=c_stops_of) (c_turned:=c_turned) x34.i.F) (by decide) (by decide) fun _ _ _ _ _ _ _=>rfl
 have mr_Plan:a9G l.prog w K mg base 8 "Plan" c.S9 a1E (a3Z K c c.x):=a9G.or (a8p (P:=l.prog) (w:=w) (base:=base) (T:=T) (c_Plan_leads_to:=c_Plan_leads_to) (c_check_each:=c_check_each) (c_check_length:=c_check_length) (c_check_nexts:=c_check_nexts) (c_check_ways:=c_check_ways) (c_is_row:=c_is_row) (c_steps_of:=c_steps_of) x37.i.F) (b2y (P:=l.prog) (w:=w) (base:=base) (e:=c.x) (T:=T) (c_is_row:=c_is_row) (d_check_each:=d_check_each) (d_check_length:=d_check_length) (d_check_nexts:=d_check_nexts) (d_check_ways:=d_check_ways) x37.i.F) (by decide) (by decide) (E3 X G y_Plan.y) ⟨y_Plan.mm,x37.a,x37.n,y_Plan.kc⟩ (x37.i.F.binds fun _ _ _ _ _ _ us hl=>match us,hl with | [_,_,_],_=>rfl)
 have gO:=E3 X G yO
 have c_plan_of:=mkC X G x38 (b8r (P:=l.prog) (w:=w) (base:=base) (c:=c) (T:=T) (c_row_of:=c_row_of) (c_thing_of:=c_thing_of) (mr_Plan:=mr_Plan) (gO:=gO) (xO:=xO) x38.i.F) fun _ _ _ _ _ _ _=>rfl
 have b2g:=mkC X G x39 (c7o T c_shown c_plan_of x39.i.F) fun _ _ _ _ _ _ _=>rfl
 have d_read:a0y l.prog w K mg base 11 d4I a9j (a5O K c c.x):=d3r X G x39 (c4C (P:=l.prog) (w:=w) (base:=base) (T:=T) (my:=⟨E3 X G k4.y,k4.cl,i4⟩) (c_plan_of:=c_plan_of) (c_shown:=c_shown) x39.i.F) fun _ _ _ _ _ _ _=>rfl
 have a4x:=mkC X G x40 (b8p (P:=l.prog) (w:=w) (base:=base) (c:=c) (T:=T) (d_read:=d_read) (bVE:=C5 X G z_ValueError) (gO:=gO) (xO:=xO) (g0:=⟨_,E3 X G k0.y,rfl⟩) (g1:=⟨_,E3 X G k1.y,rfl⟩) (g2:=⟨_,E3 X G k2.y,rfl⟩) (g3:=⟨_,E3 X G k3.y,rfl⟩) (g4:=⟨_,E3 X G k4.y,rfl⟩) x40.i.F) fun _ _ _ _ _ _ _=>rfl
 exact d0v T c0s A2 b0x c_shown a8z a6A b4s b2g a4x ck x41.i.F
theorem walk{l:PySem.W.OpenLaw}{q:v8}{loose:List Str}{XP:(Str->Option Value)->Heap->Prop}{YP:World->Heap->Prop}{d:DefRec}{K:Params->Fg}(hn:l.most=some 63)(hdf:d.params.defaults=[])
  (hY:∀(w:World) (h:Heap),YP w h->(K w.params).In h)
  (F:∀(w:World) (mg:Str->Option Value) (fa:Addr) (h:Heap),(K w.params).In h->h.Ns u4 mg->mg d.name=some (.ref fa) ->
   ∃fd:U1,(∀(s:d4) (u:Value),b7s s fd ⟨[u],[]⟩ [(d3H,u)])/\∀base:Heap,(K w.params).In base->base.Ns u4 mg->F5 l.prog w (K w.params) mg base CX0 13 fa fd [d3H] (b1b (K w.params))) :
  PySem.W.WalkO q loose XP YP l.row.toRowW d [] (fun f vs=>b4Z f vs):=
 L2.c6a (n:=63) (k:=13) (x := d3H) (CX:=fun _=>CX0) (sp:=fun w=>b1b (K w.params)) hn (by decide) hdf ⟨rfl,by decide,by decide,rfl⟩ hY F (fun _ _ a ns hl hO hS=>RD.law_reading _ hl hO hS) fun _ _ _ _ _ z=>z
end PR
open PySem PySem.W PyProof.Rows
set_option maxRecDepth 100000 in
set_option maxHeartbeats 0 in
theorem PySem.Challenge.cw_oncedone_k92_texts_refused_holds : PySem.Challenge.rw_oncedone_k92_texts_refused.Holds := by
 refine HD.fin fun d hd hdf=>PR.walk (l:=HD.row) (K:=HD.K) rfl hdf (fun w h Y=>PySem.W.kIn_of Y) ?F
 intro w mg fa h KX G hmg
 rw[hd]at hmg
 apply PR.d1e KX G hmg <;> first | kernel_rfl | exact⟨⟨by kernel_rfl,by kernel_rfl,by kernel_rfl⟩,by kernel_rfl⟩ | exact⟨⟨by kernel_rfl,by kernel_rfl,by kernel_rfl⟩,by kernel_rfl,by kernel_rfl⟩ | exact⟨by kernel_rfl,by kernel_rfl,by kernel_rfl,by kernel_rfl,by kernel_rfl,by kernel_rfl,by kernel_rfl⟩ | exact⟨by kernel_rfl,by kernel_rfl,by kernel_rfl,by kernel_rfl,by kernel_rfl,by kernel_rfl,by kernel_rfl,by kernel_rfl,by kernel_rfl,by kernel_rfl,by kernel_rfl,by kernel_rfl,by kernel_rfl,by kernel_rfl,by kernel_rfl,by kernel_rfl⟩
