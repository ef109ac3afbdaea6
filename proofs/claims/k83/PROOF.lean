import PyProof.Rows.All
import KE.KEqDict
import KE.KDictList
import KE.KIsAll
import KE.KDictOf
import KE.KItem
import Lean
import PySem.Challenge.RW_oncedone_k83_stands_for
open Array renaming getElem?_toList->M4,length_toList->Z5,getElem?_eq_getElem->a2n
open Bool renaming false_ne_true->l3,eq_iff_iff->L7,and_eq_true->Q0,not_eq_true'->a0B,false_eq_true->a6O,not_false->b1c,true_and->b2A,and_eq_true_iff->b6b,false_and->c3D,or_false->c4H,not_true->c4I,false_or->c4J,and_true->c4K
open Int renaming toNat_natCast->u8,eq_ofNat_of_zero_le->F3,emod_lt_of_pos->R4,emod_nonneg->T7,zero_add->W1,toNat->b4w
open List renaming length_map->a8,getElem?_map->b8,mem_cons->c8,mem_singleton->d3,size_toArray->j4,getElem?_eq_getElem->j6,getElem?_eq_some_iff->j8,not_mem_nil->l6,mem_append->o8,mem_map->p9,mem_append_right->t6,replicate->u0,length_append->u4,length_cons->v7,range->w4,map_append->z9,length_replicate->A5,mem_append_left->C0,mem_cons_of_mem->C4,getElem?_append_left->D1,getElem_mem->D2,mem_cons_self->D5,lookup_cons->E1,take_add_one->E9,getElem?_replicate->F1,map_cons->F7,getElem?_set_self->G7,mem_iff_getElem?->J2,mem_filter->J4,length_take->K0,getElem?_set_ne->K5,map_congr_left->L3,getD->L4,nodup_cons->L6,length_singleton->M5,length_filter_le->M6,take_length->N3,all_eq_true->N4,map_map->N7,any_cons->P8,all_cons->P9,find?_cons->T3,nodup_append->T5,mem_of_getElem?->T6,mem_range->U9,length_set->W4,getElem?_append_right->X9,any_eq_true->Z0,range_succ->a0n,map_inj_right->a0o,take_of_length_le->a0A,replicate_succ'->a1f,lookup->a1g,append_nil->a1x,filter_append->a1W,length_range->a2T,length_erase_of_mem->a3d,getElem?_cons_zero->a3i,length_pos_of_mem->a3Y,length_nil->a4g,getElem?_range->a5D,filter_sublist->a5E,filterMap_cons->a5F,mem_filterMap->a6N,take_sublist->a7h,map_nil->a7i,length_drop->a8z,map_id->a8Y,of_mem_zip->a9F,nodup_nil->b1b,idxOf_lt_length_iff->b2z,all_nil->b4v,mem_erase_of_ne->b5Z,length->b6a,length_pos_iff->b8s,sum_append->c3w,idxOf_cons->c3x,forIn_cons->c3y
open Nat renaming le_refl->d9,ne_of_lt->u5,lt_of_lt_of_le->v6,le_trans->C2,lt_irrefl->E4,zero_le->L9,le_add_right->a3M,le_succ->a5C,ne_of_gt->b5R,lt_trans->b5S,le_of_lt->b5T,lt_succ_self->c3v
open Option renaming map_eq_some_iff->l7,isSome_iff_exists->T4,getD_some->a3c,map_some->a3L,isSome_map->a6M,getD_none->b8v
open PyProof.Rows renaming boot_isinstance->p5,boot_list->A2,callWith_type1->V3,slot_tuple_getitem->Z9,boot_str->a0m,boot_sorted->a7g,boot_tuple->a8u,boot_bool->a8y,boot_int->a8W,boot_all->a8X,AllBare->a9I,envOfC->b1e,subscriptTail->c1i,IntsAre->c1k,subscriptTail_builtinR->c3A
open PySem renaming wpAny_bind->c5,starEach->d8,Shared->g7,boot_len->j7,sizeLine->j9,wpAny_pure->l5,compareOp->o6,mainGlobals->t5,Program->v8,mem_of_lookup->z5,Around->G8,wpAny_truthy_bool->I0,foldedSetIterable->L1,behindInMarks->M7,wpAny_newObj_type->O2,sysModules->T1,wpAny_mono->U8,backTo->V0,attributeBase->V1,binaryOp->W2,FuncData->W3,wpAny_typeNameOfWhole_keyiter->Y0,wpAny_passesOwn->a0a,bootBuiltins->a0b,DictEntry->a0c,assignEach->a0p,lookup_relabel_local->a0r,tupleKind_room_in1->a1h,swapsWith->a1i,importedModules->a1j,strIterType->a1O,keywordEach->a1P,sizeLine_eq->a2o,wpAny_call_entry->a2p,sliceBounds->a3j,letOwnedTupleGo->a3k,holding->a3l,wpAny_Call_Name_kw->a4h,NameKind->a4i,wpAny_comprehension_free->a4S,wpAny_holding->a5G,wpAny_callSpecial?_slot->a5H,relabel->a5I,codeAny->a5J,Keyword->a5K,wpAny_execs_nil->a7j,backToKw->a8w,Operator->a8x,assign->a8Z,getItem->a9H,call->b0T,tupleKind->b1d,PassesOwn->b1f,wpAny_pyIter_list->b2B,wpAny_dictEntries->b2C,wpAny_assign_Name->b2D,valueAt->b2E,codeAny_mono->b3U,compEnvC->b5W,wpAny_dictEpoch->b6c,subscripted->b6d,standAt->b6e,getMethod->b6f,callerA->b6g,BindsTo->b6h,call_meets->c0G,PlainAttrs->c0H,IsPart->c0I,wpAny_standAt->c1h,setItem->c1j,codeAny_compStart_list->c3B,wpAny_notOrdered_dict->c3E,wpAny_isTrue_Compare1->c3F,wpAny_isOneOf_keyiter->c3G,seqIndex_neg->c3H,pyNext->c3I,lastMarks->c3J,Result->c3K,wpAny_newFunctionEnv->c4P,wpAny_loadName_local->c4Q,wpAny_loadName_cell->c4R,wpAny_field->c4S,seqIndex_of->c4T
open PySem.F renaming plainAttrs_list->E8,type_list_append->Z3,slot_list_append->Z4,slot_dict_get->a3K,slot_NoneType_ne_refl->a7f,type_list_extend->b0U,slot_list_extend->b0V,slot_list_index->b0Z,args_dict_get_2->b1a,entry_dict_get->b2x,slot_dict_ne->b3T
open PySem.Heap renaming lt_size->g8,get?_push_of_some->g9,get?_push_size->t9,get?_update_other->b4x,get?_update_self->b5U,size_push->c3C
open PySem.Heap.SameBut renaming update->b0W
open PySem.W renaming nsIn->v9,mg_none_of->A9,findIn->C6,kia_one->J1,emptyDict->L0,mg_of->O8,keepIn->P7,instObj->R8,fnOf->X8,plainGet->a0J,hasDictIn->a1V,makesIn->a3h,lookIn->a4e,codeIn->a4f,plainGet_of->a4R,callWith_K->a5B,specialIn->a6t,plainOver->a6u,methodObj->a6v,isFn->a6w,takerIn->a8t,cellsFrom_some->b2w,kitx_list->b5X,kitx_dict->b5Y,kdl_call->b8q,handedIn->b8r,takesIn->b8u,kitOne->c0E,mroIn->c1e
set_option Elab.async false
set_option linter.all false
set_option maxRecDepth 100000
set_option maxHeartbeats 0
abbrev Fg:=PySem.W.Frag
abbrev Nt:=List (List Nat)
theorem gI{α:Type}{l:List α}{i:Nat}{a:α}(h:l[i]?=some a):i<l.length:=(j8.mp h).1
theorem mI{α:Type}{l:List α}{i:Nat}{a:α}(h:l[i]?=some a):a∈l:=T6 h
theorem c6w{p:Prop}[Decidable p](h:¬p):decide p=false:=decide_eq_false h
theorem c6x{p:Prop}[Decidable p](h:p):decide p=true:=decide_eq_true h
namespace L2
open PySem
def Q8(s:Stmt)(j:Nat):Stmt:=match s with
 | .ClassDef _ _ _ body _ _ _ _ _ _ _=>body.getD j (.Pass ⟨0,0,0,0⟩)
 | _=>.Pass ⟨0,0,0,0⟩
def a1L(s:Stmt):Arguments:=match s with
 | .FunctionDef _ a _ _ _ _ _ _ _ _=>a
 | _=>{ posonlyargs:=[],args:=[],vararg:=none,kwonlyargs:=[],kw_defaults:=[],kwarg:=none,defaults:=[] }
def a0j(s:Stmt):List Stmt:=match s with
 | .FunctionDef _ _ b _ _ _ _ _ _ _=>b
 | _=>[]
def i8(s:Stmt):Scope:=match s with
 | .FunctionDef _ _ _ _ _ _ sc _ _ _=>sc
 | _=>{ kind:=.function,names:=[],isGenerator:=false,isCoroutine:=false }
end L2
namespace HD
open PySem PySem.W L2
abbrev P:v8:=PySem.Challenge.pw_oncedone_k83_stands_for
def top(i:Nat):Stmt:=P.main.body.getD i (.Pass ⟨0,0,0,0⟩)
def kE(Q:Params)(n:Str)(t:Nat)(v:Value):a0c:=⟨PyData.keyHash Q n,.str n t,v⟩
def kD(es:List a0c)(n:Nat):Obj:=⟨.type "dict",none,.dict es.toArray n,#[]⟩
def kF(x qual:Str)(st:Stmt)(pm cd:Value):Obj:=⟨.type "function",none,.func (fnOf x qual (a1L st) (a0j st) (i8 st) .none .none .none pm none cd .none),#[]⟩
def kC(n q:Str)(a b c:Nat)(i3 i4 i5 i6 i7:Int)(r8:Nat)(i10:Int)(r11 r13 r14 r15:Nat)(i16 i17:Int)(d:Nat):Obj:=⟨.type "code",none,.fields ([.str n a,.str q b,.str "/claim/cut.py" c,.int i3 0,.int i4 0,.int i5 0,.int i6 0,.int i7 0,.ref r8,.bool true,.int i10 0,.ref r11,.none,.ref r13,.ref r14,.ref r15,.int i16 0,.int i17 0,.str "/claim/cut.py" d]:List Value).toArray,([]:List (Option Value)).toArray⟩
def kN(n q:Str)(a b c:Nat)(i3 i4 i5 i6 i7:Int)(r8:Nat)(i10:Int)(r11 r15:Nat)(i16 i17:Int)(d:Nat):Obj:=⟨.type "code",none,.fields ([.str n a,.str q b,.str "/claim/cut.py" c,.int i3 0,.int i4 0,.int i5 0,.int i6 0,.int i7 0,.ref r8,.bool true,.int i10 0,.ref r11,.none,.none,.none,.ref r15,.int i16 0,.int i17 0,.str "/claim/cut.py" d]:List Value).toArray,([]:List (Option Value)).toArray⟩
abbrev m0:Value:=(.str "__main__" 164)
abbrev m1:Value:=(.str "oncedone.words" 194)
abbrev m2:Value:=(.str "oncedone.deeds" 253)
abbrev m3:Value:=(.str "oncedone.errors" 262)
abbrev m4:Value:=(.str "oncedone.checks" 382)
abbrev m5:Value:=(.str "oncedone.plans" 412)
abbrev m6:Value:=(.str "oncedone.ready" 542)
abbrev m7:Value:=(.str "oncedone.copies" 569)
abbrev m8:Value:=(.str "law_oncedone_k83_stands_for" 596)
def K1(Q:Params):Frag:=[
 (3,kD [kE Q "__name__" 165 (.str "law_oncedone_k83_stands_for" 596),kE Q "__doc__" 166 .none,kE Q "__package__" 167 .none,kE Q "__loader__" 168 (.builtin "__main__.__loader__#opaque"),kE Q "__spec__" 169 .none,kE Q "__annotations__" 170 (.ref 6),kE Q "__builtins__" 171 (.ref 4),kE Q "__file__" 173 (.str "/claim/cut.py" 172),kE Q "__cached__" 174 .none,kE Q "_wall" 193 (.ref 21),kE Q "BOUND" 197 (.int (1000000000000) 196),kE Q "LETTERS" 199 (.str "abcdefghijklmnopqrstuvwxyz" 198),kE Q "FIGURES" 201 (.str "0123456789" 200),kE Q "LONGEST_NAME" 203 (.int (8) 202),kE Q "DEED_KINDS" 209 (.ref 22),kE Q "is_whole" 216 (.ref 29),kE Q "is_value" 223 (.ref 36),kE Q "is_name" 229 (.ref 41),kE Q "is_operand" 236 (.ref 48),kE Q "is_deed" 243 (.ref 55),kE Q "is_row" 252 (.ref 62),kE Q "set_by" 261 (.ref 69),kE Q "OnceError" 281 (.ref 79),kE Q "Wrong" 306 (.ref 99),kE Q "NoThing" 331 (.ref 118),kE Q "TooMany" 356 (.ref 137),kE Q "NoWay" 381 (.ref 156),kE Q "MOST" 385 (.int (400) 384),kE Q "is_below" 393 (.ref 165),kE Q "check_length" 402 (.ref 172),kE Q "check_each" 411 (.ref 179),kE Q "FIRST_STEP" 417 (.ref 180),kE Q "are_nexts" 423 (.ref 185),kE Q "check_nexts" 429 (.ref 190),kE Q "stops_of" 435 (.ref 195),kE Q "turned" 441 (.ref 200),kE Q "reached" 452 (.ref 207),kE Q "check_ways" 462 (.ref 214),kE Q "steps_of" 468 (.ref 219),kE Q "Plan" 541 (.ref 276),kE Q "pass_on" 555 (.ref 287),kE Q "unready_steps" 568 (.ref 294),kE Q "copies_of" 579 (.ref 301),kE Q "places_without" 585 (.ref 306),kE Q "stands_for" 595 (.ref 313),kE Q "_law_bag" 603 (.ref 318),kE Q "_law_take" 616 (.ref 325),kE Q "_law_net" 629 (.ref 332),kE Q "_law_mended" 635 (.ref 337),kE Q "_law_pool" 641 (.ref 342),kE Q "_law_operand" 650 (.ref 349),kE Q "_law_deed" 659 (.ref 356),kE Q "_law_row" 671 (.ref 363),kE Q "_law_plan" 677 (.ref 368),kE Q "_law_made" 683 (.ref 373),kE Q "_law_names_of" 694 (.ref 380),kE Q "_law_behind" 705 (.ref 387),kE Q "_law_both" 715 (.ref 394),kE Q "_law_standing" 721 (.ref 399),kE Q "_law_right" 729 (.ref 406),kE Q "law" 746 (.ref 413)] 61),
 (20,kC "_wall" "_wall" 187 188 189 1 1 0 0 3 15 181 16 17 18 19 191 1 192),
 (21,kF "_wall" "_wall" (top 0) m0 (.ref 20)),
 (22,⟨(.type "tuple"),none,.seq ([(.str "plus" 204),(.str "minus" 205),(.str "times" 206),(.str "less" 207),(.str "same" 208)]:List Value).toArray 0,([]:List (Option Value)).toArray⟩),
 (28,kC "is_whole" "is_whole" 210 211 212 10 1 0 0 3 23 181 24 25 26 27 214 10 215),
 (29,kF "is_whole" "is_whole" (top 7) m1 (.ref 28)),
 (35,kC "is_value" "is_value" 217 218 219 12 1 0 0 3 30 181 31 32 33 34 221 12 222),
 (36,kF "is_value" "is_value" (top 8) m1 (.ref 35)),
 (40,kN "is_name" "is_name" 224 225 226 14 1 0 0 3 37 181 38 39 227 14 228),
 (41,kF "is_name" "is_name" (top 9) m1 (.ref 40)),
 (47,kC "is_operand" "is_operand" 230 231 232 18 1 0 0 3 42 181 43 44 45 46 234 18 235),
 (48,kF "is_operand" "is_operand" (top 10) m1 (.ref 47)),
 (54,kC "is_deed" "is_deed" 237 238 239 20 1 0 0 3 49 181 50 51 52 53 241 20 242),
 (55,kF "is_deed" "is_deed" (top 11) m1 (.ref 54)),
 (61,kC "is_row" "is_row" 244 245 246 24 1 0 0 3 56 181 57 58 59 60 250 24 251),
 (62,kF "is_row" "is_row" (top 12) m1 (.ref 61)),
 (68,kC "set_by" "set_by" 255 256 257 39 1 0 0 3 63 181 64 65 66 67 259 39 260),
 (69,kF "set_by" "set_by" (top 14) m2 (.ref 68)),
 (78,kD [kE Q "__module__" 271 (.str "oncedone.errors" 262),kE Q "__firstlineno__" 275 (.int (42) 274),kE Q "__static_attributes__" 276 (.ref 77),kE Q "__weakref__" 278 (.ref 80),kE Q "__doc__" 279 .none] 3),
 (79,⟨(.type "type"),none,.cls { name := "OnceError",bases:=[(.type "ValueError")],mro:=[(.ref 79),(.type "ValueError"),(.type "Exception"),(.type "BaseException"),(.type "object")],ns:=78,qualname := "OnceError",hasDict:=true,subclasses:=[(.ref 99),(.ref 118),(.ref 137),(.ref 156)] },([some (.ref 70),none,some (.str "OnceError" 264),some (.str "OnceError" 272),some (.builtin "ValueError.__new__"),some (.bool true)]:List (Option Value)).toArray⟩),
 (95,kC "__init__" "Wrong.__init__" 294 295 296 46 2 0 0 3 90 181 91 92 93 94 299 46 300),
 (96,kF "__init__" "Wrong.__init__" (Q8 (top 17) 0) m3 (.ref 95)),
 (98,kD [kE Q "__module__" 289 (.str "oncedone.errors" 262),kE Q "__firstlineno__" 293 (.int (44) 292),kE Q "__init__" 301 (.ref 96),kE Q "__static_attributes__" 303 (.ref 97),kE Q "__doc__" 304 .none] 2),
 (99,⟨(.type "type"),none,.cls { name := "Wrong",bases:=[(.ref 79)],mro:=[(.ref 99),(.ref 79),(.type "ValueError"),(.type "Exception"),(.type "BaseException"),(.type "object")],ns:=98,qualname := "Wrong",hasDict:=true,subclasses:=[] },([some (.ref 83),none,some (.str "Wrong" 282),some (.str "Wrong" 290),some (.builtin "ValueError.__new__"),some (.bool true)]:List (Option Value)).toArray⟩),
 (114,kC "__init__" "NoThing.__init__" 319 320 321 50 2 0 0 3 109 181 110 111 112 113 324 50 325),
 (115,kF "__init__" "NoThing.__init__" (Q8 (top 18) 0) m3 (.ref 114)),
 (117,kD [kE Q "__module__" 314 (.str "oncedone.errors" 262),kE Q "__firstlineno__" 318 (.int (48) 317),kE Q "__init__" 326 (.ref 115),kE Q "__static_attributes__" 328 (.ref 116),kE Q "__doc__" 329 .none] 2),
 (118,⟨(.type "type"),none,.cls { name := "NoThing",bases:=[(.ref 79)],mro:=[(.ref 118),(.ref 79),(.type "ValueError"),(.type "Exception"),(.type "BaseException"),(.type "object")],ns:=117,qualname := "NoThing",hasDict:=true,subclasses:=[] },([some (.ref 102),none,some (.str "NoThing" 307),some (.str "NoThing" 315),some (.builtin "ValueError.__new__"),some (.bool true)]:List (Option Value)).toArray⟩),
 (133,kC "__init__" "TooMany.__init__" 344 345 346 54 2 0 0 3 128 181 129 130 131 132 349 54 350)]
def c3l:List Addr:=[3,20,21,22,28,29,35,36,40,41,47,48,54,55,61,62,68,69,78,79,95,96,98,99,114,115,117,118,133]
def K2(Q:Params):Frag:=[
 (134,kF "__init__" "TooMany.__init__" (Q8 (top 19) 0) m3 (.ref 133)),
 (136,kD [kE Q "__module__" 339 (.str "oncedone.errors" 262),kE Q "__firstlineno__" 343 (.int (52) 342),kE Q "__init__" 351 (.ref 134),kE Q "__static_attributes__" 353 (.ref 135),kE Q "__doc__" 354 .none] 2),
 (137,⟨(.type "type"),none,.cls { name := "TooMany",bases:=[(.ref 79)],mro:=[(.ref 137),(.ref 79),(.type "ValueError"),(.type "Exception"),(.type "BaseException"),(.type "object")],ns:=136,qualname := "TooMany",hasDict:=true,subclasses:=[] },([some (.ref 121),none,some (.str "TooMany" 332),some (.str "TooMany" 340),some (.builtin "ValueError.__new__"),some (.bool true)]:List (Option Value)).toArray⟩),
 (152,kC "__init__" "NoWay.__init__" 369 370 371 58 2 0 0 3 147 181 148 149 150 151 374 58 375),
 (153,kF "__init__" "NoWay.__init__" (Q8 (top 20) 0) m3 (.ref 152)),
 (155,kD [kE Q "__module__" 364 (.str "oncedone.errors" 262),kE Q "__firstlineno__" 368 (.int (56) 367),kE Q "__init__" 376 (.ref 153),kE Q "__static_attributes__" 378 (.ref 154),kE Q "__doc__" 379 .none] 2),
 (156,⟨(.type "type"),none,.cls { name := "NoWay",bases:=[(.ref 79)],mro:=[(.ref 156),(.ref 79),(.type "ValueError"),(.type "Exception"),(.type "BaseException"),(.type "object")],ns:=155,qualname := "NoWay",hasDict:=true,subclasses:=[] },([some (.ref 140),none,some (.str "NoWay" 357),some (.str "NoWay" 365),some (.builtin "ValueError.__new__"),some (.bool true)]:List (Option Value)).toArray⟩),
 (164,kC "is_below" "is_below" 386 387 388 62 2 0 0 3 159 181 160 161 162 163 391 62 392),
 (165,kF "is_below" "is_below" (top 23) m4 (.ref 164)),
 (171,kC "check_length" "check_length" 394 395 396 64 3 0 0 3 166 181 167 168 169 170 400 64 401),
 (172,kF "check_length" "check_length" (top 24) m4 (.ref 171)),
 (178,kC "check_each" "check_each" 403 404 405 69 1 0 0 3 173 181 174 175 176 177 409 69 410),
 (179,kF "check_each" "check_each" (top 25) m4 (.ref 178)),
 (180,⟨(.type "tuple"),none,.seq ([(.int (-1) 415),(.int (0) 416)]:List Value).toArray 0,([]:List (Option Value)).toArray⟩),
 (184,kN "are_nexts" "are_nexts" 418 419 420 75 3 0 0 3 181 181 182 183 421 75 422),
 (185,kF "are_nexts" "are_nexts" (top 28) m5 (.ref 184)),
 (189,kN "check_nexts" "check_nexts" 424 425 426 80 2 0 0 3 186 181 187 188 427 80 428),
 (190,kF "check_nexts" "check_nexts" (top 29) m5 (.ref 189)),
 (194,kN "stops_of" "stops_of" 430 431 432 84 1 0 0 3 191 181 192 193 433 84 434),
 (195,kF "stops_of" "stops_of" (top 30) m5 (.ref 194)),
 (199,kN "turned" "turned" 436 437 438 86 1 0 0 3 196 181 197 198 439 86 440),
 (200,kF "turned" "turned" (top 31) m5 (.ref 199)),
 (206,kC "reached" "reached" 442 443 444 92 2 0 0 3 201 181 202 203 204 205 450 92 451),
 (207,kF "reached" "reached" (top 32) m5 (.ref 206)),
 (213,kC "check_ways" "check_ways" 453 454 455 101 1 0 0 3 208 181 209 210 211 212 460 101 461),
 (214,kF "check_ways" "check_ways" (top 33) m5 (.ref 213)),
 (218,kN "steps_of" "steps_of" 463 464 465 107 1 0 0 3 215 181 216 217 466 107 467),
 (219,kF "steps_of" "steps_of" (top 34) m5 (.ref 218)),
 (230,kN "__init__" "Plan.__init__" 481 482 483 114 3 0 0 3 227 181 228 229 484 114 485)]
def c0y:List Addr:=[134,136,137,152,153,155,156,164,165,171,172,178,179,180,184,185,189,190,194,195,199,200,206,207,213,214,218,219,230]
def K3(Q:Params):Frag:=[
 (231,kF "__init__" "Plan.__init__" (Q8 (top 35) 0) m5 (.ref 230)),
 (237,kC "steps" "Plan.steps" 487 488 489 125 1 0 0 3 232 181 233 234 235 236 491 125 492),
 (238,kF "steps" "Plan.steps" (Q8 (top 35) 1) m5 (.ref 237)),
 (244,kC "leads_to" "Plan.leads_to" 494 495 496 128 2 0 0 3 239 181 240 241 242 243 499 128 500),
 (245,kF "leads_to" "Plan.leads_to" (Q8 (top 35) 2) m5 (.ref 244)),
 (251,kC "steps_into" "Plan.steps_into" 502 503 504 133 2 0 0 3 246 181 247 248 249 250 507 133 508),
 (252,kF "steps_into" "Plan.steps_into" (Q8 (top 35) 3) m5 (.ref 251)),
 (258,kC "stops" "Plan.stops" 510 511 512 136 1 0 0 3 253 181 254 255 256 257 514 136 515),
 (259,kF "stops" "Plan.stops" (Q8 (top 35) 4) m5 (.ref 258)),
 (265,kC "deeds" "Plan.deeds" 517 518 519 139 1 0 0 3 260 181 261 262 263 264 521 139 522),
 (266,kF "deeds" "Plan.deeds" (Q8 (top 35) 5) m5 (.ref 265)),
 (272,kC "names" "Plan.names" 524 525 526 142 1 0 0 3 267 181 268 269 270 271 528 142 529),
 (273,kF "names" "Plan.names" (Q8 (top 35) 6) m5 (.ref 272)),
 (275,kD [kE Q "__module__" 476 (.str "oncedone.plans" 412),kE Q "__firstlineno__" 480 (.int (112) 479),kE Q "__init__" 486 (.ref 231),kE Q "steps" 493 (.ref 238),kE Q "leads_to" 501 (.ref 245),kE Q "steps_into" 509 (.ref 252),kE Q "stops" 516 (.ref 259),kE Q "deeds" 523 (.ref 266),kE Q "names" 530 (.ref 273),kE Q "__static_attributes__" 534 (.ref 274),kE Q "__dict__" 536 (.ref 277),kE Q "__weakref__" 538 (.ref 278),kE Q "__doc__" 539 .none] 4),
 (276,⟨(.type "type"),none,.cls { name := "Plan",bases:=[(.type "object")],mro:=[(.ref 276),(.type "object")],ns:=275,qualname := "Plan",hasDict:=true,subclasses:=[] },([none,none,some (.str "Plan" 469),some (.str "Plan" 477),some (.builtin "object.__new__"),some (.bool true)]:List (Option Value)).toArray⟩),
 (286,kC "pass_on" "pass_on" 544 545 546 145 4 0 0 3 281 181 282 283 284 285 553 145 554),
 (287,kF "pass_on" "pass_on" (top 37) m6 (.ref 286)),
 (293,kC "unready_steps" "unready_steps" 556 557 558 150 3 0 0 3 288 181 289 290 291 292 566 150 567),
 (294,kF "unready_steps" "unready_steps" (top 38) m6 (.ref 293)),
 (300,kC "copies_of" "copies_of" 571 572 573 164 1 0 0 3 295 181 296 297 298 299 577 164 578),
 (301,kF "copies_of" "copies_of" (top 40) m7 (.ref 300)),
 (305,kN "places_without" "places_without" 580 581 582 170 2 0 0 3 302 181 303 304 583 170 584),
 (306,kF "places_without" "places_without" (top 41) m7 (.ref 305)),
 (312,kC "stands_for" "stands_for" 586 587 588 174 3 0 0 3 307 181 308 309 310 311 593 174 594),
 (313,kF "stands_for" "stands_for" (top 42) m7 (.ref 312)),
 (317,kN "_law_bag" "_law_bag" 598 599 600 180 1 0 0 3 314 181 315 316 601 180 602),
 (318,kF "_law_bag" "_law_bag" (top 44) m8 (.ref 317)),
 (324,kC "_law_take" "_law_take" 604 605 606 182 2 0 0 3 319 181 320 321 322 323 614 182 615),
 (325,kF "_law_take" "_law_take" (top 45) m8 (.ref 324))]
def c0x:List Addr:=[231,237,238,244,245,251,252,258,259,265,266,272,273,275,276,286,287,293,294,300,301,305,306,312,313,317,318,324,325]
def K4(Q:Params):Frag:=[
 (331,kC "_law_net" "_law_net" 617 618 619 201 2 0 0 3 326 181 327 328 329 330 627 201 628),
 (332,kF "_law_net" "_law_net" (top 46) m8 (.ref 331)),
 (336,kN "_law_mended" "_law_mended" 630 631 632 219 1 0 0 3 333 181 334 335 633 219 634),
 (337,kF "_law_mended" "_law_mended" (top 47) m8 (.ref 336)),
 (341,kN "_law_pool" "_law_pool" 636 637 638 234 1 0 0 3 338 181 339 340 639 234 640),
 (342,kF "_law_pool" "_law_pool" (top 48) m8 (.ref 341)),
 (348,kC "_law_operand" "_law_operand" 642 643 644 238 2 0 0 3 343 181 344 345 346 347 648 238 649),
 (349,kF "_law_operand" "_law_operand" (top 49) m8 (.ref 348)),
 (355,kC "_law_deed" "_law_deed" 651 652 653 243 2 0 0 3 350 181 351 352 353 354 657 243 658),
 (356,kF "_law_deed" "_law_deed" (top 50) m8 (.ref 355)),
 (362,kC "_law_row" "_law_row" 660 661 662 246 4 0 0 3 357 181 358 359 360 361 669 246 670),
 (363,kF "_law_row" "_law_row" (top 51) m8 (.ref 362)),
 (367,kN "_law_plan" "_law_plan" 672 673 674 258 1 0 0 3 364 181 365 366 675 258 676),
 (368,kF "_law_plan" "_law_plan" (top 52) m8 (.ref 367)),
 (372,kN "_law_made" "_law_made" 678 679 680 269 2 0 0 3 369 181 370 371 681 269 682),
 (373,kF "_law_made" "_law_made" (top 53) m8 (.ref 372)),
 (379,kC "_law_names_of" "_law_names_of" 684 685 686 271 1 0 0 3 374 181 375 376 377 378 692 271 693),
 (380,kF "_law_names_of" "_law_names_of" (top 54) m8 (.ref 379)),
 (386,kC "_law_behind" "_law_behind" 695 696 697 281 2 0 0 3 381 181 382 383 384 385 703 281 704),
 (387,kF "_law_behind" "_law_behind" (top 55) m8 (.ref 386)),
 (393,kC "_law_both" "_law_both" 706 707 708 292 2 0 0 3 388 181 389 390 391 392 713 292 714),
 (394,kF "_law_both" "_law_both" (top 56) m8 (.ref 393)),
 (398,kN "_law_standing" "_law_standing" 716 717 718 298 2 0 0 3 395 181 396 397 719 298 720),
 (399,kF "_law_standing" "_law_standing" (top 57) m8 (.ref 398)),
 (405,kC "_law_right" "_law_right" 722 723 724 315 2 0 0 3 400 181 401 402 403 404 727 315 728),
 (406,kF "_law_right" "_law_right" (top 58) m8 (.ref 405)),
 (412,kC "law" "law" 730 731 732 321 1 0 0 3 407 181 408 409 410 411 744 321 745),
 (413,kF "law" "law" (top 59) m8 (.ref 412))]
def c0w:List Addr:=[331,332,336,337,341,342,348,349,355,356,362,363,367,368,372,373,379,380,386,387,393,394,398,399,405,406,412,413]
def K(Q:Params):Frag:=K1 Q++(K2 Q++(K3 Q++K4 Q))
def adr:List Addr:=c3l++(c0y++(c0x++c0w))
def q:v8:=view P [59]
def loose:List Str:=(["_wall","BOUND","LETTERS","FIGURES","LONGEST_NAME","DEED_KINDS","is_whole","is_value","is_name","is_operand","is_deed","is_row","set_by","OnceError","Wrong","NoThing","TooMany","NoWay","MOST","is_below","check_length","check_each","FIRST_STEP","are_nexts","check_nexts","stops_of","turned","reached","check_ways","steps_of","Plan","pass_on","unready_steps","copies_of","places_without","stands_for","_law_bag","_law_take","_law_net","_law_mended","_law_pool","_law_operand","_law_deed","_law_row","_law_plan","_law_made","_law_names_of","_law_behind","_law_both","_law_standing","_law_right"]:List String).map Str.ofString
theorem b7K{p q:v8}{loose:List Str}{Xt:g7->Bool}{α:Type}{Yf:g7->α}{Ya:World->α}{N m₀:Nat}{ann:Option Value}(e:opening p=plainProg p.main.scope.names)(hN:Nat.ble 600 N=true)(f:∀s,fenceModules? p s=some s)
  (size:∀w:World,((boot_heap w.params).isNs t5,(boot_heap w.params).objs.size,(boot_heap w.params).nsMap t5 "__annotations__")=(true,m₀,ann))
  {r:World->OsState->Option g7} (hr:∀w os x,r w os=some x->topRun treeTable p w m₀ ann N ⟨boot_heap w.params,Array.mk [],boot_drawn,boot_toks,os⟩ (topStub p)=some x)
  (ra:∀w os,(r w os).map (fun s₁=>staticsOk (a1j p.main.body) (boot_heap w.params) s₁.heap&&namesBound p s₁.heap&&gensDone s₁&&laidKept (boot_heap w.params) s₁.heap)=some true)
  (rb:∀w os,(r w os).map (openSeen q loose (a1j p.main.body) Xt true)=some (openGood q loose))
  (rc:∀w os,(r w os).map Yf=some (Ya w)) :
  LeftO p q loose Xt Yf Ya N:=fun w=>by
 obtain⟨⟨h,gs,d,k,os⟩,e1,e2⟩:=l7.mp (boot_open e hN f w)
 obtain⟨rfl,rfl,rfl,rfl⟩:h=boot_heap w.params/\gs=Array.mk []/\d=boot_drawn/\k=boot_toks:=by simpa using e2
 obtain⟨z1,z2,z3⟩:_/\_/\_:=by simpa only[Prod.mk.injEq]using size w
 obtain⟨s₁,r1,r3⟩:=l7.mp (ra w os)
 have rb:=rb w os
 have rc:=rc w os
 rw[r1]at rb rc
 have r1:=hr w os _ r1
 have r4:(openSeen q loose (a1j p.main.body) Xt true s₁,Yf s₁)=(openGood q loose,Ya w):=Prod.ext (Option.some.inj rb) (Option.some.inj rc)
 have t:topFrom treeTable p w N ⟨boot_heap w.params,Array.mk [],boot_drawn,boot_toks,os⟩=some s₁:=by
  unfold topFrom
  dsimp only
  rw[z1,z2,z3,r1]
  show(match staticsOk (a1j p.main.body) (boot_heap w.params) s₁.heap&&namesBound p s₁.heap&&gensDone s₁&&laidKept (boot_heap w.params) s₁.heap with | true=>some s₁ | false=>none)=_
  rw[r3]
 unfold openEnds
 rw[e1]
 show(topFrom treeTable p w N _).map _=_
 rw[t]
 exact congrArg some r4
abbrev a8N:Hook:=kHook K adr (fun _=>by kernel_rfl)
abbrev row:OpenLaw:=PySem.Challenge.rw_oncedone_k83_stands_for
def kZ(x q:Str)(st:Stmt):Obj:=⟨.none,none,.func { fnOf x q (a1L st) (a0j st) (i8 st) .none .none .none .none none .none .none with globals:=0 },#[]⟩
def kS(xs:List Value)(n:Nat):Obj:=⟨.type "tuple",none,.seq xs.toArray n,([]:List (Option Value)).toArray⟩
noncomputable section
def kk(a:Addr)(Q:Params):Obj:=((K Q).lookup a).getD (boot_o_4 Q)
def h1(Q:Params):List Obj:=[
boot_o_0 Q,
boot_o_1 Q,
boot_o_2 Q,
kD [kE Q "__name__" 165 (.str "oncedone.checks" 382),kE Q "__doc__" 166 .none,kE Q "__package__" 167 .none,kE Q "__loader__" 168 (.builtin "__main__.__loader__#opaque"),kE Q "__spec__" 169 .none,kE Q "__annotations__" 170 (.ref 6),kE Q "__builtins__" 171 (.ref 4),kE Q "__file__" 173 (.str "/claim/cut.py" 172),kE Q "__cached__" 174 .none,kE Q "_wall" 193 (.ref 21),kE Q "BOUND" 197 (.int (1000000000000) 196),kE Q "LETTERS" 199 (.str "abcdefghijklmnopqrstuvwxyz" 198),kE Q "FIGURES" 201 (.str "0123456789" 200),kE Q "LONGEST_NAME" 203 (.int (8) 202),kE Q "DEED_KINDS" 209 (.ref 22),kE Q "is_whole" 216 (.ref 29),kE Q "is_value" 223 (.ref 36),kE Q "is_name" 229 (.ref 41),kE Q "is_operand" 236 (.ref 48),kE Q "is_deed" 243 (.ref 55),kE Q "is_row" 252 (.ref 62),kE Q "set_by" 261 (.ref 69),kE Q "OnceError" 281 (.ref 79),kE Q "Wrong" 306 (.ref 99),kE Q "NoThing" 331 (.ref 118),kE Q "TooMany" 356 (.ref 137),kE Q "NoWay" 381 (.ref 156),kE Q "MOST" 385 (.int (400) 384),kE Q "is_below" 393 (.ref 165)] 29,
boot_o_4 Q,
boot_o_5 Q,
boot_o_6 Q,
boot_o_7 Q,
boot_o_8 Q,
boot_o_9 Q,
boot_o_10 Q,
kS [] 0,
⟨.none,none,.fields ([(.int (1) 0),(.int (0) 0),(.ref 20),(.int (10) 0),(.int (0) 0),(.ref 28),(.int (12) 0),(.int (0) 0),(.ref 35),(.int (14) 0),(.int (0) 0),(.ref 40),(.int (18) 0),(.int (0) 0),(.ref 47),(.int (20) 0),(.int (0) 0),(.ref 54),(.int (24) 0),(.int (0) 0),(.ref 61),(.int (39) 0),(.int (0) 0),(.ref 68),(.int (42) 0),(.int (0) 0),(.ref 75),(.int (44) 0),(.int (0) 0),(.ref 88),(.int (48) 0),(.int (0) 0),(.ref 107),(.int (52) 0),(.int (0) 0),(.ref 126),(.int (56) 0),(.int (0) 0),(.ref 145),(.int (62) 0),(.int (0) 0),(.ref 164)]:List Value).toArray,([]:List (Option Value)).toArray⟩,
⟨(.type "code"),none,.fields ([(.str "<module>" 182),(.str "<module>" 183),(.str "/claim/cut.py" 184),(.int (1) 0),(.int (0) 0),(.int (0) 0),(.int (0) 0),(.int (0) 0),(.ref 11),(.bool false),(.int (181) 0),(.ref 12),.none,.none,.none,.none,(.int (185) 0),(.int (1) 0),(.str "/claim/cut.py" 186)]:List Value).toArray,([]:List (Option Value)).toArray⟩,
⟨(.type "frame"),none,.plain,([some (.ref 13),some (.ref 3),some (.ref 3),none,some (.str "__main__" 164),none,some (.ref 0)]:List (Option Value)).toArray⟩,
kS [] 0,
⟨.none,none,.fields ([]:List Value).toArray,([]:List (Option Value)).toArray⟩,
kS [(.str "k" 190)] 0,
kS [] 0,
kZ "_wall" "_wall" (top 0),
kk 20 Q,
kk 21 Q,
kk 22 Q,
kS [] 0,
⟨.none,none,.fields ([]:List Value).toArray,([]:List (Option Value)).toArray⟩,
kS [(.str "thing" 213)] 0,
kS [] 0,
kZ "is_whole" "is_whole" (top 7),
kk 28 Q,
kk 29 Q,
kS [] 0,
⟨.none,none,.fields ([]:List Value).toArray,([]:List (Option Value)).toArray⟩,
kS [(.str "thing" 220)] 0,
kS [] 0,
kZ "is_value" "is_value" (top 8),
kk 35 Q,
kk 36 Q,
kS [] 0,
⟨.none,none,.fields ([]:List Value).toArray,([]:List (Option Value)).toArray⟩,
kZ "is_name" "is_name" (top 9),
kk 40 Q,
kk 41 Q,
kS [] 0,
⟨.none,none,.fields ([]:List Value).toArray,([]:List (Option Value)).toArray⟩,
kS [(.str "thing" 233)] 0,
kS [] 0,
kZ "is_operand" "is_operand" (top 10),
kk 47 Q,
kk 48 Q,
kS [] 0,
⟨.none,none,.fields ([]:List Value).toArray,([]:List (Option Value)).toArray⟩,
kS [(.str "thing" 240)] 0,
kS [] 0,
kZ "is_deed" "is_deed" (top 11),
kk 54 Q,
kk 55 Q,
kS [] 0,
⟨.none,none,.fields ([]:List Value).toArray,([]:List (Option Value)).toArray⟩,
kS [(.str "thing" 247),(.str "kind" 248),(.str "rest" 249)] 0,
kS [] 0,
kZ "is_row" "is_row" (top 12),
kk 61 Q,
kk 62 Q,
kS [] 0,
⟨.none,none,.fields ([]:List Value).toArray,([]:List (Option Value)).toArray⟩,
kS [(.str "row" 258)] 0,
kS [] 0,
kZ "set_by" "set_by" (top 14),
kk 68 Q,
kk 69 Q,
kS [(.type "ValueError")] 0,
⟨(.type "builtin_function_or_method"),none,.fields ([(.builtin "type.__prepare__"),(.type "type")]:List Value).toArray,([]:List (Option Value)).toArray⟩,
kD [kE Q "__module__" 271 (.str "oncedone.errors" 262),kE Q "__qualname__" 273 (.str "OnceError" 272),kE Q "__firstlineno__" 275 (.int (42) 274),kE Q "__static_attributes__" 276 (.ref 77)] 4,
kS [] 0,
⟨.none,none,.fields ([]:List Value).toArray,([]:List (Option Value)).toArray⟩,
⟨(.type "code"),none,.fields ([(.str "OnceError" 266),(.str "OnceError" 267),(.str "/claim/cut.py" 268),(.int (42) 0),(.int (0) 0),(.int (0) 0),(.int (0) 0),(.int (0) 0),(.ref 73),(.bool false),(.int (181) 0),(.ref 74),.none,.none,.none,.none,(.int (269) 0),(.int (42) 0),(.str "/claim/cut.py" 270)]:List Value).toArray,([]:List (Option Value)).toArray⟩,
⟨(.type "frame"),none,.plain,([some (.ref 75),some (.ref 3),some (.ref 72),none,some (.str "oncedone.errors" 262),none,some (.ref 0)]:List (Option Value)).toArray⟩,
kS [] 0,
kk 78 Q,
kk 79 Q,
⟨(.type "getset_descriptor"),none,.fields ([(.str "__weakref__" 277),(.ref 79),(.builtin "ExceptionGroup.__weakref__"),.none]:List Value).toArray,([]:List (Option Value)).toArray⟩,
⟨(.type "super"),none,.fields ([(.ref 79),(.ref 79),(.ref 79)]:List Value).toArray,([]:List (Option Value)).toArray⟩,
⟨(.type "builtin_function_or_method"),none,.fields ([(.builtin "object.__init_subclass__"),(.ref 79)]:List Value).toArray,([]:List (Option Value)).toArray⟩,
kS [(.ref 79)] 0,
⟨(.type "builtin_function_or_method"),none,.fields ([(.builtin "type.__prepare__"),(.type "type")]:List Value).toArray,([]:List (Option Value)).toArray⟩,
kD [kE Q "__module__" 289 (.str "oncedone.errors" 262),kE Q "__qualname__" 291 (.str "Wrong" 290),kE Q "__firstlineno__" 293 (.int (44) 292),kE Q "__init__" 301 (.ref 96),kE Q "__static_attributes__" 303 (.ref 97)] 5,
kS [] 0,
⟨.none,none,.fields ([(.int (46) 0),(.int (4) 0),(.ref 95)]:List Value).toArray,([]:List (Option Value)).toArray⟩,
⟨(.type "code"),none,.fields ([(.str "Wrong" 284),(.str "Wrong" 285),(.str "/claim/cut.py" 286),(.int (44) 0),(.int (0) 0),(.int (0) 0),(.int (0) 0),(.int (0) 0),(.ref 86),(.bool false),(.int (181) 0),(.ref 87),.none,.none,.none,.none,(.int (287) 0),(.int (44) 0),(.str "/claim/cut.py" 288)]:List Value).toArray,([]:List (Option Value)).toArray⟩,
⟨(.type "frame"),none,.plain,([some (.ref 88),some (.ref 3),some (.ref 85),none,some (.str "oncedone.errors" 262),none,some (.ref 0)]:List (Option Value)).toArray⟩,
kS [] 0,
⟨.none,none,.fields ([]:List Value).toArray,([]:List (Option Value)).toArray⟩,
kS [(.str "self" 297),(.str "at" 298)] 0,
kS [] 0,
kZ "__init__" "Wrong.__init__" (Q8 (top 17) 0),
kk 95 Q,
kk 96 Q,
kS [(.str "at" 302)] 0,
kk 98 Q,
kk 99 Q,
⟨(.type "super"),none,.fields ([(.ref 99),(.ref 99),(.ref 99)]:List Value).toArray,([]:List (Option Value)).toArray⟩,
⟨(.type "builtin_function_or_method"),none,.fields ([(.builtin "object.__init_subclass__"),(.ref 99)]:List Value).toArray,([]:List (Option Value)).toArray⟩,
kS [(.ref 79)] 0,
⟨(.type "builtin_function_or_method"),none,.fields ([(.builtin "type.__prepare__"),(.type "type")]:List Value).toArray,([]:List (Option Value)).toArray⟩,
kD [kE Q "__module__" 314 (.str "oncedone.errors" 262),kE Q "__qualname__" 316 (.str "NoThing" 315),kE Q "__firstlineno__" 318 (.int (48) 317),kE Q "__init__" 326 (.ref 115),kE Q "__static_attributes__" 328 (.ref 116)] 5,
kS [] 0,
⟨.none,none,.fields ([(.int (50) 0),(.int (4) 0),(.ref 114)]:List Value).toArray,([]:List (Option Value)).toArray⟩,
⟨(.type "code"),none,.fields ([(.str "NoThing" 309),(.str "NoThing" 310),(.str "/claim/cut.py" 311),(.int (48) 0),(.int (0) 0),(.int (0) 0),(.int (0) 0),(.int (0) 0),(.ref 105),(.bool false),(.int (181) 0),(.ref 106),.none,.none,.none,.none,(.int (312) 0),(.int (48) 0),(.str "/claim/cut.py" 313)]:List Value).toArray,([]:List (Option Value)).toArray⟩,
⟨(.type "frame"),none,.plain,([some (.ref 107),some (.ref 3),some (.ref 104),none,some (.str "oncedone.errors" 262),none,some (.ref 0)]:List (Option Value)).toArray⟩,
kS [] 0,
⟨.none,none,.fields ([]:List Value).toArray,([]:List (Option Value)).toArray⟩,
kS [(.str "self" 322),(.str "at" 323)] 0,
kS [] 0,
kZ "__init__" "NoThing.__init__" (Q8 (top 18) 0),
kk 114 Q,
kk 115 Q,
kS [(.str "at" 327)] 0,
kk 117 Q,
kk 118 Q,
⟨(.type "super"),none,.fields ([(.ref 118),(.ref 118),(.ref 118)]:List Value).toArray,([]:List (Option Value)).toArray⟩,
⟨(.type "builtin_function_or_method"),none,.fields ([(.builtin "object.__init_subclass__"),(.ref 118)]:List Value).toArray,([]:List (Option Value)).toArray⟩,
kS [(.ref 79)] 0,
⟨(.type "builtin_function_or_method"),none,.fields ([(.builtin "type.__prepare__"),(.type "type")]:List Value).toArray,([]:List (Option Value)).toArray⟩,
kD [kE Q "__module__" 339 (.str "oncedone.errors" 262),kE Q "__qualname__" 341 (.str "TooMany" 340),kE Q "__firstlineno__" 343 (.int (52) 342),kE Q "__init__" 351 (.ref 134),kE Q "__static_attributes__" 353 (.ref 135)] 5,
kS [] 0,
⟨.none,none,.fields ([(.int (54) 0),(.int (4) 0),(.ref 133)]:List Value).toArray,([]:List (Option Value)).toArray⟩,
⟨(.type "code"),none,.fields ([(.str "TooMany" 334),(.str "TooMany" 335),(.str "/claim/cut.py" 336),(.int (52) 0),(.int (0) 0),(.int (0) 0),(.int (0) 0),(.int (0) 0),(.ref 124),(.bool false),(.int (181) 0),(.ref 125),.none,.none,.none,.none,(.int (337) 0),(.int (52) 0),(.str "/claim/cut.py" 338)]:List Value).toArray,([]:List (Option Value)).toArray⟩,
⟨(.type "frame"),none,.plain,([some (.ref 126),some (.ref 3),some (.ref 123),none,some (.str "oncedone.errors" 262),none,some (.ref 0)]:List (Option Value)).toArray⟩,
kS [] 0,
⟨.none,none,.fields ([]:List Value).toArray,([]:List (Option Value)).toArray⟩,
kS [(.str "self" 347),(.str "most" 348)] 0,
kS [] 0,
kZ "__init__" "TooMany.__init__" (Q8 (top 19) 0),
kk 133 Q,
kk 134 Q,
kS [(.str "most" 352)] 0,
kk 136 Q,
kk 137 Q,
⟨(.type "super"),none,.fields ([(.ref 137),(.ref 137),(.ref 137)]:List Value).toArray,([]:List (Option Value)).toArray⟩,
⟨(.type "builtin_function_or_method"),none,.fields ([(.builtin "object.__init_subclass__"),(.ref 137)]:List Value).toArray,([]:List (Option Value)).toArray⟩,
kS [(.ref 79)] 0,
⟨(.type "builtin_function_or_method"),none,.fields ([(.builtin "type.__prepare__"),(.type "type")]:List Value).toArray,([]:List (Option Value)).toArray⟩,
kD [kE Q "__module__" 364 (.str "oncedone.errors" 262),kE Q "__qualname__" 366 (.str "NoWay" 365),kE Q "__firstlineno__" 368 (.int (56) 367),kE Q "__init__" 376 (.ref 153),kE Q "__static_attributes__" 378 (.ref 154)] 5,
kS [] 0,
⟨.none,none,.fields ([(.int (58) 0),(.int (4) 0),(.ref 152)]:List Value).toArray,([]:List (Option Value)).toArray⟩,
⟨(.type "code"),none,.fields ([(.str "NoWay" 359),(.str "NoWay" 360),(.str "/claim/cut.py" 361),(.int (56) 0),(.int (0) 0),(.int (0) 0),(.int (0) 0),(.int (0) 0),(.ref 143),(.bool false),(.int (181) 0),(.ref 144),.none,.none,.none,.none,(.int (362) 0),(.int (56) 0),(.str "/claim/cut.py" 363)]:List Value).toArray,([]:List (Option Value)).toArray⟩,
⟨(.type "frame"),none,.plain,([some (.ref 145),some (.ref 3),some (.ref 142),none,some (.str "oncedone.errors" 262),none,some (.ref 0)]:List (Option Value)).toArray⟩,
kS [] 0,
⟨.none,none,.fields ([]:List Value).toArray,([]:List (Option Value)).toArray⟩,
kS [(.str "self" 372),(.str "at" 373)] 0,
kS [] 0,
kZ "__init__" "NoWay.__init__" (Q8 (top 20) 0),
kk 152 Q,
kk 153 Q,
kS [(.str "at" 377)] 0,
kk 155 Q,
kk 156 Q,
⟨(.type "super"),none,.fields ([(.ref 156),(.ref 156),(.ref 156)]:List Value).toArray,([]:List (Option Value)).toArray⟩,
⟨(.type "builtin_function_or_method"),none,.fields ([(.builtin "object.__init_subclass__"),(.ref 156)]:List Value).toArray,([]:List (Option Value)).toArray⟩,
kS [] 0,
⟨.none,none,.fields ([]:List Value).toArray,([]:List (Option Value)).toArray⟩,
kS [(.str "thing" 389),(.str "many" 390)] 0,
kS [] 0,
kZ "is_below" "is_below" (top 23),
kk 164 Q,
kk 165 Q]
abbrev bd:List Stmt:=behindTheImports P
abbrev en:Env:={ scope:=P.main.scope,locals:=mainNs,globals:=mainNs,cells:=[],code:=(.ref 13),frame:=some 14 }
abbrev cE:Code:=.body bd en
abbrev fB:List Frame:=[topFrame ⟨0,0,0,0⟩]
abbrev s0(w:World)(os:OsState):g7:=⟨boot_heap w.params,Array.mk [],boot_drawn,boot_toks,os⟩
def sa(w:World)(os:OsState):g7:=((topGo treeTable P w 11 (some (.ref 6)) 12 (s0 w os) (topStub P)).map (·.1)).getD (s0 w os)
abbrev s1(w:World)(os:OsState):g7:=⟨⟨Array.mk (h1 w.params),(boot_heap w.params).life⟩,Array.mk [],boot_drawn,394,os⟩
abbrev rn(w:World)(os:OsState):Option g7:=PySem.W.Fast.tw14082659384304107361 PySem.W.Fast.tw14364793385576792824 P w 11 (some (.ref 6)) 4965 (s1 w os) (restOf (bd.drop 24) en cE ⟨62,0,63,48⟩ fB)
end
theorem c5j(w:World)(os:OsState):topGo treeTable P w 11 (some (.ref 6)) 12 (s0 w os) (topStub P)=some (sa w os,⟨denote treeTable cE,cE,⟨0,0,0,0⟩,fB⟩):=by kernel_rfl
theorem c5i(w:World)(os:OsState):segRun treeTable P w 11 (some (.ref 6)) 1 1 (sa w os) (blockOf bd en cE ⟨0,0,0,0⟩ fB)=some (.next,sa w os,cE,⟨0,0,0,0⟩):=by kernel_rfl
theorem c5h(w:World)(os:OsState):segRun treeTable P w 11 (some (.ref 6)) 1 1524 (sa w os) (piecesOf (bd.take 24) en cE ⟨0,0,0,0⟩ fB)=some (.next,s1 w os,cE,⟨62,0,63,48⟩):=by kernel_rfl
theorem c5g(w:World)(os:OsState)(x:g7)(h:rn w os=some x):topRun treeTable P w 11 (some (.ref 6)) 6502 (s0 w os) (topStub P)=some x:=by
 have h:topRun treeTable P w 11 (some (.ref 6)) 4965 (s1 w os) (restOf (bd.drop 24) en cE ⟨62,0,63,48⟩ fB)=some x:=by rw[PySem.W.Fast.te14082659384304107361,PySem.W.Fast.te14364793385576792824];exact h
 have h:=piece_app (c5h w os) h
 rw[List.take_append_drop]at h
 exact go_top (c5j w os) (piece_block (c5i w os) h)
theorem c2Q(w:World)(os:OsState):(rn w os).map (fun s₁=>staticsOk (a1j P.main.body) (boot_heap w.params) s₁.heap&&namesBound P s₁.heap&&gensDone s₁&&laidKept (boot_heap w.params) s₁.heap)=some true:=by kernel_rfl
theorem c2P(w:World)(os:OsState):(rn w os).map (PySem.W.Fast.tw4187177175401517315 q loose (a1j P.main.body) (fun s=>xlAt q [] s&&recOk (RowW.records row.row.toRowW) s) true)=some (openGood q loose):=by kernel_rfl
theorem c0c(w:World)(os:OsState):(rn w os).map (fun s=>c3l.map s.heap.get?)=some ((K1 w.params).map fun p=>some p.2):=by kernel_rfl
theorem c0b(w:World)(os:OsState):(rn w os).map (fun s=>c0y.map s.heap.get?)=some ((K2 w.params).map fun p=>some p.2):=by kernel_rfl
theorem c0a(w:World)(os:OsState):(rn w os).map (fun s=>c0x.map s.heap.get?)=some ((K3 w.params).map fun p=>some p.2):=by kernel_rfl
theorem b9Z(w:World)(os:OsState):(rn w os).map (fun s=>c0w.map s.heap.get?)=some ((K4 w.params).map fun p=>some p.2):=by kernel_rfl
theorem c2O(w:World)(os:OsState):(rn w os).map (Hook.obs a8N)=some (Hook.val a8N w):=by
 obtain⟨s,h1,h2⟩:=l7.mp (c0c w os)
 have h3:=c0b w os
 have h4:=c0a w os
 have h5:=b9Z w os
 rw[h1]at h3 h4 h5 ⊢
 have h3:c0y.map s.heap.get? = _:=Option.some.inj h3
 have h4:c0x.map s.heap.get? = _:=Option.some.inj h4
 have h5:c0w.map s.heap.get? = _:=Option.some.inj h5
 show some ((c3l++(c0y++(c0x++c0w))).map s.heap.get?)=some ((K1 w.params++(K2 w.params++(K3 w.params++K4 w.params))).map fun p=>some p.2)
 rw[z9,z9,z9,z9,z9,z9,h2,h3,h4,h5]
theorem left:LeftO P q loose (fun s=>xlAt q [] s&&recOk (RowW.records row.row.toRowW) s) (Hook.obs a8N) (Hook.val a8N) 6502:=
 b7K (m₀:=11) (ann:=(some (.ref 6))) (r:=rn) (by kernel_rfl) (by kernel_rfl) (fun s=>by kernel_rfl) (fun w=>by kernel_rfl) c5g c2Q (by rw[PySem.W.Fast.te4187177175401517315];exact c2P) c2O
theorem c3O:row.wellSaid=true:=by
 rw[PySem.W.Fast.te9446332074065402090]
 kernel_rfl
theorem fin(hc:∀d:DefRec,d.name = "law" -> d.params.defaults=[]->WalkO q loose (XL q []) (Hook.says a8N) row.row.toRowW d [] (fun f vs=>b0T f vs)):row.Holds:=by
 refine holds_law (l:=row) c3O fun said=>?_
 refine holds_open (q:=q) (loose:=loose) (Xt:=fun s=>xlAt q [] s&&recOk (RowW.records row.row.toRowW) s) (XP:=XL q []) (Yf:=Hook.obs a8N) (Ya:=Hook.val a8N) (YP:=Hook.says a8N) (N:=6502) left (Hook.of a8N) (Hook.keeps a8N) (fun s e=>xl_of s (b6b.mp e).1) XL.keeps (by rfl) (by rfl) (by rfl) (fun s e=>recFacts_of (b6b.mp e).2) (by rfl) said (by decide +kernel) ⟨rfl,rfl,rfl,rfl,rfl,by decide +kernel⟩ ?hw (hc _ rfl rfl)
 case hw=>w_witness2
end HD
set_option Elab.async false
set_option linter.all false
set_option maxRecDepth 100000
namespace L2
open PySem PySem.Spec PyProof.Rows
variable{us:List Value}{i t':Nat}{u:Value}{C a b dx f:Addr}{w:World}{h h':Heap}{pins:List (Addr×Obj)}{s:g7}{c e tg:Expr}{p pos pos':Pos}{Q:Value->g7->Prop}{es:List Expr}{ps:List Str}{m:Str->Option Value}
abbrev Key:=Sum Int Str
def a8c:Key->Value->Bool
 | .inl k,v=>Value.isInt k v
 | .inr x,v=>Value.isStrOf x v
def c5e(w:World):Key->Int
 | .inl k=>hashInt k
 | .inr x=>hashStr w x
theorem O5:∀ {k:Key} {v:Value},a8c k v=true->(∃i t,k=Sum.inl i/\v=Value.int i t)\/(∃x t,k=Sum.inr x/\v=Value.str x t)
 | .inl i,v,h=>by
  obtain⟨t,e⟩:=Value.isInt_shape (k:=i) (v:=v) h
  exact .inl ⟨i,t,rfl,e⟩
 | .inr x,v,h=>by
  obtain⟨t,e⟩:=Value.isStrOf_shape (x:=x) (v:=v) h
  exact .inr ⟨x,t,rfl,e⟩
theorem b5r(i:Int)(t:Tok):a8c (.inl i) (.int i t)=true:=by simp[a8c,Value.isInt]
theorem b5q(x:Str)(t:Tok):a8c (.inr x) (.str x t)=true:=by simp[a8c,Value.isStrOf]
theorem c2V(a b:Int):decide ((Sum.inl a:Key)=Sum.inl b)=(a == b):=by
 by_cases e:a=b
 ·subst e;simp
 ·have h:¬(Sum.inl a:Key)=Sum.inl b:=fun q=>e (Sum.inl.inj q)
  rw[c6w h]
  exact(beq_eq_false_iff_ne.mpr e).symm
theorem c2S(a b:Str):decide ((Sum.inr a:Key)=Sum.inr b)=decide (a=b):=by
 by_cases e:a=b
 ·subst e;simp
 ·have h:¬(Sum.inr a:Key)=Sum.inr b:=fun q=>e (Sum.inr.inj q)
  rw[c6w h,c6w e]
theorem c2U(a:Int)(b:Str):decide ((Sum.inl a:Key)=Sum.inr b)=false:=c6w (fun q=>nomatch q)
theorem c2T(a:Str)(b:Int):decide ((Sum.inr a:Key)=Sum.inl b)=false:=c6w (fun q=>nomatch q)
def M0(prog:v8)(w:World):PySem.KeyKind prog w Key where
 is:=a8c
 hash:=c5e w
 inj:=fun v a b ha hb=>by
  rcases O5 ha with ⟨i,t,rfl,rfl⟩ | ⟨x,t,rfl,rfl⟩
  ·rcases O5 hb with ⟨j,u,rfl,e⟩ | ⟨y,u,rfl,e⟩
   ·injection e with e1 _;rw[e1]
   ·exact nomatch e
  ·rcases O5 hb with ⟨j,u,rfl,e⟩ | ⟨y,u,rfl,e⟩
   ·exact nomatch e
   ·injection e with e1 _;rw[e1]
 byValue:=fun k v h=>by
  rcases O5 h with ⟨i,t,rfl,rfl⟩ | ⟨x,t,rfl,rfl⟩ <;> rfl
 pyHash:=fun hv h=>by
  rcases O5 hv with ⟨i,t,rfl,rfl⟩ | ⟨x,t,rfl,rfl⟩
  ·exact wpAny_pyHash_int h
  ·exact wpAny_pyHash_str h
 eqBool:=fun hu hv h=>by
  rcases O5 hu with ⟨i,t,rfl,rfl⟩ | ⟨x,t,rfl,rfl⟩
  ·rcases O5 hv with ⟨j,u,rfl,rfl⟩ | ⟨y,u,rfl,rfl⟩
   ·rw[c2V]at h;exact wpAny_eqBool_int h
   ·rw[c2U]at h;exact SeqAt.EqAt.int_str i t y u _ _ _ _ h
  ·rcases O5 hv with ⟨j,u,rfl,rfl⟩ | ⟨y,u,rfl,rfl⟩
   ·rw[c2T]at h;exact SeqAt.EqAt.str_int x t j u _ _ _ _ h
   ·rw[c2S]at h;exact wpAny_eqBool_str h
 «strs» := fun k x t v h=>by
  rcases O5 h with ⟨i,u,rfl,e⟩ | ⟨y,u,rfl,e⟩
  ·exact nomatch e
  ·injection e with e1 _
   subst e1
   cases v <;> rfl
theorem b1U(prog:v8)(w:World)(i:Int)(t:Tok):(M0 prog w).is (.inl i) (.int i t)=true:=b5r i t
theorem b1T(prog:v8)(w:World)(x:Str)(t:Tok):(M0 prog w).is (.inr x) (.str x t)=true:=b5q x t
inductive V where
 | non | bl (b:Bool) | int (i:Int) | str (x:Str) | byt (b:Array UInt8) | flt (b:UInt64) | ref (a:Addr) | ty (n:String)
 deriving DecidableEq
variable{v y:V}{xs:List V}{kvs:List (Key×V)}
def C7:V->Value->Prop
 | .non,u=>u=Value.none
 | .bl b,u=>u=Value.bool b
 | .int i,u=>∃t,u=Value.int i t
 | .str x,u=>∃t,u=Value.str x t
 | .byt b,u=>∃t,u=Value.bytes b t
 | .flt b,u=>∃t,u=Value.float b t
 | .ref a,u=>u=Value.ref a
 | .ty n,u=>u=Value.type n
abbrev E2:List V->List Value->Prop:=Paired C7
theorem E2.length(r:E2 xs us):xs.length=us.length:=Paired.length r
theorem E2.get:∀ {xs:List V} {us:List Value} {i:Nat} {x:V},E2 xs us->xs[i]? = some x->∃u,us[i]? = some u/\C7 x u
 | _,_,_,_,.nil,e=>by simp at e
 | _,_,0,_,.cons r _,e=>by simp at e;subst e;exact⟨_,rfl,r⟩
 | _,_,i+1,x,.cons _ t,e=>by
  obtain⟨u,h1,h2⟩:=E2.get (i:=i) (x:=x) t (by simpa using e)
  exact⟨u,by simpa using h1,h2⟩
theorem E2.set{x:V}(r:C7 x u):∀ {xs:List V} {us:List Value} (i:Nat),E2 xs us->E2 (xs.set i x) (us.set i u)
 | _,_,_,.nil=>.nil
 | _,_,0,.cons _ t=>.cons r t
 | _,_,i+1,.cons q t=>.cons q (E2.set r i t)
theorem E2.append:∀ {xs ys:List V} {us ws:List Value},E2 xs us->E2 ys ws->E2 (xs++ys) (us++ws)
 | _,_,_,_,.nil,s=>s
 | _,_,_,_,.cons r t,s=>.cons r (E2.append t s)
theorem E2.take:∀ {xs:List V} {us:List Value} (n:Nat),E2 xs us->E2 (xs.take n) (us.take n)
 | _,_,0,_=>.nil
 | _,_,_+1,.nil=>.nil
 | _,_,n+1,.cons r t=>.cons r (E2.take n t)
theorem E2.drop:∀ {xs:List V} {us:List Value} (n:Nat),E2 xs us->E2 (xs.drop n) (us.drop n)
 | _,_,0,r=>r
 | _,_,_+1,.nil=>.nil
 | _,_,n+1,.cons _ t=>E2.drop n t
def a3g:Option V->Option Value->Prop
 | some v,some u=>C7 v u
 | none,none=>True
 | _,_=>False
def KV{κ:Type}:List (κ×V)->List (κ×Value)->Prop:=Paired fun(p:κ×V) (q:κ×Value)=>p.1=q.1/\C7 p.2 q.2
def kV:Key->V
 | .inl i=>.int i
 | .inr x=>.str x
inductive HO where
 /-- a list -/
 | lst (xs:List V)
 /-- a tuple (never changes) -/
 | tup (xs:List V)
 /-- a dict whose keys are ints and texts;one whose keys are tuples of ints and texts (the empty one is both) -/
 | dK (kvs:List (Key×V)) | dT (kvs:List (List Key×V))
 /-- a set of ints: its members,its size -/
 | set (S:Int->Bool) (n:Nat)
 /-- an instance of the class at C,its dict at dx,its attributes -/
 | ins (C dx:Addr) (fs:List (Str×V))
 /-- the dict of the instance at x -/
 | own (x:Addr)
 /-- the dict of an exception -/
 | xd (fs:List (Str×V))
 /-- a bound method,f of x -/
 | met (f x:Addr)
 /-- a range object lo,lo+1,.. below hi -/
 | rng (lo hi:Int)
 /-- a thing that is known to the object (the script;a dict while a loop walks it): read,never written while it is so -/
 | frz (o:Obj) (u:HO)
 /-- a code object's table -/
 | tbl (ps:Array Value)
 /-- any other thing,by what is true of its one object (a def of one's own: SetO a S n:=HO.ext fun h=>..) -/
 | ext (φ:Heap->Prop)
variable{o:HO}
abbrev Hp:=Addr->Option HO
variable{H H':Hp}
def upd(H:Hp)(a:Addr)(o:HO):Hp:=fun b=>if b=a then some o else H b
theorem c6:upd H a o a=some o:=by unfold upd;rw[if_pos rfl]
theorem c9(h:b≠a):upd H a o b=H b:=by unfold upd;rw[if_neg h]
theorem a6U{u:HO}:upd (upd H a o) a u=upd H a u:=by
 funext b;unfold upd;split <;> rfl
theorem G5{u:HO}(h:H a=some o)(h':H b=some u)(d:o≠u):a≠b:=by
 intro e;subst e;rw[h]at h';exact d (Option.some.inj h')
theorem c7(h:H a=some o)(h':H b=none):a≠b:=by
 intro e;subst e;rw[h]at h';cases h'
section
variable (P:v8)(w:World)
def R3(H:Hp)(h:Heap)(a:Addr):HO->Prop
 | .lst xs=>xs.length<=j9/\∃(its:List Value) (n:Nat),E2 xs its/\h.get? a=some { cls:=.type "list",data:=.seq its.toArray n }
 | .tup xs=>xs.length<=j9/\∃its:List Value,E2 xs its/\IsTup h a its.toArray
 | .dK kvs=>kvs.length<=j9/\(a == T1)=false/\∃vs,KV kvs vs/\h.DictOf (M0 P w) a vs
 | .dT kvs=>kvs.length<=j9/\(a == T1)=false/\∃xs:List (List Key×Addr×Value),
   Paired (fun(p:List Key×V) (q:List Key×Addr×Value)=>p.1=q.1/\H q.2.1=some (.tup (p.1.map kV))/\C7 p.2 q.2.2) kvs xs /\
   ∃o es ep,h.get? a=some o/\o.ExactDict/\o.data=.dict es ep/\es.toList=xs.map (entryOfKey (b1d (M0 P w)))/\(xs.map (·.1)).Nodup
 | .set S n=>h.SetOf (intKind P w) a S n
 | .ins C dx fs=>H dx=some (.own a)/\fs.length<=1000/\dx≠a/\h.get? a=some (R8 C dx) /\
   ∃mA,h.Ns1 dx mA/\(∀f,a3g (fs.lookup f) (mA f))/\PySem.Within mA (fs.map (·.1))
 | .own _=>∃o,h.get? a=some o
 | .xd fs=>∃mA,h.Ns1 a mA/\∀f,a3g (fs.lookup f) (mA f)
 | .rng lo hi=>∃t u v,h.get? a=some { cls:=.type "range",data:=.fields #[.int lo t,.int hi u,.int 1 v] }
 | .frz o u=>h.get? a=some o/\R3 H h a u
 | .tbl ps=>h.get? a=some { cls:=.none,data:=.fields ps }
 | .met f x=>h.get? a=some (a6v (.ref f) (.ref x))
 | .ext φ=>φ h/\(∃o,h.get? a=some o)/\∀h1 h2:Heap,φ h1->(∀o,h1.get? a=some o->h2.get? a=some o)->φ h2
def HOk(H:Hp)(h:Heap):Prop:=∀a o,H a=some o->R3 P w H h a o
end
section
variable {P:v8}
theorem R3.lt(x:R3 P w H h a o):a<h.objs.size:=by
 cases o with
 | lst xs=>obtain⟨_,_,_,_,e⟩:=x;exact g8 e
 | tup xs=>obtain⟨_,_,_,p⟩:=x;exact p.lt
 | dK kvs=>obtain⟨_,_,_,_,o,_,_,e,_⟩:=x;exact g8 e
 | dT kvs=>obtain⟨_,_,_,_,o,_,_,e,_⟩:=x;exact g8 e
 | set S n=>obtain⟨o,_,_,_,e,_⟩:=x;exact g8 e
 | ins C dx fs=>obtain⟨_,_,_,e,_⟩:=x;exact g8 e
 | own y=>obtain⟨_,e⟩:=x;exact g8 e
 | xd fs=>obtain⟨_,⟨_,_,_,e,_⟩,_⟩:=x;exact g8 e
 | rng lo hi=>obtain⟨_,_,_,e⟩:=x;exact g8 e
 | frz ob u=>obtain⟨e,_⟩:=x;exact g8 e
 | tbl ps=>exact g8 (show h.get? a=some _ from x)
 | met f y=>exact g8 (show h.get? a=some _ from x)
 | ext φ=>obtain⟨_,⟨_,e⟩,_⟩:=x;exact g8 e
theorem Paired.mapP{α β:Type}{F G:α->β->Prop}:∀ {l₁:List α} {l₂:List β},Paired F l₁ l₂->(∀a b,F a b->G a b)->Paired G l₁ l₂
 | _,_,.nil,_=>.nil
 | _,_,.cons r t,f=>.cons (f _ _ r) (Paired.mapP t f)
theorem R3.stay(x:R3 P w H h a o)(k:∀b u,(b=a\/H b=some (.own a))->h.get? b=some u->h'.get? b=some u)
  (ho:∀b,H b=some (.own a)->H' b=some (.own a)) (ht:∀b xs,H b=some (.tup xs)->H' b=some (.tup xs)):R3 P w H' h' a o:=by
 induction o with
 | lst xs=>obtain⟨z,its,n,r,e⟩:=x;exact⟨z,its,n,r,k _ _ (.inl rfl) e⟩
 | tup xs=>obtain⟨z,its,r,ob,e,c⟩:=x;exact⟨z,its,r,ob,k _ _ (.inl rfl) e,c⟩
 | dK kvs=>obtain⟨z,y,vs,r,ob,es,ep,e,c⟩:=x;exact⟨z,y,vs,r,ob,es,ep,k _ _ (.inl rfl) e,c⟩
 | dT kvs=>
  obtain⟨z,y,xs,r,ob,es,ep,e,c⟩:=x
  exact⟨z,y,xs,Paired.mapP r fun p q z=>⟨z.1,ht _ _ z.2.1,z.2.2⟩,ob,es,ep,k _ _ (.inl rfl) e,c⟩
 | set S n=>obtain⟨ob,es,ep,t,e,c⟩:=x;exact⟨ob,es,ep,t,k _ _ (.inl rfl) e,c⟩
 | ins C dx fs=>
  obtain⟨d,z,ne,e,mA,⟨od,es,ep,e2,c⟩,r⟩:=x
  exact⟨ho _ d,z,ne,k _ _ (.inl rfl) e,mA,⟨od,es,ep,k _ _ (.inr d) e2,c⟩,r⟩
 | own y=>obtain⟨ob,e⟩:=x;exact⟨ob,k _ _ (.inl rfl) e⟩
 | xd fs=>obtain⟨mA,⟨od,es,ep,e,c⟩,r⟩:=x;exact⟨mA,⟨od,es,ep,k _ _ (.inl rfl) e,c⟩,r⟩
 | rng lo hi=>obtain⟨t,u,v,e⟩:=x;exact⟨t,u,v,k _ _ (.inl rfl) e⟩
 | frz ob u ih=>obtain⟨e,q⟩:=x;exact⟨k _ _ (.inl rfl) e,ih q⟩
 | tbl ps=>
  have e:h.get? a=some { cls:=.none,data:=.fields ps }:=x
  show h'.get? a=some { cls:=.none,data:=.fields ps }
  exact k a _ (.inl rfl) e
 | met f y=>
  have e:h.get? a=some (a6v (.ref f) (.ref y)):=x
  show h'.get? a=some (a6v (.ref f) (.ref y))
  exact k a _ (.inl rfl) e
 | ext φ=>obtain⟨p,⟨o,e⟩,st⟩:=x;exact⟨st _ _ p fun o q=>k _ _ (.inl rfl) q,⟨o,k _ _ (.inl rfl) e⟩,st⟩
theorem HOk.lt(x:HOk P w H h)(e:H a=some o):a<h.objs.size:=(x a o e).lt
theorem HOk.fresh(x:HOk P w H h)(e:h.objs.size<=a):H a=none:=by
 cases q:H a with
 | none=>rfl
 | some u=>exact absurd (v6 (x.lt q) e) (E4 _)
theorem HOk.kept(x:HOk P w H h)(k:∀b u,h.get? b=some u->h'.get? b=some u):HOk P w H h':=fun a o e=>
 (x a o e).stay (fun b u _ q=>k b u q) (fun _ q=>q) fun _ _ q=>q
theorem HOk.laid(x:HOk P w H h)(k:∀b u,h.get? b=some u->h'.get? b=some u)(hp:h.objs.size<=a)(new:R3 P w (upd H a o) h' a o):HOk P w (upd H a o) h':=fun b u e=>by
 have hn:=x.fresh hp
 by_cases hb:b=a
 ·subst hb;rw[c6]at e;cases e;exact new
 ·rw[c9 hb]at e
  exact(x b u e).stay (fun c v _ q=>k c v q) (fun c q=>by rw[c9 (c7 q hn)];exact q) fun c xs q=>by rw[c9 (c7 q hn)];exact q
end
def Rd(H:Hp)(a:Addr)(u:HO):Prop:=H a=some u\/∃o,H a=some (.frz o u)
theorem Rd.ok{P:v8}{u:HO}(r:Rd H a u)(x:HOk P w H h):R3 P w H h a u:=by
 rcases r with r | ⟨o,r⟩
 ·exact x a u r
 ·obtain⟨_,q⟩:=x a _ r
  exact q
def Mut:Option HO->Prop
 | some (.lst _)=>True
 | some (.dK _)=>True
 | some (.dT _)=>True
 | some (.set _ _)=>True
 | some (.ins _ _ _)=>True
 | some (.ext _)=>True
 | _=>False
section
variable {P:v8}{x e:Addr}{o':HO}
theorem HOk.write(ok:HOk P w H h)(mu:Mut (H x))(he:e=x\/H e=some (.own x))(k:∀b u,b≠e->h.get? b=some u->h'.get? b=some u)(heo:∃u,h'.get? e=some u)
  (new:R3 P w (upd H x o') h' x o'):HOk P w (upd H x o') h':=fun b u q=>by
 have nown:∀c y,H c=some (.own y)->c≠x:=fun c y r z=>by subst z;rw[r]at mu;exact mu
 have ntup:∀c xs,H c=some (.tup xs)->c≠x:=fun c xs r z=>by subst z;rw[r]at mu;exact mu
 by_cases hb:b=x
 ·subst hb;rw[c6]at q;cases q;exact new
 ·rw[c9 hb]at q
  by_cases hbe:b=e
  ·have q':H b=some (.own x):=by
    rcases he with z | z
    ·exact absurd (hbe.trans z) hb
    ·rw[hbe];exact z
   rw[q]at q';cases q'
   obtain⟨v,hv⟩:=heo
   exact⟨v,by rw[hbe];exact hv⟩
  ·refine(ok b u q).stay (fun c v hc r=>k c v ?_ r) (fun c r=>by rw[c9 (nown c b r)];exact r) fun c xs r=>by rw[c9 (ntup c xs r)];exact r
   rcases hc with rfl | hc
   ·exact hbe
   ·rintro rfl
    rcases he with z | z
    ·exact nown c b hc z
    ·rw[hc]at z;cases z;exact hb rfl
end
structure Un(fs ex:List Addr)(H H':Hp)(h h':Heap):Prop where
 keep:∀b o,h.get? b=some o->H b=none->b∉fs->b∉ex->h'.get? b=some o
 slot:∀b o,h.get? b=some o->H b=none->b∈fs->b∉ex->∃sl,h'.get? b=some { o with slots:=sl }
 free:∀b o,h.get? b=some o->H b=none->b∉ex->H' b=none
 there:∀b o,h.get? b=some o->b∉ex->∃o',h'.get? b=some o'
 tups:∀b xs,H b=some (.tup xs)->H' b=some (.tup xs)
 frzs:∀b o u,H b=some (.frz o u)->H' b=some (.frz o u)
 tbls:∀b ps,H b=some (.tbl ps)->∃more,H' b=some (.tbl (ps++more))
section
variable {fs fs' ex ex':List Addr}{H1 H2:Hp}{h1 h2:Heap}{x e:Addr}
theorem Un.any(u:Un fs ex H H1 h h1){ob:Obj}(q:h.get? b=some ob)(n:H b=none)(hx:b∉ex):∃sl,h1.get? b=some { ob with slots:=sl }:=by
 by_cases hb:b∈fs
 ·exact u.slot b ob q n hb hx
 ·exact⟨ob.slots,u.keep b ob q n hb hx⟩
theorem Un.kept(k:∀b u,h.get? b=some u->h'.get? b=some u):Un fs ex H H h h':=
 ⟨fun b ob q _ _ _=>k b ob q,fun b ob q _ _ _=>⟨ob.slots,k b ob q⟩,fun _ _ _ n _=>n,fun b ob q _=>⟨ob,k b ob q⟩,fun _ _ q=>q,fun _ _ _ q=>q,fun _ ps q=>⟨#[],by rw[q];simp⟩⟩
theorem Un.refl:Un fs ex H H h h:=Un.kept fun _ _ q=>q
theorem Un.laid(k:∀b u,h.get? b=some u->h'.get? b=some u)(hp:h.objs.size<=a)(hn:H a=none):Un fs ex H (upd H a o) h h' where
 keep:=fun b u q _ _ _=>k b u q
 slot:=fun b u q _ _ _=>⟨u.slots,k b u q⟩
 free:=fun b u q n _=>by rw[c9 (u5 (v6 (g8 q) hp))];exact n
 there:=fun b u q _=>⟨u,k b u q⟩
 tups:=fun b xs q=>by rw[c9 (c7 q hn)];exact q
 frzs:=fun b u xs q=>by rw[c9 (c7 q hn)];exact q
 tbls:=fun b ps q=>⟨#[],by rw[c9 (c7 q hn),q];simp⟩
theorem Un.write(mu:Mut (H x))(he:e=x\/H e=some (.own x))(k:∀b u,b≠e->h.get? b=some u->h'.get? b=some u)(heo:∃u,h'.get? e=some u):Un fs ex H (upd H x o) h h':=by
 have hx:∀b,H b=none->b≠x:=fun b n z=>by subst z;rw[n]at mu;exact mu
 have hb:∀b,H b=none->b≠e:=fun b n z=>by
  subst z
  rcases he with r | r
  ·exact hx b n r
  ·rw[n]at r;cases r
 have hm:∀b u,H b=some u->¬Mut (some u)->b≠x:=fun b u q nm z=>by subst z;rw[q]at mu;exact nm mu
 refine⟨fun b u q n _ _=>k b u (hb b n) q,fun b u q n _ _=>⟨u.slots,k b u (hb b n) q⟩,fun b u q n _=>by rw[c9 (hx b n)];exact n,fun b u q _=>?_,
  fun b xs q=>by rw[c9 (hm b _ q fun z=>z)];exact q,fun b u xs q=>by rw[c9 (hm b _ q fun z=>z)];exact q,fun b ps q=>⟨#[],by rw[c9 (hm b _ q fun z=>z),q];simp⟩⟩
 by_cases hbe:b=e
 ·subst hbe;exact heo
 ·exact⟨u,k b u hbe q⟩
end
def trk(h:Heap)(H:Hp):List Addr:=(w4 h.objs.size).filter fun a=>(H a).isSome
def b0q(h:Heap)(H:Hp):Heap:=PySem.W.hideAll h (trk h H)
theorem b5x(h:Heap)(H:Hp):(b0q h H).objs.size=h.objs.size:=PySem.W.hideAll_size _ _
theorem b7R{o:Obj}(e:h.get? b=some o)(n:H b=none):(b0q h H).get? b=some o:=
 PySem.W.hideAll_get _ e fun hm=>by
  have q:(H b).isSome=true:=(J4.mp hm).2
  rw[n]at q;simp at q
theorem b9W{o:Obj}(e:(b0q h H).get? b=some o):h.get? b=some o/\H b=none:=by
 have e':h.get? b=some o:=PySem.W.of_hideAll (trk h H) e
 refine⟨e',?_⟩
 cases q:H b with
 | none=>rfl
 | some x=>
  have hm:b∈trk h H:=J4.mpr ⟨U9.mpr (g8 e'),by simp[q]⟩
  have z:(b0q h H).get? b=none:=PySem.W.hideAll_none (trk h H) hm
  rw[z]at e;cases e
def c0v(g h:Heap)(L:Addr):List (Addr×Obj):=(w4 h.objs.size).filterMap fun a=>if a=L\/(g.get? a).isSome=true then none else (h.get? a).map fun o=>(a,o)
def a3Z(g h:Heap)(L d:Addr):List (Addr×Obj):=(c0v g h L).filter fun p=>decide (p.1≠d)
structure Mod(K:Fg)(mg:Str->Option Value)(base:Heap):Prop where
 kin:K.In base
 glob:base.Ns t5 mg
 blt:∃mb,base.Ns builtinsNs mb/\∀x:Str,x ≠ "__name__" -> mb x=a0b x
 nolimit:base.NoLimit
structure Cx where
 prog:v8
 w:World
 K:Fg
 mg:Str->Option Value
 base:Heap
 A:G8
 N:List Str
 s₀:g7
 H₀:Hp
 env:Env
 outer:List Env
 stack:List Env
 ex:List Addr
 fn:Str->Bool
 calm:Bool
 pn:List (Addr×Obj)
 xe:Value->g7->Prop
variable{X:Cx}
def frs(l:List Env):List Addr:=l.filterMap (·.frame)
abbrev Cx.fs(X:Cx):List Addr:=frs X.outer
def Vis(sc:Scope)(x:Str):Prop:=sc.names.lookup x=some .local\/sc.names.lookup x=some .cell\/sc.names.lookup x=some .free
def Loc(sc:Scope)(x:Str):Prop:=sc.names.lookup x=some .local\/sc.names.lookup x=some .cell
def c5n(env:Env)(h:Heap)(m:Str->Option Value)(x:Str)(u:Value):Prop:=
 (env.kindOf x=some .local/\m x=some u)\/((env.kindOf x=some .cell\/env.kindOf x=some .free)/\∃c,env.cells.lookup x=some c/\h.IsCell c (some u))
structure Cx.Ok(X:Cx):Prop where
 mod:Mod X.K X.mg X.base
 kind:X.env.scope.kind=.function
 glob:X.env.globals=t5
 blt:X.env.builtins=builtinsNs
 above:X.s₀.heap.objs.size<=X.env.locals
 inj:∀x y c,X.env.cells.lookup x=some c->X.env.cells.lookup y=some c->x=y
 has:∀x,(X.env.kindOf x=some .cell\/X.env.kindOf x=some .free)->∃c,X.env.cells.lookup x=some c
 cab:∀x c,X.fn x=true->X.env.cells.lookup x=some c->X.s₀.heap.objs.size<=c
 hd:X.calm=true->X.A.handled=none
 frames:X.A.frames=some X.stack
 stk:X.stack=X.outer\/(X.stack=X.env::X.outer/\X.env.frame=some X.env.locals)
 exf:∀b∈X.ex,b≠X.env.locals/\∀x c,X.env.cells.lookup x=some c->c≠b
 bs:∀b o,X.base.get? b=some o->X.s₀.heap.get? b=some o/\X.H₀ b=none
 bsz:X.base.objs.size<=X.s₀.heap.objs.size
 noex:∀b o,X.base.get? b=some o->b∉X.ex
 exfs:∀b∈X.ex,b∉X.fs
 funs:X.s₀.heap.FunFrames X.base X.outer
 frf:∀b∈X.fs,X.H₀ b=none
structure Inv(X:Cx)(pins:List (Addr×Obj))(σ:List (Option V))(H:Hp)(s:g7):Prop where
 ok:X.Ok
 os:s.os=X.s₀.os
 bare:a9I s.gens
 base:Un X.fs X.ex X.H₀ H X.s₀.heap s.heap
 loc:∃m,s.heap.Ns X.env.locals m/\∀(i:Nat) (x:Str) (v:V),X.N[i]? = some x->σ[i]? = some (some v)->Vis X.env.scope x->∃u,C7 v u/\c5n X.env s.heap m x u
 cell:∀x c,X.env.cells.lookup x=some c->∃v,s.heap.IsCell c v
 free:H X.env.locals=none
 freeC:∀x c,X.env.cells.lookup x=some c->H c=none
 pin:∀p∈X.pn++pins,s.heap.get? p.1=some p.2/\H p.1=none/\p.1≠X.env.locals/\p.1∉X.fs/\∀v,p.2.data≠.cell v
 hok:HOk X.prog X.w H s.heap
 len:σ.length=X.N.length
section
variable {σ:List (Option V)}
theorem Cx.Ok.nofr(ok:X.Ok){o:Obj}(e:X.base.get? b=some o):b∉X.fs:=fun hb=>by
 have:=(ok.funs.mem hb).1
 rw[e]at this;cases this
theorem Inv.bs(I:Inv X pins σ H s):∀b o,X.base.get? b=some o->s.heap.get? b=some o/\H b=none:=fun b o e=>
 ⟨I.base.keep b o (I.ok.bs b o e).1 (I.ok.bs b o e).2 (I.ok.nofr e) (I.ok.noex b o e),I.base.free b o (I.ok.bs b o e).1 (I.ok.bs b o e).2 (I.ok.noex b o e)⟩
theorem Inv.bk(I:Inv X pins σ H s):∀b o,X.base.get? b=some o->s.heap.get? b=some o:=fun b o e=>(I.bs b o e).1
theorem Inv.mod(I:Inv X pins σ H s):Mod X.K X.mg X.base:=I.ok.mod
theorem Inv.kIn(I:Inv X pins σ H s):X.K.In s.heap:=I.ok.mod.kin.keeps I.bk
theorem Inv.lt(I:Inv X pins σ H s):X.env.locals<s.heap.objs.size:=let⟨_,hn,_⟩:=I.loc;hn.lt
theorem Inv.sz(I:Inv X pins σ H s):X.s₀.heap.objs.size<=s.heap.objs.size:=C2 I.ok.above (b5T I.lt)
theorem Inv.nofs(I:Inv X pins σ H s)(h:s.heap.objs.size<=a):a∉X.fs:=fun hb=>by
 obtain⟨_,o,ho,_⟩:=I.ok.funs.mem hb
 exact absurd (v6 (g8 ho) (C2 I.sz h)) (E4 _)
theorem Inv.cne(I:Inv X pins σ H s):∀x c,X.env.cells.lookup x=some c->c≠X.env.locals:=fun x c e z=>by
 obtain⟨v,o,ho,hd⟩:=I.cell x c e
 obtain⟨m,⟨o',es,ep,ho',hd',_⟩,_⟩:=I.loc
 rw[z,ho']at ho;cases ho;rw[hd']at hd;cases hd
theorem Inv.funs(I:Inv X pins σ H s):s.heap.FunFrames X.base X.outer:=by
 have all:∀(l:List Env),(∀b∈frs l,b∈X.fs)->X.s₀.heap.FunFrames X.base l->s.heap.FunFrames X.base l:=by
  intro l
  induction l with
  | nil=>intro _ _;trivial
  | cons env r ih=>
   intro hs hl
   obtain⟨hk,⟨L,o,hf,hn,ho,hd⟩,hr⟩:=hl
   have hL:L∈X.fs:=hs L (by unfold frs;rw[a5F,hf];exact D5)
   obtain⟨sl,e⟩:=I.base.slot L o ho (I.ok.frf L hL) hL fun z=>I.ok.exfs L z hL
   exact⟨hk,⟨L,_,hf,hn,e,hd⟩,ih (fun b hb=>hs b (by unfold frs;rw[a5F,hf];exact C4 _ hb)) hr⟩
 exact all X.outer (fun _ hb=>hb) I.ok.funs
theorem Inv.stack(I:Inv X pins σ H s):s.heap.FunFrames X.base X.stack:=by
 rcases I.ok.stk with e | ⟨e,hf⟩
 ·rw[e];exact I.funs
 ·rw[e]
  obtain⟨m,hn,_⟩:=I.loc
  refine .cons (by rw[I.ok.kind];decide) hf hn ?_ I.funs
  exact Heap.get?_none_of_le (C2 I.ok.bsz I.ok.above)
theorem Inv.stkSub(I:Inv X pins σ H s):∀b∈frs X.stack,b∈X.env.locals::X.fs:=fun b hb=>by
 rcases I.ok.stk with e | ⟨e,hf⟩
 ·rw[e]at hb;exact C4 _ hb
 ·rw[e]at hb
  unfold frs at hb
  rw[a5F,hf]at hb
  exact hb
theorem Inv.stkFree(I:Inv X pins σ H s):∀b∈frs X.stack,H b=none:=fun b hb=>by
 rcases c8.mp (I.stkSub b hb)with e | hb
 ·rw[e];exact I.free
 ·obtain⟨_,o,ho,_⟩:=I.ok.funs.mem hb
  exact I.base.free b o ho (I.ok.frf b hb) fun z=>I.ok.exfs b z hb
theorem Inv.step{g':Array GenState}{t':Nat}{d':Drawn}{ch:List Addr}(I:Inv X pins σ H s)
  (hch:∀b∈ch,(b∈X.ex\/X.s₀.heap.objs.size<=b)/\b≠X.env.locals/\(∀x c,X.env.cells.lookup x=some c->c≠b)/\∀p∈X.pn++pins,p.1≠b)
  (keep:∀b o,b≠X.env.locals->b∉X.fs->b∉ch->s.heap.get? b=some o->H b=none->h'.get? b=some o)
  (slot:∀b o,b≠X.env.locals->b∈X.fs->b∉ch->s.heap.get? b=some o->H b=none->∃sl,h'.get? b=some { o with slots:=sl }) (free:∀b o,b∉ch->s.heap.get? b=some o->H b=none->H' b=none)
  (there:∀b o,b∉ch->s.heap.get? b=some o->∃o',h'.get? b=some o')
  (tups:∀b xs,H b=some (.tup xs)->H' b=some (.tup xs)) (frzs:∀b o u,H b=some (.frz o u)->H' b=some (.frz o u)) (tbls:∀b ps,H b=some (.tbl ps)->∃more,H' b=some (.tbl (ps++more)))
  (ns:∀m,s.heap.Ns X.env.locals m->h'.Ns X.env.locals m) (hok:HOk X.prog X.w H' h') (hg:a9I g') :
  Inv X pins σ H' { s with heap:=h',gens:=g',drawn:=d',toks:=t' }:=by
 have neL:∀b o,X.s₀.heap.get? b=some o->b≠X.env.locals:=fun b o e=>u5 (v6 (g8 e) I.ok.above)
 have neC:∀b o,X.s₀.heap.get? b=some o->b∉X.ex->b∉ch:=fun b o e hx hb=>by
  rcases(hch b hb).1 with z | z
  ·exact hx z
  ·exact absurd (v6 (g8 e) z) (E4 _)
 have cellK:∀x c,X.env.cells.lookup x=some c->∀v,s.heap.IsCell c v->h'.IsCell c v:=fun x c e v ⟨o,ho,hd⟩=>by
  have nch:c∉ch:=fun z=>(hch c z).2.2.1 x c e rfl
  by_cases hc:c∈X.fs
  ·obtain⟨sl,q⟩:=slot c o (I.cne x c e) hc nch ho (I.freeC x c e)
   exact⟨_,q,hd⟩
  ·exact⟨o,keep c o (I.cne x c e) hc nch ho (I.freeC x c e),hd⟩
 refine⟨I.ok,I.os,hg,⟨fun b o e n hb hx=>?_,fun b o e n hb hx=>?_,fun b o e n hx=>?_,fun b o e hx=>?_,fun b xs e=>tups b xs (I.base.tups b xs e),fun b o xs e=>frzs b o xs (I.base.frzs b o xs e),fun b ps e=>?_⟩,?_,fun x c e=>?_,?_,fun x c e=>?_,fun p hp=>?_,hok,I.len⟩
 ·exact keep b o (neL b o e) hb (neC b o e hx) (I.base.keep b o e n hb hx) (I.base.free b o e n hx)
 ·obtain⟨sl,e1⟩:=I.base.slot b o e n hb hx
  obtain⟨sl',e2⟩:=slot b _ (neL b o e) hb (neC b o e hx) e1 (I.base.free b o e n hx)
  exact⟨sl',e2⟩
 ·obtain⟨o',e1⟩:=I.base.there b o e hx
  exact free b o' (neC b o e hx) e1 (I.base.free b o e n hx)
 ·obtain⟨o',e1⟩:=I.base.there b o e hx
  exact there b o' (neC b o e hx) e1
 ·obtain⟨m1,e1⟩:=I.base.tbls b ps e
  obtain⟨m2,e2⟩:=tbls b _ e1
  exact⟨m1++m2,by rw[e2,Array.append_assoc]⟩
 ·obtain⟨m,hn,hl⟩:=I.loc
  refine⟨m,ns m hn,fun i x v e1 e2 e3=>?_⟩
  obtain⟨u,r,l⟩:=hl i x v e1 e2 e3
  refine⟨u,r,?_⟩
  rcases l with l | ⟨k,c,e,z⟩
  ·exact .inl l
  ·exact .inr ⟨k,c,e,cellK x c e _ z⟩
 ·obtain⟨v,z⟩:=I.cell x c e
  exact⟨v,cellK x c e v z⟩
 ·obtain⟨m,⟨o,_,_,ho,_⟩,_⟩:=I.loc
  exact free _ o (fun z=>(hch _ z).2.1 rfl) ho I.free
 ·obtain⟨v,o,ho,hd⟩:=I.cell x c e
  exact free c o (fun z=>(hch c z).2.2.1 x c e rfl) ho (I.freeC x c e)
 ·obtain⟨e,n,ne,nf,d⟩:=I.pin p hp
  have nch:p.1∉ch:=fun z=>(hch p.1 z).2.2.2 p hp rfl
  exact⟨keep p.1 p.2 ne nf nch e n,free p.1 p.2 nch e n,ne,nf,d⟩
theorem Inv.un(I:Inv X pins σ H s)(u:Un X.fs [] H H' s.heap h')(hok:HOk X.prog X.w H' h'):Inv X pins σ H' { s with heap:=h',toks:=t' }:=by
 obtain⟨m,⟨o,es,ep,ho,r⟩,_⟩:=id I.loc
 obtain⟨sl,hL⟩:=u.any ho I.free (by simp)
 exact I.step (g':=s.gens) (d':=s.drawn) (ch:=[]) (fun _ z=>nomatch z) (fun b o _ hb _ e n=>u.keep b o e n hb (by simp)) (fun b o _ hb _ e n=>u.slot b o e n hb (by simp)) (fun b o _ e n=>u.free b o e n (by simp)) (fun b o _ e=>u.there b o e (by simp)) u.tups u.frzs u.tbls (fun m' hm=>by
  obtain⟨o',es',ep',ho',r'⟩:=hm
  rw[ho]at ho';cases ho'
  exact⟨_,es',ep',hL,r'⟩) hok I.bare
theorem Inv.call{g':Array GenState}{d':Drawn}{ch:List Addr}(I:Inv X pins σ H s)(u:Un (frs X.stack) ch H H' s.heap h')(hok:HOk X.prog X.w H' h')(hg:a9I g')
  (hch:∀b∈ch,(b∈X.ex\/X.s₀.heap.objs.size<=b)/\b≠X.env.locals/\(∀x c,X.env.cells.lookup x=some c->c≠b)/\∀p∈X.pn++pins,p.1≠b) :
  Inv X pins σ H' { s with heap:=h',gens:=g',drawn:=d',toks:=t' }:=by
 obtain⟨m,⟨o,es,ep,ho,r⟩,_⟩:=id I.loc
 obtain⟨sl,hL⟩:=u.any ho I.free fun z=>(hch _ z).2.1 rfl
 exact I.step (ch:=ch) hch (fun b o hL hb hc e n=>u.keep b o e n (fun z=>(c8.mp (I.stkSub b z)).elim hL hb) hc) (fun b o _ _ hc e n=>u.any e n hc) (fun b o hc e n=>u.free b o e n hc) (fun b o hc e=>u.there b o e hc) u.tups u.frzs u.tbls (fun m' hm=>by
  obtain⟨o',es',ep',ho',r'⟩:=hm
  rw[ho]at ho';cases ho'
  exact⟨_,es',ep',hL,r'⟩) hok hg
theorem Inv.turned{it:Addr}(I:Inv X pins σ H s)(k:∀b o,b≠it->s.heap.get? b=some o->h'.get? b=some o)(hn:H it=none)(hL:it≠X.env.locals)
  (h1:it∈X.ex\/X.s₀.heap.objs.size<=it) (h2:∀x c,X.env.cells.lookup x=some c->c≠it) (h3:∀p∈X.pn++pins,p.1≠it):Inv X pins σ H { s with heap:=h',toks:=t' }:=by
 have nit:∀b u,H b=some u->b≠it:=fun b u e z=>by rw[z,hn]at e;cases e
 refine I.step (g':=s.gens) (d':=s.drawn) (ch:=[it]) (fun b hb=>?_) (fun b o _ _ hc e _=>k b o (fun z=>hc (by simp[z])) e) (fun b o _ _ hc e _=>⟨o.slots,k b o (fun z=>hc (by simp[z])) e⟩) (fun _ _ _ _ n=>n)
  (fun b o hc e=>⟨o,k b o (fun z=>hc (by simp[z])) e⟩) (fun _ _ e=>e) (fun _ _ _ e=>e) (fun b ps e=>⟨#[],by rw[e];simp⟩) (fun m hm=>?_) (fun b u e=>?_) I.bare
 ·have e:b=it:=by simpa using hb
  subst e
  exact⟨h1,hL,h2,h3⟩
 ·obtain⟨o,es,ep,ho,r⟩:=hm
  exact⟨o,es,ep,k _ o (Ne.symm hL) ho,r⟩
 ·refine(I.hok b u e).stay (fun c v hc q=>k c v ?_ q) (fun _ q=>q) fun _ _ q=>q
  rcases hc with z | z
  ·rw[z];exact nit b u e
  ·exact nit c _ z
theorem Inv.tok(I:Inv X pins σ H s)(t:Nat):Inv X pins σ H { s with toks:=t }:=I.un (h':=s.heap) (t':=t) Un.refl I.hok
theorem Inv.kept(I:Inv X pins σ H s)(k:∀b u,s.heap.get? b=some u->h'.get? b=some u):Inv X pins σ H { s with heap:=h',toks:=t' }:=I.un (Un.kept k) (I.hok.kept k)
theorem Inv.laid(I:Inv X pins σ H s)(k:∀b u,s.heap.get? b=some u->h'.get? b=some u)(hp:s.heap.objs.size<=a)(new:R3 X.prog X.w (upd H a o) h' a o) :
  Inv X pins σ (upd H a o) { s with heap:=h',toks:=t' }:=I.un (Un.laid k hp (I.hok.fresh hp)) (I.hok.laid k hp new)
theorem Inv.write{x e:Addr}(I:Inv X pins σ H s)(mu:Mut (H x))(he:e=x\/H e=some (.own x))(k:∀b u,b≠e->s.heap.get? b=some u->h'.get? b=some u)(heo:∃u,h'.get? e=some u)
  (new:R3 X.prog X.w (upd H x o) h' x o):Inv X pins σ (upd H x o) { s with heap:=h',toks:=t' }:=I.un (Un.write mu he k heo) (I.hok.write mu he k heo new)
theorem Inv.weak{σ':List (Option V)}(I:Inv X pins σ H s)(hl:σ'.length=σ.length)(w:∀(i:Nat) v,σ'[i]? = some (some v)->σ[i]? = some (some v)):Inv X pins σ' H s:=
 ⟨I.ok,I.os,I.bare,I.base,let⟨m,hn,hl'⟩:=I.loc; ⟨m,hn,fun i x v e1 e2 e3=>hl' i x v e1 (w i v e2) e3⟩,I.cell,I.free,I.freeC,I.pin,I.hok,hl.trans I.len⟩
theorem Inv.pins_of{pins':List (Addr×Obj)}(I:Inv X pins σ H s)(h:∀p∈pins',s.heap.get? p.1=some p.2/\H p.1=none/\p.1≠X.env.locals/\p.1∉X.fs/\∀v,p.2.data≠.cell v):Inv X pins' σ H s:=
 ⟨I.ok,I.os,I.bare,I.base,I.loc,I.cell,I.free,I.freeC,fun p hp=>(o8.mp hp).elim (fun z=>I.pin p (C0 _ z)) (h p),I.hok,I.len⟩
theorem b1Q{N:List Str}(hN:N.Nodup){j:Nat}{x:Str}(a:N[i]? = some x)(b:N[j]? = some x):i=j:=by
 obtain⟨h1,e1⟩:=j8.mp a
 obtain⟨h2,e2⟩:=j8.mp b
 exact(List.getElem_inj hN).mp (e1.trans e2.symm)
theorem a9n{M:Model}{A:G8}{E:Value->g7->Prop}{x:Str}{Q:Unit->g7->Prop}(I:Inv X pins σ H s)(hN:X.N.Nodup)(hi:X.N[i]? = some x)(hx:Loc X.env.scope x)(r:C7 v u)
  (h:∀s',Inv X pins (σ.set i (some v)) H s'->(∃a,Heap.SameBut a s.heap s'.heap/\(a=X.env.locals\/X.env.cells.lookup x=some a))->Q () s') (hf:X.fn x=true\/X.env.scope.names.lookup x=some .local:=by first | exact .inl rfl | exact .inr rfl | assumption):wpAny M A (storeName X.env x u) Q E s:=by
 obtain⟨m,hn,hl⟩:=id I.loc
 have hcls:(X.env.scope.kind == .class||(X.env.scope.kind == .module&&X.env.locals != X.env.globals))=false:=by rw[I.ok.kind];rfl
 have hiσ:i<σ.length:=by rw[I.len];exact(j8.mp hi).1
 have cne:=I.cne
 have tracked:∀ {a:Addr} {h':Heap},(∃o,s.heap.get? a=some o/\H a=none)->Heap.SameBut a s.heap h'->HOk X.prog X.w H h':=fun {a h'} ha hs b ob e=>by
  obtain⟨_,_,hfree⟩:=ha
  refine(I.hok b ob e).stay (fun c w' hc q=>(hs.2 c ?_).trans q) (fun _ q=>q) fun _ _ q=>q
  rintro rfl
  rcases hc with rfl | hc
  ·rw[hfree]at e;cases e
  ·rw[hfree]at hc;cases hc
 rcases hx with hk | hk
 ·refine wpAny_storeName_local hk hn (fun h' hn' hs=>?_) hcls
  obtain⟨oL,_,_,hoL,_⟩:=id hn
  refine h _ ⟨I.ok,I.os,I.bare,⟨fun b o e n hb hx=>?_,fun b o e n hb hx=>?_,I.base.free,fun b o e hx=>?_,I.base.tups,I.base.frzs,I.base.tbls⟩,⟨_,hn',fun j y v' e1 e2 e3=>?_⟩,fun y c e=>?_,I.free,I.freeC,fun p hp=>?_,tracked ⟨oL,hoL,I.free⟩ hs,by simpa using I.len⟩ ⟨_,hs,.inl rfl⟩
  ·exact(hs.2 b (u5 (v6 (g8 e) I.ok.above))).trans (I.base.keep b o e n hb hx)
  ·obtain⟨sl,e1⟩:=I.base.slot b o e n hb hx
   exact⟨sl,(hs.2 b (u5 (v6 (g8 e) I.ok.above))).trans e1⟩
  ·obtain⟨o',e1⟩:=I.base.there b o e hx
   exact⟨o',(hs.2 b (u5 (v6 (g8 e) I.ok.above))).trans e1⟩
  ·by_cases hj:j=i
   ·subst hj
    rw[hi]at e1;cases e1
    rw[G7 hiσ]at e2
    cases e2
    exact⟨u,r,.inl ⟨hk,by simp⟩⟩
   ·rw[K5 (Ne.symm hj)]at e2
    obtain⟨u',r',q⟩:=hl j y v' e1 e2 e3
    refine⟨u',r',?_⟩
    rcases q with ⟨k,e⟩ | ⟨k,c,e,z⟩
    ·refine .inl ⟨k,?_⟩
     have:y≠x:=fun e=>hj (b1Q hN e1 (e ▸ hi))
     simp[this,e]
    ·exact .inr ⟨k,c,e,z.sameBut hs (cne y c e)⟩
  ·obtain⟨w',z⟩:=I.cell y c e
   exact⟨w',z.sameBut hs (cne y c e)⟩
  ·obtain⟨e,n,ne,nf,d⟩:=I.pin p hp
   exact⟨(hs.2 p.1 ne).trans e,n,ne,nf,d⟩
 ·have hfn:X.fn x=true:=by
   rcases hf with z | z
   ·exact z
   ·rw[z]at hk;cases hk
  obtain⟨c,hc⟩:=I.ok.has x (.inl hk)
  obtain⟨w',z⟩:=I.cell x c hc
  refine wpAny_storeName_cell I.ok.kind hk hc z (fun h' hc' hs=>?_)
  obtain⟨oc,hoc,hocd⟩:=id z
  refine h { s with heap:=h' } ⟨I.ok,I.os,I.bare,⟨fun b o e n hb hx=>?_,fun b o e n hb hx=>?_,I.base.free,fun b o e hx=>?_,I.base.tups,I.base.frzs,I.base.tbls⟩,⟨m,hn.sameBut hs (Ne.symm (cne x c hc)),fun j y v' e1 e2 e3=>?_⟩,fun y c' e=>?_,I.free,I.freeC,fun p hp=>?_,tracked ⟨oc,hoc,I.freeC x c hc⟩ hs,by simpa using I.len⟩ ⟨c,hs,.inr hc⟩
  ·exact(hs.2 b (u5 (v6 (g8 e) (I.ok.cab x c hfn hc)))).trans (I.base.keep b o e n hb hx)
  ·obtain⟨sl,e1⟩:=I.base.slot b o e n hb hx
   exact⟨sl,(hs.2 b (u5 (v6 (g8 e) (I.ok.cab x c hfn hc)))).trans e1⟩
  ·obtain⟨o',e1⟩:=I.base.there b o e hx
   exact⟨o',(hs.2 b (u5 (v6 (g8 e) (I.ok.cab x c hfn hc)))).trans e1⟩
  ·by_cases hj:j=i
   ·subst hj
    rw[hi]at e1;cases e1
    rw[G7 hiσ]at e2
    cases e2
    exact⟨u,r,.inr ⟨.inl hk,c,hc,hc'⟩⟩
   ·rw[K5 (Ne.symm hj)]at e2
    obtain⟨u',r',q⟩:=hl j y v' e1 e2 e3
    refine⟨u',r',?_⟩
    rcases q with q | ⟨k,c',e,z'⟩
    ·exact .inl q
    ·refine .inr ⟨k,c',e,z'.sameBut hs ?_⟩
     rintro rfl
     exact hj (b1Q hN e1 (I.ok.inj _ _ _ e hc ▸ hi))
  ·by_cases hcc:c'=c
   ·subst hcc;exact⟨_,hc'⟩
   ·obtain⟨w2,z2⟩:=I.cell y c' e
    exact⟨w2,z2.sameBut hs hcc⟩
  ·obtain⟨e,n,ne,nf,d⟩:=I.pin p hp
   refine⟨(hs.2 p.1 ?_).trans e,n,ne,nf,d⟩
   intro q
   rw[q,hoc]at e
   have q':oc=p.2:=Option.some.inj e
   exact d w' (by rw[<-q'];exact hocd)
theorem a4Z{M:Model}{A:G8}{E:Value->g7->Prop}{x:Str}{Q:Unit->g7->Prop}(I:Inv X pins σ H s)(hN:X.N.Nodup)(hi:X.N[i]? = some x)(hx:Loc X.env.scope x)(r:C7 v u)
  (h:∀s',Inv X pins (σ.set i (some v)) H s'->Q () s') (hf:X.fn x=true\/X.env.scope.names.lookup x=some .local:=by first | exact .inl rfl | exact .inr rfl | assumption):wpAny M A (storeName X.env x u) Q E s:=
 a9n I hN hi hx r (fun s' I' _=>h s' I') hf
theorem Inv.call'{s':g7}{ch:List Addr}(I:Inv X pins σ H s)(ho:s'.os=s.os)(u:Un (frs X.stack) ch H H' s.heap s'.heap)(hok:HOk X.prog X.w H' s'.heap)(hg:a9I s'.gens)
  (hch:∀b∈ch,(b∈X.ex\/X.s₀.heap.objs.size<=b)/\b≠X.env.locals/\(∀x c,X.env.cells.lookup x=some c->c≠b)/\∀p∈X.pn++pins,p.1≠b):Inv X pins σ H' s':=by
 obtain⟨h',g',d',t',o'⟩:=s'
 have e:o'=s.os:=ho
 subst e
 exact I.call (g':=g') (t':=t') (d':=d') u hok hg hch
end
abbrev XK:=Value->Option Addr->Hp->Prop
abbrev St:=List (Option V)
variable{σ:St}
abbrev VK:=V->Hp->Prop
abbrev TE:=St->Hp->VK->Prop
variable{ta te:TE}
abbrev TT:=St->Hp->(Bool->Hp->Prop)->Prop
abbrev TA:=St->Hp->(List V->Hp->Prop)->Prop
structure a6s where
 nx:St->Hp->Prop
 rt:VK
 bk:St->Hp->Prop:=fun _ _=>False
 ct:St->Hp->Prop:=fun _ _=>False
abbrev TS:=a6s->St->Hp->Prop
variable{tb:TS}
def EP(X:Cx)(pins:List (Addr×Obj))(σ:St)(Q:VK)(u:Value)(s':g7):Prop:=∃v H',Inv X pins σ H' s'/\C7 v u/\Q v H'
def TP(X:Cx)(pins:List (Addr×Obj))(σ:St)(Q:Bool->Hp->Prop)(b:Bool)(s':g7):Prop:=∃H',Inv X pins σ H' s'/\Q b H'
def AP(X:Cx)(pins:List (Addr×Obj))(σ:St)(Q:List V->Hp->Prop)(us:List Value)(s':g7):Prop:=∃vs H',Inv X pins σ H' s'/\E2 vs us/\Q vs H'
def SP(X:Cx)(pins:List (Addr×Obj))(D:a6s)(f:Flow)(s':g7):Prop:=
 match f with
 | .next=>∃σ' H',Inv X pins σ' H' s'/\D.nx σ' H'
 | .brk=>∃σ' H',Inv X pins σ' H' s'/\D.bk σ' H'
 | .cont=>∃σ' H',Inv X pins σ' H' s'/\D.ct σ' H'
 | .ret u=>∃v σ' H',Inv X pins σ' H' s'/\C7 v u/\D.rt v H'
def PE(X:Cx)(e:Expr)(t:TE):Prop:=
 ∀(pins:List (Addr×Obj)) (s:g7) (σ:St) (H:Hp) (Q:VK),Inv X pins σ H s->t σ H Q->wpAny (model X.prog X.w) X.A (eval e X.env) (EP X pins σ Q) X.xe s
def PT(X:Cx)(e:Expr)(t:TT):Prop:=
 ∀(pins:List (Addr×Obj)) (s:g7) (σ:St) (H:Hp) (Q:Bool->Hp->Prop),Inv X pins σ H s->t σ H Q->wpAny (model X.prog X.w) X.A (isTrue e X.env (eval e X.env)) (TP X pins σ Q) X.xe s
def PW(X:Cx)(e:Expr)(t:TT):Prop:=
 ∀(whole:Sem Value) (pins:List (Addr×Obj)) (s:g7) (σ:St) (H:Hp) (Q:Bool->Hp->Prop),Inv X pins σ H s->t σ H Q->wpAny (model X.prog X.w) X.A (isTrue e X.env whole) (TP X pins σ Q) X.xe s
theorem PW.pt{t:TT}(h:PW X e t):PT X e t:=h _
def PA(X:Cx)(es:List Expr)(t:TA):Prop:=
 ∀(pos:Pos) (pins:List (Addr×Obj)) (s:g7) (σ:St) (H:Hp) (Q:List V->Hp->Prop),Inv X pins σ H s->t σ H Q->wpAny (model X.prog X.w) X.A (spliced (V0 pos (d8 es X.env))) (AP X pins σ Q) X.xe s
def PS(X:Cx)(st:Stmt)(t:TS):Prop:=
 ∀(pins:List (Addr×Obj)) (s:g7) (σ:St) (H:Hp) (D:a6s),Inv X pins σ H s->t D σ H->wpAny (model X.prog X.w) X.A (exec st X.env) (SP X pins D) X.xe s
def PSs(X:Cx)(st:List Stmt)(t:TS):Prop:=
 ∀(pins:List (Addr×Obj)) (s:g7) (σ:St) (H:Hp) (D:a6s),Inv X pins σ H s->t D σ H->wpAny (model X.prog X.w) X.A (execs st X.env) (SP X pins D) X.xe s
theorem thn{α:Type}{t:Sem α}{Q Q':α->g7->Prop}{M:Model}{A:G8}{E:Value->g7->Prop}(h:wpAny M A t Q E s)(hQ:∀a s,Q a s->Q' a s):wpAny M A t Q' E s:=U8 h hQ fun _ _ x=>x
section
def b5(i:Nat):TE:=fun σ H Q=>∃v,σ[i]? = some (some v)/\Q v H
def tC(v:V):TE:=fun _ H Q=>Q v H
theorem c2d{x:Str}(hN:X.N[i]? = some x)(hv:Vis X.env.scope x)(hd:(x == ("__debug__" : Str))=false:=by decide)(hcd:(x == ("__classdict__" : Str))=false:=by decide):PE X (.Name x pos) (b5 i):=by
 intro pins s σ H Q I h
 obtain⟨v,e,h⟩:=h
 obtain⟨m,hn,hl⟩:=I.loc
 obtain⟨u,r,l⟩:=hl i x v hN e hv
 have fin:EP X pins σ Q u s:=⟨v,H,I,r,h⟩
 rcases l with ⟨hk,hm⟩ | ⟨hk,c,hc,hcell⟩
 ·exact wpAny_Name (c4Q I.ok.kind hk hn hm fin) hd
 ·rcases hk with hk | hk
  ·exact wpAny_Name (c4R I.ok.kind hk hc hcell fin) hd
  ·exact wpAny_Name (wpAny_loadName_free I.ok.kind hk hc hcell fin hcd) hd
theorem c2m{i j pos}:PE X (.Constant (.int i) j pos) (tC (.int i)):=fun _ _ _ H _ I h=>wpAny_Constant_int ⟨.int i,H,I.tok _,⟨_,rfl⟩,h⟩
theorem c4u{b j pos}:PE X (.Constant (.bool b) j pos) (tC (.bl b)):=fun _ _ _ H _ I h=>Constant_bool ⟨.bl b,H,I,rfl,h⟩
theorem c2j{j pos}:PE X (.Constant .none j pos) (tC .non):=fun _ _ _ H _ I h=>Constant_none ⟨.non,H,I,rfl,h⟩
theorem c2f{x j pos}:PE X (.Constant (.str x) j pos) (tC (.str x)):=fun _ _ _ H _ I h=>Calls.Constant_str ⟨.str x,H,I.tok _,⟨_,rfl⟩,h⟩
def Gl(X:Cx)(x:Str):Prop:=X.env.kindOf x=some .globalImplicit
theorem b0l{E:Value->g7->Prop}{x:Str}(I:Inv X pins σ H s)(hg:Gl X x)(hm:X.mg x=some u)(h:Q u s)
  (hd:(x == ("__debug__" : Str))=false:=by decide):wpAny (model X.prog X.w) X.A (eval (.Name x pos) X.env) Q E s:=
 Calls.Name_function_global I.ok.kind hg (Calls.loadGlobal_global (by rw[I.ok.glob];exact I.mod.glob.keeps I.bk) hm h) hd
theorem a6j{E:Value->g7->Prop}{x:Str}(I:Inv X pins σ H s)(hg:Gl X x)(hm:X.mg x=none)(hv:a0b x=some u)(h:Q u s)
  (hn:x ≠ "__name__" := by decide) (hd:(x == ("__debug__" : Str))=false:=by decide):wpAny (model X.prog X.w) X.A (eval (.Name x pos) X.env) Q E s:=by
 obtain⟨mb,h1,h2⟩:=I.mod.blt
 exact Calls.Name_function_global I.ok.kind hg (Calls.loadGlobal_builtin (by rw[I.ok.glob];exact I.mod.glob.keeps I.bk) hm (by rw[I.ok.blt];exact h1.keeps I.bk) ((h2 x hn).trans hv) h) hd
theorem b9u{x:Str}(hg:Gl X x)(hm:X.mg x=some u)(r:C7 v u)(hd:(x == ("__debug__" : Str))=false:=by decide):PE X (.Name x pos) (tC v):=
 fun _ _ _ H _ I h=>b0l I hg hm ⟨v,H,I,r,h⟩ hd
theorem b9A{x:Str}(hg:Gl X x)(hm:X.mg x=none)(hv:a0b x=some u)(r:C7 v u)(hn:x ≠ "__name__" := by decide)(hd:(x == ("__debug__" : Str))=false:=by decide):PE X (.Name x pos) (tC v):=
 fun _ _ _ H _ I h=>a6j I hg hm hv ⟨v,H,I,r,h⟩ hn hd
variable {a b:Expr}{tb:TE}
def PC(X:Cx)(op:CmpOp)(a b:Expr)(t:TE):Prop:=
 ∀(pins:List (Addr×Obj)) (s:g7) (σ:St) (H:Hp) (Q:VK),Inv X pins σ H s->t σ H Q ->
  wpAny (model X.prog X.w) X.A (eval a X.env) (fun v s₁=>wpAny (model X.prog X.w) X.A (eval b X.env) (fun u s₂=>wpAny (model X.prog X.w) X.A (o6 op v u) (EP X pins σ Q) X.xe s₂) X.xe s₁) X.xe s
def tB(t:TE):TT:=fun σ H Q=>t σ H fun x H1=>∃c,x=.bl c/\Q c H1
theorem c2o{op:CmpOp}{t:TE}(h:PC X op a b t)(h1:M7 op b=false:=by first | exact nobehind _ (by decide) (by decide) | rfl):PE X (.Compare a [op] [b] pos) t:=fun pins s σ H Q I hw=>wpAny_Compare1 (h pins s σ H Q I hw) h1
theorem b7d{op:CmpOp}{t:TE}(h:PC X op a b t)(h1:M7 op b=false:=by first | exact nobehind _ (by decide) (by decide) | rfl):PT X (.Compare a [op] [b] pos) (tB t):=by
 intro pins s σ H Q I hw
 refine c3F (thn (h pins s σ H _ I hw) fun v s1 h1=>thn h1 fun u s2 h2=>thn h2 fun c s3 ⟨x,H1,I1,r1,q1⟩=>?_) h1
 obtain⟨d,rfl,q⟩:=q1
 cases r1
 exact I0 ⟨H1,I1,q⟩
theorem c1T{t:TE}(h:PE X e t)(he:∀whole,isTrue e X.env whole=(do let v <-whole;b6e e.pos;a3l [v] (truthy v)):=by intro _;rfl):PT X e (tB t):=by
 intro pins s σ H Q I hw
 refine isTrue_plain (thn (h pins s σ H _ I hw) fun v s1 ⟨x,H1,I1,r1,q1⟩=>?_) (he _)
 obtain⟨d,rfl,q⟩:=q1
 cases r1
 exact I0 ⟨H1,I1,q⟩
variable {tA tB':TT}{a3Z:List Expr}
def a7A(t u:TT):TT:=fun σ H Q=>t σ H fun c H1=>if c=true then u σ H1 Q else Q false H1
def tOr(t u:TT):TT:=fun σ H Q=>t σ H fun c H1=>if c=true then Q true H1 else u σ H1 Q
def a4v(t:TT):TT:=fun σ H Q=>t σ H fun c H1=>Q (!c) H1
theorem b9a(ha:PT X a tA):PW X (.BoolOp .And [a] pos) tA:=by
 intro wh pins s σ H Q I h
 refine isTrue_and (thn (ha pins s σ H Q I h) fun c s1 e=>?_)
 cases c with
 | true=>exact isTrue_and_nil e
 | false=>exact e
theorem c1R(ha:PT X a tA):PW X (.BoolOp .Or [a] pos) tA:=by
 intro wh pins s σ H Q I h
 refine isTrue_or (thn (ha pins s σ H Q I h) fun c s1 e=>?_)
 cases c with
 | false=>exact isTrue_or_nil e
 | true=>exact e
theorem c1S(ha:PT X a tA)(hb:PW X (.BoolOp .And (b::a3Z) pos) tB'):PW X (.BoolOp .And (a::b::a3Z) pos) (a7A tA tB'):=by
 intro wh pins s σ H Q I h
 refine isTrue_and (thn (ha pins s σ H _ I h) fun c s1 ⟨H1,I1,q1⟩=>?_)
 cases c with
 | true=>exact hb wh pins s1 σ H1 Q I1 q1
 | false=>exact⟨H1,I1,q1⟩
theorem c4n(ha:PT X a tA)(hb:PW X (.BoolOp .Or (b::a3Z) pos) tB'):PW X (.BoolOp .Or (a::b::a3Z) pos) (tOr tA tB'):=by
 intro wh pins s σ H Q I h
 refine isTrue_or (thn (ha pins s σ H _ I h) fun c s1 ⟨H1,I1,q1⟩=>?_)
 cases c with
 | true=>exact⟨H1,I1,q1⟩
 | false=>exact hb wh pins s1 σ H1 Q I1 q1
theorem c1U(ha:PT X a tA):PT X (.UnaryOp .Not a pos) (a4v tA):=by
 intro pins s σ H Q I h
 exact isTrue_not (ha pins s σ H (fun c H1=>Q (!c) H1) I h)
def W6(ta tb:TE):TE:=fun σ H Q=>ta σ H fun x H1=>∃c,x=.bl c/\if c=true then tb σ H1 Q else Q (.bl false) H1
def b8G(ta tb:TE):TE:=fun σ H Q=>ta σ H fun x H1=>∃c,x=.bl c/\if c=true then Q (.bl true) H1 else tb σ H1 Q
def a9l(ta:TE):TE:=fun σ H Q=>ta σ H fun x H1=>∃c,x=.bl c/\Q (.bl (!c)) H1
theorem c2h{op}{t:TE}(h:PE X a t):PE X (.BoolOp op [a] pos) t:=fun pins s σ H Q I hw=>BoolOp_one (h pins s σ H Q I hw)
theorem c2q(ha:PE X a ta)(hb:PE X (.BoolOp .And (b::a3Z) pos) tb):PE X (.BoolOp .And (a::b::a3Z) pos) (W6 ta tb):=by
 intro pins s σ H Q I h
 refine BoolOp_and (thn (ha pins s σ H _ I h) fun v s1 ⟨x,H1,I1,r1,q1⟩=>?_)
 obtain⟨c,rfl,q1⟩:=q1
 cases r1
 refine I0 ?_
 cases c with
 | true=>exact hb pins s1 σ H1 Q I1 q1
 | false=>exact⟨.bl false,H1,I1,rfl,q1⟩
theorem c4p(ha:PE X a ta)(hb:PE X (.BoolOp .Or (b::a3Z) pos) tb):PE X (.BoolOp .Or (a::b::a3Z) pos) (b8G ta tb):=by
 intro pins s σ H Q I h
 refine BoolOp_or (thn (ha pins s σ H _ I h) fun v s1 ⟨x,H1,I1,r1,q1⟩=>?_)
 obtain⟨c,rfl,q1⟩:=q1
 cases r1
 refine I0 ?_
 cases c with
 | false=>exact hb pins s1 σ H1 Q I1 q1
 | true=>exact⟨.bl true,H1,I1,rfl,q1⟩
theorem c2i(ha:PE X a ta):PE X (.UnaryOp .Not a pos) (a9l ta):=by
 intro pins s σ H Q I h
 refine UnaryOp_ (thn (ha pins s σ H _ I h) fun v s1 ⟨x,H1,I1,r1,q1⟩=>?_)
 obtain⟨c,rfl,q1⟩:=q1
 cases r1
 exact not_of (I0 ⟨.bl (!c),H1,I1,rfl,q1⟩)
def tIf(t:TT)(ta tb:TE):TE:=fun σ H Q=>t σ H fun c H1=>if c=true then ta σ H1 Q else tb σ H1 Q
theorem b7o(hc:PT X c tA)(ha:PE X a ta)(hb:PE X b tb):PE X (.IfExp c a b pos) (tIf tA ta tb):=by
 intro pins s σ H Q I h
 refine wpAny_IfExp (thn (hc pins s σ H _ I h) fun d s1 ⟨H1,I1,q1⟩=>?_)
 cases d with
 | true=>exact ha pins s1 σ H1 Q I1 q1
 | false=>exact hb pins s1 σ H1 Q I1 q1
end
def SqL(K:Fg)(H:Hp)(a:Addr)(xs:List V):Prop:=
 Rd H a (.lst xs) \/
  ∃(o:Obj) (its:Array Value) (n:Nat),K.lookup a=some o/\o.cls=.type "list" /\ o.dict=none/\o.data=.seq its n/\its.size<=j9/\E2 xs its.toList
def SqT(K:Fg)(H:Hp)(a:Addr)(xs:List V):Prop:=
 Rd H a (.tup xs) \/
  ∃(o:Obj) (its:Array Value) (n:Nat),K.lookup a=some o/\o.cls=.type "tuple" /\ o.data=.seq its n/\its.size<=j9/\E2 xs its.toList
def c5l:Value->Option V
 | .none=>some .non
 | .bool b=>some (.bl b)
 | .int i _=>some (.int i)
 | .str x _=>some (.str x)
 | .bytes b _=>some (.byt b)
 | .float b _=>some (.flt b)
 | .ref a=>some (.ref a)
 | .type n=>some (.ty n)
 | _=>none
theorem C7.abs{x:V}(r:C7 x u):c5l u=some x:=by
 cases x with
 | non=>cases r;rfl
 | bl _=>cases r;rfl
 | int _=>obtain⟨t,rfl⟩:=r;rfl
 | str _=>obtain⟨t,rfl⟩:=r;rfl
 | byt _=>obtain⟨t,rfl⟩:=r;rfl
 | flt _=>obtain⟨t,rfl⟩:=r;rfl
 | ref _=>cases r;rfl
 | ty _=>cases r;rfl
theorem C7.inj{x:V}(r:C7 x u)(q:C7 y u):x=y:=Option.some.inj (r.abs.symm.trans q.abs)
theorem E2.inj:∀ {xs ys:List V} {us:List Value},E2 xs us->E2 ys us->xs=ys
 | _,_,_,.nil,.nil=>rfl
 | _,_,_,.cons r t,.cons r' t'=>by rw[r.inj r',E2.inj t t']
section
variable {ys:List V}
theorem SqL.of{K:Fg}(h:H a=some (.lst xs)):SqL K H a xs:=.inl (.inl h)
theorem SqT.of{K:Fg}(h:H a=some (.tup xs)):SqT K H a xs:=.inl (.inl h)
theorem Inv.list(I:Inv X pins σ H s)(h:SqL X.K H a xs):∃its:List Value,E2 xs its/\PlainL s.heap a its.toArray/\xs.length<=j9:=by
 rcases h with h | ⟨o,its,n,hk,hc,hd,hs,hz,r⟩
 ·obtain⟨z,its,n,r,e⟩:=h.ok I.hok
  exact⟨its,r,⟨_,n,e,rfl,rfl,rfl⟩,z⟩
 ·refine⟨its.toList,r,⟨o,n,I.kIn a o hk,hc,hd,by simpa using hs⟩,?_⟩
  have e:=r.length
  simp only[Z5]at e
  omega
theorem Inv.tuple(I:Inv X pins σ H s)(h:SqT X.K H a xs):∃its:List Value,E2 xs its/\IsTup s.heap a its.toArray/\xs.length<=j9:=by
 rcases h with h | ⟨o,its,n,hk,hc,hs,hz,r⟩
 ·obtain⟨z,its,r,p⟩:=h.ok I.hok
  exact⟨its,r,p,z⟩
 ·refine⟨its.toList,r,⟨o,I.kIn a o hk,hc,n,by simpa using hs⟩,?_⟩
  have e:=r.length
  simp only[Z5]at e
  omega
theorem Inv.list_inj(I:Inv X pins σ H s)(h:SqL X.K H a xs)(h':SqL X.K H a ys):xs=ys:=by
 obtain⟨its,r,⟨o,n,e,_,_,d⟩,_⟩:=I.list h
 obtain⟨its',r',⟨o',n',e',_,_,d'⟩,_⟩:=I.list h'
 rw[e]at e';cases e'
 rw[d]at d'
 injection d' with d1 _
 have:its=its':=by simpa using congrArg Array.toList d1
 subst this
 exact r.inj r'
end
abbrev Cx.wish(X:Cx)(E:Value->g7->Prop):Cx:={ X with xe:=E }
abbrev Cx.nox(X:Cx):Cx:=X.wish fun _ _=>False
theorem Cx.Ok.wish(ok:X.Ok)(E:Value->g7->Prop):(X.wish E).Ok:=
 ⟨ok.mod,ok.kind,ok.glob,ok.blt,ok.above,ok.inj,ok.has,ok.cab,ok.hd,ok.frames,ok.stk,ok.exf,ok.bs,ok.bsz,ok.noex,ok.exfs,ok.funs,ok.frf⟩
theorem Cx.Ok.unwish{E:Value->g7->Prop}(ok:(X.wish E).Ok):X.Ok:=
 ⟨ok.mod,ok.kind,ok.glob,ok.blt,ok.above,ok.inj,ok.has,ok.cab,ok.hd,ok.frames,ok.stk,ok.exf,ok.bs,ok.bsz,ok.noex,ok.exfs,ok.funs,ok.frf⟩
section
variable {E:Value->g7->Prop}
theorem Inv.wish(I:Inv X pins σ H s)(E:Value->g7->Prop):Inv (X.wish E) pins σ H s:=⟨I.ok.wish E,I.os,I.bare,I.base,I.loc,I.cell,I.free,I.freeC,I.pin,I.hok,I.len⟩
theorem Inv.unwish(I:Inv (X.wish E) pins σ H s):Inv X pins σ H s:=⟨I.ok.unwish,I.os,I.bare,I.base,I.loc,I.cell,I.free,I.freeC,I.pin,I.hok,I.len⟩
theorem SP.unwish{D:a6s}{f:Flow}{s':g7}(h:SP (X.wish E) pins D f s'):SP X pins D f s':=by
 cases f with
 | next=>obtain⟨σ',H',I,q⟩:=h;exact⟨σ',H',I.unwish,q⟩
 | brk=>obtain⟨σ',H',I,q⟩:=h;exact⟨σ',H',I.unwish,q⟩
 | cont=>obtain⟨σ',H',I,q⟩:=h;exact⟨σ',H',I.unwish,q⟩
 | ret u=>obtain⟨v,σ',H',I,r,q⟩:=h;exact⟨v,σ',H',I.unwish,r,q⟩
theorem PSs.nox{st:List Stmt}{t:TS}(h:PSs X.nox st t):PSs X st t:=fun pins s σ H D I hw=>
 U8 (h pins s σ H D (I.wish _) hw) (fun _ _ q=>q.unwish) fun _ _ z=>False.elim z
end
section
variable {st:Stmt}{a3Z:List Stmt}{t u:TS}
def D0:TS:=fun D σ H=>D.nx σ H
def u7(t u:TS):TS:=fun D σ H=>t { D with nx:=u D } σ H
theorem b9g:PSs X [] D0:=fun _ _ σ H _ I h=>a7j ⟨σ,H,I,h⟩
theorem b7f(h1:PS X st t)(h2:PSs X a3Z u):PSs X (st::a3Z) (u7 t u):=by
 intro pins s σ H D I h
 refine wpAny_execs_cons (thn (h1 pins s σ H { D with nx:=u D } I h) fun f s1 q=>?_)
 cases f with
 | next=>
  obtain⟨σ',H',I',q⟩:=q
  exact h2 pins s1 σ' H' D I' q
 | ret v=>exact q
 | brk=>exact q
 | cont=>exact q
theorem b9f(h1:PS X st t):PSs X [st] t:=by
 intro pins s σ H D I h
 refine wpAny_execs_cons (thn (h1 pins s σ H D I h) fun f s1 q=>?_)
 cases f with
 | next=>exact a7j q
 | ret v=>exact q
 | brk=>exact q
 | cont=>exact q
theorem Inv.quiet(I:Inv X pins σ H s):interactive X.env=false:=by simp[interactive,I.ok.kind]
def a0G(te:TE):TS:=fun D σ H=>te σ H fun _ H1=>D.nx σ H1
theorem b9i(he:PE X e te)(hs:a1i e none pos.line X.env=pure false:=by rfl):PS X (.Expr e pos) (a0G te):=by
 intro pins s σ H D I h
 exact wpAny_Expr_any (thn (he pins s σ H _ I h) fun v s1 ⟨x,H1,I1,r1,q1⟩=>⟨σ,H1,I1,q1⟩) I.quiet hs
def J7(te:TE):TS:=fun D σ H=>te σ H D.rt
theorem c1W(he:PE X e te):PS X (.Return (some e) pos) (J7 te):=by
 intro pins s σ H D I h
 exact wpAny_Return_some (thn (he pins s σ H _ I h) fun v s1 ⟨x,H1,I1,r1,q1⟩=>⟨x,σ,H1,I1,r1,q1⟩)
def J8(c:TT)(t u:TS):TS:=fun D σ H=>c σ H fun b H1=>if b=true then t D σ H1 else u D σ H1
theorem c4o{a b:List Stmt}{tc:TT}(hc:PT X c tc)(ha:PSs X a t)(hb:PSs X b u):PS X (.If c a b pos) (J8 tc t u):=by
 intro pins s σ H D I h
 refine wpAny_If (thn (hc pins s σ H _ I h) fun d s1 ⟨H1,I1,q1⟩=>?_)
 cases d with
 | true=>exact ha pins s1 σ H1 D I1 q1
 | false=>exact hb pins s1 σ H1 D I1 q1
end
abbrev TG:=V->St->Hp->(St->Hp->Prop)->Prop
variable{g:TG}
abbrev TGs:=List V->St->Hp->(St->Hp->Prop)->Prop
def PG(X:Cx)(target:Expr)(t:TG):Prop:=
 ∀(pins:List (Addr×Obj)) (s:g7) (σ:St) (H:Hp) (v:V) (u:Value) (Q:St->Hp->Prop),Inv X pins σ H s->C7 v u->t v σ H Q ->
  wpAny (model X.prog X.w) X.A (a8Z target X.env u) (fun _ s'=>∃σ' H',Inv X pins σ' H' s'/\Q σ' H') X.xe s
def PGs(X:Cx)(ts:List Expr)(t:TGs):Prop:=
 ∀(pins:List (Addr×Obj)) (s:g7) (σ:St) (H:Hp) (vs:List V) (us:List Value) (Q:St->Hp->Prop),Inv X pins σ H s->E2 vs us->t vs σ H Q ->
  wpAny (model X.prog X.w) X.A (assignInOrder ((a0p ts X.env).map (·.2)) us) (fun _ s'=>∃σ' H',Inv X pins σ' H' s'/\Q σ' H') X.xe s
abbrev a8U:=V->V->V->Hp->(Hp->Prop)->Prop
def b8h(X:Cx)(t:a8U):Prop:=
 ∀(pins:List (Addr×Obj)) (s:g7) (σ:St) (H:Hp) (o i v:V) (ov iv u:Value) (Q:Hp->Prop),Inv X pins σ H s->C7 o ov->C7 i iv->C7 v u->t o i v H Q ->
  wpAny (model X.prog X.w) X.A (c1j ov iv u) (fun _ s'=>∃H',Inv X pins σ H' s'/\Q H') X.xe s
abbrev TIp:=V->V->Hp->VK->Prop
def PIp(X:Cx)(op:a8x)(t:TIp):Prop:=
 ∀(pins:List (Addr×Obj)) (s:g7) (σ:St) (H:Hp) (x y:V) (v u:Value) (Q:VK),Inv X pins σ H s->C7 x v->C7 y u->t x y H Q ->
  wpAny (model X.prog X.w) X.A (inplaceOp op v u) (EP X pins σ Q) X.xe s
section
def o0(i:Nat):TG:=fun v σ H Q=>Q (σ.set i (some v)) H
theorem b0f{x:Str}(hN:X.N.Nodup)(hi:X.N[i]? = some x)(hx:Loc X.env.scope x)(hf:X.fn x=true\/X.env.scope.names.lookup x=some .local:=by first | exact .inl rfl | exact .inr rfl | assumption):PG X (.Name x pos) (o0 i):=by
 intro pins s σ H v u Q I r h
 exact b2D (a4Z I hN hi hx r (fun s' I'=>⟨_,H,I',h⟩) hf)
def b0u:TGs:=fun vs σ H Q=>vs=[]/\Q σ H
def a0V(t:TG)(u:TGs):TGs:=fun vs σ H Q=>∃v r,vs=v::r/\t v σ H fun σ' H'=>u r σ' H' Q
theorem b4f:PGs X [] b0u:=by
 intro pins s σ H vs us Q I r h
 obtain⟨e,h⟩:=h
 subst e
 cases r
 exact assignInOrder_nil ⟨σ,H,I,h⟩
theorem a7Q{t:TG}{u:TGs}(h1:PG X e t)(h2:PGs X es u)
  (hs:(a0p (e::es) X.env).map (·.2)=a8Z e X.env::(a0p es X.env).map (·.2):=by rfl):PGs X (e::es) (a0V t u):=by
 intro pins s σ H vs us Q I r h
 obtain⟨v,vr,e1,h⟩:=h
 subst e1
 cases r with
 | cons r rr=>
  rw[hs]
  refine assignInOrder_cons (thn (h1 pins s σ H _ _ _ I r h) fun _ s1 ⟨σ1,H1,I1,q1⟩=>?_)
  exact h2 pins s1 σ1 H1 _ _ Q I1 rr q1
def b0s(K:Fg)(n:Nat)(t:TGs):TG:=fun v σ H Q=>∃a xs,v=.ref a/\SqT K H a xs/\xs.length=n/\t xs σ H Q
theorem b7m{k:Nat}{t:TGs}{n:Nat}(hc:X.calm=true)(h:PGs X es t)
  (hn:(a0p es X.env).length=n:=by rfl) (hst:(a0p es X.env).findIdx? (·.1)=none:=by rfl):PG X (.Tuple es k pos) (b0s X.K n t):=by
 intro pins s σ H v u Q I r hw
 obtain⟨a,xs,e1,hq,hl,hw⟩:=hw
 subst e1
 cases r
 obtain⟨its,rv,ht,hz⟩:=I.tuple hq
 refine assign_Tuple_tuple (I.ok.hd hc) ht (by simp[hn,<-hl,rv.length]) hst fun h' hx=>?_
 have I1:Inv X pins σ H { s with heap:=h' }:=I.kept (t':=s.toks) fun b o e=>hx b o (u5 (g8 e)) e
 exact h pins _ σ H xs _ Q I1 (by simpa using rv) hw
def b0t(to ti:TE)(t:a8U):TG:=fun v σ H Q=>to σ H fun o H1=>ti σ H1 fun i H2=>t o i v H2 fun H3=>Q σ H3
theorem c2c{o i:Expr}{to ti:TE}{t:a8U}(ho:PE X o to)(hi:PE X i ti)(hs:b8h X t)
  (ha:∀v,a8Z (.Subscript o i pos) X.env v=(do
   let ov <-a3l [v] (eval o X.env)
   let iv <-a3l [v,ov] (eval i X.env)
   b6e pos
   a3l [v,ov,iv] (c1j ov iv v)
   release [v,ov,iv] []):=by intro _;rfl):PG X (.Subscript o i pos) (b0t to ti t):=by
 intro pins s σ H v u Q I r h
 rw[ha]
 refine c5 (a5G (thn (ho pins s σ H _ I h) fun ov s1 ⟨x,H1,I1,r1,q1⟩=>?_))
 refine c5 (a5G (thn (hi pins s1 σ H1 _ I1 q1) fun iv s2 ⟨y,H2,I2,r2,q2⟩=>?_))
 refine c5 (c1h (c5 (a5G (thn (hs pins s2 σ H2 x y v ov iv u _ I2 r1 r2 r q2) fun _ s3 ⟨H3,I3,q3⟩=>?_))))
 exact wpAny_release ⟨σ,H3,I3,q3⟩
def D8(te:TE)(g:TG):TS:=fun D σ H=>te σ H fun x H1=>g x σ H1 D.nx
theorem c1Z(he:PE X e te)(hg:PG X tg g)(hs:swapsWithSole [tg] e pos.line X.env=pure false:=by rfl)(hw:swappedStores [tg] e X.env=pure none:=by rfl)
  (h1:(a0p [tg] X.env).map (·.2)=[a8Z tg X.env]:=by rfl):PS X (.Assign [tg] e pos) (D8 te g):=by
 intro pins s σ H D I h
 refine wpAny_Assign_stores (thn (he pins s σ H _ I h) fun v s1 ⟨x,H1,I1,r1,q1⟩=>?_) hs hw
 rw[h1]
 exact thn (hg pins s1 σ H1 x v _ I1 r1 q1) fun _ s2 q=>q
theorem c1V{x:Str}(hN:X.N.Nodup)(hi:X.N[i]? = some x)(hx:Loc X.env.scope x)(he:PE X e te)(hs:a1i e (some (.Name x pos')) pos.line X.env=pure false:=by rfl)(hf:X.fn x=true\/X.env.scope.names.lookup x=some .local:=by first | exact .inl rfl | exact .inr rfl | assumption) :
  PS X (.Assign [.Name x pos'] e pos) (D8 te (o0 i)):=by
 intro pins s σ H D I h
 refine wpAny_Assign_Name (thn (he pins s σ H _ I h) fun v s1 ⟨y,H1,I1,r1,q1⟩=>?_) hs
 exact a4Z I1 hN hi hx r1 (fun s2 I2=>⟨_,H1,I2,q1⟩) hf
def b8I(i:Nat)(te:TE)(ti:TIp):TS:=fun D σ H=>∃x,σ[i]? = some (some x)/\te σ H fun y H1=>ti x y H1 fun z H2=>D.nx (σ.set i (some z)) H2
theorem c1Y{x:Str}{op:a8x}{ti:TIp}(hN:X.N.Nodup)(hi:X.N[i]? = some x)(hx:Loc X.env.scope x)(he:PE X e te)(ho:PIp X op ti)(hf:X.fn x=true\/X.env.scope.names.lookup x=some .local:=by first | exact .inl rfl | exact .inr rfl | assumption) :
  PS X (.AugAssign (.Name x pos') op e pos) (b8I i te ti):=by
 intro pins s σ H D I h
 obtain⟨v,e1,h⟩:=h
 obtain⟨m,hn,hl⟩:=I.loc
 have vis:Vis X.env.scope x:=by rcases hx with k | k;exact .inl k;exact .inr (.inl k)
 obtain⟨u,r,l⟩:=hl i x v hi e1 vis
 refine wpAny_AugAssign_Name ?_
 have go:wpAny (model X.prog X.w) X.A (eval e X.env) (fun w s₂=>wpAny (model X.prog X.w) X.A (inplaceOp op u w) (fun r s₃=>wpAny (model X.prog X.w) X.A (storeName X.env x r) (fun _=>SP X pins D .next) X.xe s₃) X.xe s₂) X.xe s:=by
  refine thn (he pins s σ H _ I h) fun w s1 ⟨y,H1,I1,r1,q1⟩=>?_
  refine thn (ho pins s1 σ H1 v y u w _ I1 r r1 q1) fun z s2 ⟨zv,H2,I2,r2,q2⟩=>?_
  exact a4Z I2 hN hi hx r2 (fun s3 I3=>⟨_,H2,I3,q2⟩) hf
 rcases l with ⟨hk,hm⟩ | ⟨hk,c,hc,hcell⟩
 ·exact c4Q I.ok.kind hk hn hm go
 ·rcases hk with hk | hk
  ·exact c4R I.ok.kind hk hc hcell go
  ·rcases hx with k | k
   ·have:X.env.scope.names.lookup x=some .free:=hk
    rw[k]at this;cases this
   ·have:X.env.scope.names.lookup x=some .free:=hk
    rw[k]at this;cases this
def b3Y(to ti te:TE)(tget:V->V->Hp->VK->Prop)(tip:TIp)(tset:a8U):TS:=fun D σ H=>to σ H fun o H1=>ti σ H1 fun i H2=>tget o i H2 fun x H3=>te σ H3 fun y H4=>tip x y H4 fun z H5=>tset o i z H5 fun H6=>D.nx σ H6
def c3m(X:Cx)(t:V->V->Hp->VK->Prop):Prop:=
 ∀(pins:List (Addr×Obj)) (s:g7) (σ:St) (H:Hp) (o i:V) (ov iv:Value) (Q:VK),Inv X pins σ H s->C7 o ov->C7 i iv->t o i H Q ->
  wpAny (model X.prog X.w) X.A (a9H ov iv) (EP X pins σ Q) X.xe s
theorem b9k{o i:Expr}{to ti:TE}{tget:V->V->Hp->VK->Prop}{tip:TIp}{tset:a8U}{op:a8x}{tpos:Pos}(ho:PE X o to)(hi:PE X i ti)(hg:c3m X tget)(he:PE X e te)(hp:PIp X op tip)(hs:b8h X tset)
  (ha:∀ov iv new,augStore i ov iv new=(do a3l [new,ov,iv] (c1j ov iv new);release [new,ov,iv] [];pure .next):=by intros;rfl):PS X (.AugAssign (.Subscript o i tpos) op e pos) (b3Y to ti te tget tip tset):=by
 intro pins s σ H D I h
 refine wpAny_AugAssign_SubscriptAny (thn (ho pins s σ H _ I h) fun ov s1 ⟨x1,H1,I1,r1,q1⟩=>?_) ha
 refine thn (hi pins s1 σ H1 _ I1 q1) fun iv s2 ⟨x2,H2,I2,r2,q2⟩=>?_
 refine thn (hg pins s2 σ H2 x1 x2 ov iv _ I2 r1 r2 q2) fun old s3 ⟨x3,H3,I3,r3,q3⟩=>?_
 refine thn (he pins s3 σ H3 _ I3 q3) fun v s4 ⟨x4,H4,I4,r4,q4⟩=>?_
 refine thn (hp pins s4 σ H4 x3 x4 old v _ I4 r3 r4 q4) fun new s5 ⟨x5,H5,I5,r5,q5⟩=>?_
 exact thn (hs pins s5 σ H5 x1 x2 x5 ov iv new _ I5 r1 r2 r5 q5) fun _ s6 ⟨H6,I6,q6⟩=>⟨σ,H6,I6,q6⟩
def ipI(f:Int->Int->Int):TIp:=fun x y H Q=>∃i j,x=.int i/\y=.int j/\Q (.int (f i j)) H
theorem c3b:PIp X .Add (ipI fun i j=>i+j):=by
 intro pins s σ H x y v u Q I r1 r2 h
 obtain⟨i,j,e1,e2,q⟩:=h
 subst e1;subst e2
 obtain⟨t,rfl⟩:=r1
 obtain⟨t',rfl⟩:=r2
 exact iadd_int ⟨.int _,H,I.tok _,⟨_,rfl⟩,q⟩
end
section
def a5P(c:TT)(tb:TS):TS:=fun D σ H=>∃W:Nat->St->Hp->Prop,(∃m,W m σ H)/\∀m σ H,W m σ H ->
 c σ H fun b H1=>if b=true then ∃N:St->Hp->Prop,(∀σ' H',N σ' H'->∃m',m'<m/\W m' σ' H')/\tb { D with nx:=N,ct:=N,bk:=D.nx } σ H1 else D.nx σ H1
theorem b7g{body:List Stmt}{tc:TT}(hp:b1f (model X.prog X.w) X.A X.env X.xe)(hc:PT X c tc)(hb:PSs X body tb):PS X (.While c body [] pos) (a5P tc tb):=by
 intro pins s σ H D I h
 obtain⟨W,⟨m0,w0⟩,turn⟩:=h
 refine wpAny_While (codeAny_whileLoop (fun n s'=>∃σ' H',Inv X pins σ' H' s'/\W n σ' H') ?_ m0 ⟨σ,H,I,w0⟩)
 rintro n s1 ⟨σ1,H1,I1,w1⟩
 refine a0a hp (thn (hc pins s1 σ1 H1 _ I1 (turn n σ1 H1 w1)) fun b s2 ⟨H2,I2,q2⟩=>?_)
 cases b with
 | true=>
  obtain⟨N,hN,q2⟩:=q2
  rw[if_pos rfl]
  refine a0a hp (thn (hb pins s2 σ1 H2 _ I2 q2) fun f s3 q3=>?_)
  cases f with
  | next=>
   obtain⟨σ3,H3,I3,n3⟩:=q3
   obtain⟨m',hm,w3⟩:=hN σ3 H3 n3
   exact⟨m',hm,σ3,H3,I3,w3⟩
  | cont=>
   obtain⟨σ3,H3,I3,n3⟩:=q3
   obtain⟨m',hm,w3⟩:=hN σ3 H3 n3
   exact⟨m',hm,σ3,H3,I3,w3⟩
  | brk=>exact q3
  | ret v=>exact q3
 | false=>
  rw[if_neg l3]
  exact a7j ⟨σ1,H2,I2,q2⟩
end
structure It where
 go:Nat->Hp->Prop
 yld:Nat->Hp->V->Hp->Prop
 stop:Nat->Hp->Prop
def a4c(X:Cx)(pins:List (Addr×Obj))(H:Hp)(b:Addr):Prop:=
 H b=none/\b≠X.env.locals/\b∉X.fs/\(b∈X.ex\/X.s₀.heap.objs.size<=b)/\(∀x c,X.env.cells.lookup x=some c->c≠b)/\∀p∈X.pn++pins,p.1≠b
theorem Inv.fpOk(I:Inv X pins σ H s)(hb:s.heap.objs.size<=b)(hn:H' b=none):a4c X pins H' b:=by
 refine⟨hn,b5R (v6 I.lt hb),I.nofs hb,.inr (C2 I.sz hb),fun x c e z=>?_,fun p hp z=>?_⟩
 ·obtain⟨v,q⟩:=I.cell x c e
  exact absurd (v6 q.lt (by rw[z];exact hb)) (E4 _)
 ·exact absurd (v6 (g8 (I.pin p hp).1) (by rw[z];exact hb)) (E4 _)
structure b0O(P:v8)(w:World)(K:Fg)(tg:Expr)(J:It)(fp:List Addr)(it:Addr)(tn:Nat->Heap->Prop):Prop where
 mem:it∈fp
 obj:∀i h,tn i h->∀b∈fp,∃o,h.get? b=some o/\∀v,o.data≠.cell v
 keep:∀i h h',tn i h->(∀b∈fp,∀o,h.get? b=some o->h'.get? b=some o)->tn i h'
 item:∀(X:Cx),X.prog=P->X.w=w->X.K=K->X.calm=true->∀(i:Nat) (pins:List (Addr×Obj)) (s:g7) (σ:St) (H:Hp) (E:Value->g7->Prop),Inv X pins σ H s->(∀b∈fp,a4c X pins H b)->tn i s.heap->J.go i H ->
  wpAny (model P w) X.A (c3I (.ref it)) (fun r s1=>∃u,r=some u /\
   wpAny (model P w) X.A (a3k tg (.ref it) u) (fun _ s2=>∃x H',Inv X pins σ H' s2/\C7 x u/\J.yld i H x H'/\tn (i+1) s2.heap/\∀b∈fp,H' b=none) E s1) E s
 done:∀(X:Cx),X.prog=P->X.w=w->X.K=K->X.calm=true->∀(i:Nat) (pins:List (Addr×Obj)) (s:g7) (σ:St) (H:Hp) (E:Value->g7->Prop),Inv X pins σ H s->(∀b∈fp,a4c X pins H b)->tn i s.heap->J.stop i H ->
  wpAny (model P w) X.A (c3I (.ref it)) (fun r s1=>r=none/\Inv X pins σ H s1) E s
 self:∀(A:G8) (i:Nat) (s:g7) (Q:Value->g7->Prop) (E:Value->g7->Prop),tn i s.heap->Q (.ref it) s->wpAny (model P w) A (pyIter (.ref it)) Q E s
abbrev TI:=St->Hp->(It->Hp->Prop)->Prop
def PIE(X:Cx)(pins:List (Addr×Obj))(σ:St)(tg:Expr)(R:It->Hp->Prop)(itv:Value)(s2:g7):Prop:=
 ∃(it:Addr) (fp:List Addr) (tn:Nat->Heap->Prop) (J:It) (H':Hp),itv=.ref it/\Inv X pins σ H' s2/\b0O X.prog X.w X.K tg J fp it tn/\tn 0 s2.heap/\(∀b∈fp,a4c X pins H' b)/\R J H'
def PI(X:Cx)(tg iter:Expr)(wi:TI):Prop:=
 ∀(pins:List (Addr×Obj)) (s:g7) (σ:St) (H:Hp) (R:It->Hp->Prop),Inv X pins σ H s->wi σ H R ->
  wpAny (model X.prog X.w) X.A (eval iter X.env) (fun v s1=>wpAny (model X.prog X.w) X.A (pyIter v) (PIE X pins σ tg R) X.xe s1) X.xe s
theorem b4j{M:Model}{A:G8}{E:Value->g7->Prop}{it:Addr}{o:Obj}{n:String}{vs:Array Value}{Q:Unit->g7->Prop}(ho:s.heap.get? it=some o)(hc:o.cls=.type n)(hd:o.data=.fields vs)
  (hn:["enumerate","zip","dict_itemiterator","dict_reverseitemiterator","odict_iterator","itertools.zip_longest","itertools.pairwise"].contains n=false) (hQ:Q () s):wpAny M A (a3k tg (.ref it) u) Q E s:=by
 unfold a3k
 cases tg <;> first
  | exact l5 hQ
  | (cases u <;> first
    | exact l5 hQ
    | (refine c5 (wpAny_load ho ?_)
       rw[hc,hd]
       show wpAny M A (if(["enumerate","zip","dict_itemiterator","dict_reverseitemiterator","odict_iterator","itertools.zip_longest","itertools.pairwise"].contains n&&vs[0]? == some (rawInt _))=true then _ else _) Q E s
       rw[if_neg (by intro h;rw[hn,c3D]at h;cases h)]
       exact l5 hQ))
def Itl(K:Fg)(a:Addr):It:=
 ⟨fun i H=>∃xs x,SqL K H a xs/\xs[i]? = some x,fun i H x H'=>H'=H/\∀xs,SqL K H a xs->xs[i]? = some x,fun i H=>∃xs,SqL K H a xs/\xs.length<=i⟩
def Itr(lo:Int)(n:Nat):It:=⟨fun i _=>i<n,fun i H x H'=>H'=H/\x=.int (lo+i),fun i _=>n<=i⟩
theorem b4M{P:v8}{K:Fg}(a it:Addr):b0O P w K tg (Itl K a) [it] it (fun i h=>h.IsListIter it a i) where
 mem:=by simp
 obj:=fun i h st b hb=>by
  have e:b=it:=by simpa using hb
  subst e
  obtain⟨o,e,c,d⟩:=st
  exact⟨o,e,fun v z=>by rw[d]at z;cases z⟩
 keep:=fun i h h' st k=>st.at fun o e=>k it (by simp) o e
 item:=by
  intro X hP hw hK hc i pins s σ H E I hf st hg
  subst hP hw hK
  obtain⟨xs,x,hq,hx⟩:=hg
  obtain⟨its,rv,p,hz⟩:=I.list hq
  obtain⟨u,hu,ru⟩:=rv.get hx
  obtain⟨f0,f1,f2,f3,f4,f5⟩:=hf it (by simp)
  refine wpAny_pyNext_list_item st p.isList (x:=u) (by simpa using hu) fun h' st' sb=>?_
  have I1:Inv X pins σ H { s with heap:=h' }:=I.turned (t':=s.toks) (fun b o hb e=>(sb.2 b hb).trans e) f0 f1 f3 f4 f5
  obtain⟨o,e,c,d⟩:=id st'
  exact⟨u,rfl,b4j (s:={ s with heap:=h' }) e c d (by decide) ⟨x,H,I1,ru,⟨rfl,fun ys hy=>by rw[I.list_inj hy hq];exact hx⟩,st',fun b hb=>(hf b hb).1⟩⟩
 done:=by
  intro X hP hw hK hc i pins s σ H E I hf st hg
  subst hP hw hK
  obtain⟨xs,hq,hx⟩:=hg
  obtain⟨its,rv,p,hz⟩:=I.list hq
  obtain⟨f0,f1,f2,f3,f4,f5⟩:=hf it (by simp)
  have hl:=rv.length
  exact wpAny_pyNext_list_end (I.ok.hd hc) st p.isList (by simp;omega) fun h' eb=>⟨rfl,I.turned (t':=s.toks) (fun b o hb e=>eb b o hb e) f0 f1 f3 f4 f5⟩
 self:=fun _ _ _ _ _ st h=>wpAny_pyIter_listiter st h
theorem b2K{P:v8}{K:Fg}(it:Addr)(lo:Int)(n:Nat):b0O P w K tg (Itr lo n) [it] it (fun i h=>IsRangeIter h it (lo+(i:Nat) * 1) ((n:Int) - (i:Nat)) 1) where
 mem:=by simp
 obj:=fun i h st b hb=>by
  have e:b=it:=by simpa using hb
  subst e
  exact⟨_,st,fun v z=>by
   have z':Data.fields _=Data.cell v:=z
   cases z'⟩
 keep:=fun i h h' st k=>k it (by simp) _ st
 item:=by
  intro X hP hw hK hc i pins s σ H E I hf st hg
  subst hP hw hK
  obtain⟨f0,f1,f2,f3,f4,f5⟩:=hf it (by simp)
  have W:=Walks.range (prog:=X.prog) (w:=X.w) (I.ok.hd hc) it lo 1 n
  refine W.item i s _ _ hg st fun v h' tk hv st' kk=>?_
  obtain⟨t,rfl⟩:=hv
  have I1:Inv X pins σ H { s with heap:=h',toks:=tk }:=I.turned (fun b o hb e=>kk b o (by simpa using hb) e) f0 f1 f3 f4 f5
  refine⟨_,rfl,b4j (s:={ s with heap:=h',toks:=tk }) (n := "range_iterator") st' rfl rfl (by decide) ⟨.int (lo+i),H,I1,⟨t,?_⟩,⟨rfl,rfl⟩,st',fun b hb=>(hf b hb).1⟩⟩
  rw[Int.mul_one]
 done:=by
  intro X hP hw hK hc i pins s σ H E I hf st hg
  subst hP hw hK
  obtain⟨f0,f1,f2,f3,f4,f5⟩:=hf it (by simp)
  exact wpAny_pyNext_range_end (I.ok.hd hc) st (by have:n<=i:=hg;omega) fun h' eb=>⟨rfl,I.turned (t':=s.toks) (fun b o hb e=>eb b o hb e) f0 f1 f3 f4 f5⟩
 self:=fun _ _ _ _ _ st h=>wpAny_pyIter_rangeiter st h
section
def Q9(K:Fg)(tl:TE):TI:=fun σ H R=>tl σ H fun x H1=>∃a,x=.ref a/\(∃xs,SqL K H1 a xs)/\R (Itl K a) H1
theorem b9q{l:Expr}{tl:TE}(hl:PE X l tl):PI X tg l (Q9 X.K tl):=by
 intro pins s σ H R I h
 refine thn (hl pins s σ H _ I h) fun v s1 ⟨x,H1,I1,r1,q1⟩=>?_
 obtain⟨a,e,⟨xs,hq⟩,q⟩:=q1
 subst e
 cases r1
 obtain⟨its,rv,p,hz⟩:=I1.list hq
 refine b2B p.isList ?_
 refine⟨s1.heap.objs.size,[s1.heap.objs.size],_,_,H1,rfl,I1.kept (t':=s1.toks) fun b o e=>g9 _ e,b4M a _,⟨_,t9 _ rfl,rfl,rfl⟩,fun b hb=>?_,q⟩
 have e:b=s1.heap.objs.size:=by simpa using hb
 subst e
 exact I1.fpOk (d9 _) (I1.hok.fresh (d9 _))
theorem b6X{R:It->Hp->Prop}{E:Value->g7->Prop}{lo hi:Int}{t u v:Tok}{tk:Nat}(I:Inv X pins σ H s)(h1 : -(2 ^ 62)<=lo)(h2:lo<2 ^ 62)(h3 : -(2 ^ 62)<=hi)(h4:hi<2 ^ 62)
  (q:R (Itr lo (hi - lo).toNat) H):wpAny (model X.prog X.w) X.A (pyIter (.ref s.heap.objs.size)) (PIE X pins σ tg R) E { s with heap:=s.heap.push { cls:=.type "range",data:=.fields #[.int lo t,.int hi u,.int 1 v] },toks:=tk }:=by
 refine wpAny_pyIter_range (IsRange.new ..) (small_one h1 h2 h3 h4) ?_
 have I1:Inv X pins σ H { s with heap:=s.heap.push { cls:=.type "range",data:=.fields #[.int lo t,.int hi u,.int 1 v] },toks:=tk }:=I.kept fun b o e=>g9 _ e
 refine⟨(s.heap.push { cls:=.type "range",data:=.fields #[.int lo t,.int hi u,.int 1 v] }).objs.size,[(s.heap.push { cls:=.type "range",data:=.fields #[.int lo t,.int hi u,.int 1 v] }).objs.size],_,_,H,rfl,
  I1.kept (t':=tk) fun b o e=>g9 _ e,b2K _ lo (hi - lo).toNat,?_,fun b hb=>?_,q⟩
 ·have e1:lo+((0:Nat):Int) * 1=lo:=by simp
  have e2:(((hi - lo).toNat:Nat):Int) - ((0:Nat):Int)=Builtin.Range.rangeSize lo hi 1:=by rw[rangeSize_one];split <;> omega
  show IsRangeIter _ _ (lo+((0:Nat):Int) * 1) ((((hi - lo).toNat:Nat):Int) - ((0:Nat):Int)) 1
  rw[e1,e2]
  exact t9 _ rfl
 ·have e:b=(s.heap.push { cls:=.type "range",data:=.fields #[.int lo t,.int hi u,.int 1 v] }).objs.size:=by simpa using hb
  subst e
  exact I1.fpOk (d9 _) (I1.hok.fresh (d9 _))
def a0I(ta:TA):TI:=fun σ H R=>ta σ H fun vs H1=>∃j:Int,vs=[.int j] /\ -(2 ^ 62)<=j/\j<2 ^ 62/\R (Itr 0 j.toNat) H1
theorem b5a{a:Expr}{ta:TA}(hg:Gl X "range")(hm:X.mg "range" = none)(ha:PA X [a] ta)(hs:d8 [a] X.env=[(false,eval a X.env)]:=by rfl):PI X tg (.Call (.Name "range" p) [a] [] pos) (a0I ta):=by
 intro pins s σ H R I h
 refine Call_ (a6j I hg hm boot_range (V3 (thn (ha pos pins s σ H _ I h) fun us s1 ⟨vs,H1,I1,r1,q1⟩=>?_) hs rfl))
 obtain⟨j,e,q1,q2,q⟩:=q1
 subst e
 cases r1 with
 | cons r rr=>
  cases rr
  obtain⟨t,rfl⟩:=r
  exact call_range_1 (b6X I1 (by omega) (by omega) q1 q2 (by simpa using q))
def a0q(wi:TI)(g:TG)(tb:TS):TS:=fun D σ H=>wi σ H fun J H1=>∃W:Nat->Nat->St->Hp->Prop,(∃m,W 0 m σ H1)/\∀i m σ H,W i m σ H ->
 (J.stop i H/\D.nx σ H)\/(J.go i H/\∃N:St->Hp->Prop,(∀σ' H',N σ' H'->∃m',m'<m/\W (i+1) m' σ' H')/\∀x H',J.yld i H x H'->g x σ H' fun σ2 H2=>tb { D with nx:=N,ct:=N,bk:=D.nx } σ2 H2)
def a4C(fp:List Addr)(h:Heap):List (Addr×Obj):=fp.filterMap fun b=>(h.get? b).map fun o=>(b,o)
theorem a0u{fp:List Addr}{o:Obj}(hb:b∈fp)(e:h.get? b=some o):(b,o)∈a4C fp h:=a6N.mpr ⟨b,hb,by rw[e];rfl⟩
theorem b5k{fp:List Addr}{p:Addr×Obj}(hp:p∈a4C fp h):p.1∈fp/\h.get? p.1=some p.2:=by
 obtain⟨b,hb,e⟩:=a6N.mp hp
 cases q:h.get? b with
 | none=>rw[q]at e;cases e
 | some o=>
  rw[q]at e
  have e':(b,o)=p:=Option.some.inj e
  subst e'
  exact⟨hb,q⟩
theorem Inv.pinned{fp:List Addr}(I:Inv X pins σ H s)(hf:∀b∈fp,a4c X pins H b)(ho:∀b∈fp,∃o,s.heap.get? b=some o/\∀v,o.data≠.cell v):Inv X (pins++a4C fp s.heap) σ H s:=
 I.pins_of fun p hp=>(o8.mp hp).elim (fun z=>I.pin p (t6 _ z)) fun z=>by
  obtain⟨hb,e⟩:=b5k z
  obtain⟨f0,f1,f2,_⟩:=hf p.1 hb
  obtain⟨o,e',d⟩:=ho p.1 hb
  rw[e]at e';cases e'
  exact⟨e,f0,f1,f2,d⟩
theorem Inv.unpinned{pl:List (Addr×Obj)}(I:Inv X (pins++pl) σ H s):Inv X pins σ H s:=I.pins_of fun p hp=>I.pin p (t6 _ (C0 _ hp))
theorem b7i{iter:Expr}{body:List Stmt}{wi:TI}(hp:b1f (model X.prog X.w) X.A X.env X.xe)(hc:X.calm=true)(hi:PI X tg iter wi)(hg:PG X tg g)(hb:PSs X body tb)
  (hs:∀x,L1 iter X.env x=pure x:=by intro _;rfl):PS X (.For tg iter body [] pos) (a0q wi g tb):=by
 intro pins s σ H D I h
 refine wpAny_For (thn (hi pins s σ H _ I h) fun v s1 h1=>thn h1 fun itv s2 h2=>?_) hs
 obtain⟨it,fp,tn,J,H2,e,I2,T,st2,f2,W,⟨m0,w0⟩,turn⟩:=h2
 subst e
 have stat:∀ {H':Hp},(∀b∈fp,H' b=none)->∀b∈fp,a4c X pins H' b:=fun hn b hb=>⟨hn b hb,(f2 b hb).2⟩
 refine codeAny_forLoop_any (fun n s'=>∃i σ' H',Inv X pins σ' H' s'/\tn i s'.heap/\(∀b∈fp,H' b=none)/\W i n σ' H') ?_ m0 ⟨0,σ,H2,I2,st2,fun b hb=>(f2 b hb).1,w0⟩
 rintro n s3 ⟨i,σ3,H3,I3,st3,fr3,w3⟩
 rcases turn i n σ3 H3 w3 with ⟨stop,qn⟩ | ⟨go,N,hN,step⟩
 ·refine a0a hp (thn (T.done X rfl rfl rfl hc i pins s3 σ3 H3 X.xe I3 (stat fr3) st3 stop) fun r s4 ⟨hr,I4⟩=>?_)
  subst hr
  exact a7j ⟨σ3,H3,I4,qn⟩
 ·refine a0a hp (thn (T.item X rfl rfl rfl hc i pins s3 σ3 H3 X.xe I3 (stat fr3) st3 go) fun r s4 ⟨u,hr,h4⟩=>?_)
  subst hr
  refine a0a hp (thn h4 fun _ s5 ⟨x,H5,I5,r5,y5,st5,fr5⟩=>?_)
  have I5':=I5.pinned (stat fr5) (T.obj _ _ st5)
  refine a0a hp (thn (hg _ s5 σ3 H5 x u _ I5' r5 (step x H5 y5)) fun _ s6 ⟨σ6,H6,I6,q6⟩=>?_)
  refine a0a hp (thn (hb _ s6 σ6 H6 _ I6 q6) fun f s7 q7=>?_)
  have again:∀ {σ7:St} {H7:Hp},Inv X (pins++a4C fp s5.heap) σ7 H7 s7->N σ7 H7->∃m,m<n/\∃i σ' H',Inv X pins σ' H' s7/\tn i s7.heap/\(∀b∈fp,H' b=none)/\W i m σ' H':=fun {σ7 H7} I7 n7=>by
   obtain⟨m',hm,w7⟩:=hN σ7 H7 n7
   refine⟨m',hm,i+1,σ7,H7,I7.unpinned,T.keep _ _ _ st5 fun b hb o e=>(I7.pin (b,o) (t6 _ (t6 _ (a0u hb e)))).1,fun b hb=>?_,w7⟩
   obtain⟨o,e,d⟩:=T.obj _ _ st5 b hb
   exact(I7.pin (b,o) (t6 _ (t6 _ (a0u hb e)))).2.1
  cases f with
  | next=>obtain⟨σ7,H7,I7,n7⟩:=q7;exact again I7 n7
  | cont=>obtain⟨σ7,H7,I7,n7⟩:=q7;exact again I7 n7
  | brk=>obtain⟨σ7,H7,I7,q7⟩:=q7;exact⟨σ7,H7,I7.unpinned,q7⟩
  | ret v=>obtain⟨x7,σ7,H7,I7,r7,q7⟩:=q7;exact⟨x7,σ7,H7,I7.unpinned,r7,q7⟩
end
theorem a0i{K:Fg}{D:a6s}(Pv:Nat->St->Hp->Prop)(h0:Pv 0 σ H)(hl:∀i σ H,i<=xs.length->Pv i σ H->SqL K H a xs)
  (hs:∀i x σ H,xs[i]? = some x->Pv i σ H->g x σ H fun σ2 H2=>tb { D with nx:=Pv (i+1),ct:=Pv (i+1),bk:=D.nx } σ2 H2) (hd:∀σ H,Pv xs.length σ H->D.nx σ H) :
  ∃W:Nat->Nat->St->Hp->Prop,(∃m,W 0 m σ H)/\∀i m σ H,W i m σ H ->
   ((Itl K a).stop i H/\D.nx σ H)\/((Itl K a).go i H/\∃N:St->Hp->Prop,(∀σ' H',N σ' H'->∃m',m'<m/\W (i+1) m' σ' H')/\∀x H',(Itl K a).yld i H x H'->g x σ H' fun σ2 H2=>tb { D with nx:=N,ct:=N,bk:=D.nx } σ2 H2):=by
 refine⟨fun i m σ H=>m=xs.length - i/\i<=xs.length/\Pv i σ H,⟨xs.length,by simp,L9 _,h0⟩,?_⟩
 rintro i m σ H ⟨rfl,hi,p⟩
 have q:=hl i σ H hi p
 by_cases hlt:i<xs.length
 ·refine .inr ⟨⟨xs,xs[i],q,by simp[hlt]⟩,Pv (i+1),fun σ' H' p'=>⟨xs.length - (i+1),by omega,rfl,hlt,p'⟩,fun x H' y=>?_⟩
  obtain⟨e,y⟩:=y
  subst e
  exact hs i x σ _ (y xs q) p
 ·have e:i=xs.length:=by omega
  subst e
  exact .inl ⟨⟨xs,q,d9 _⟩,hd σ H p⟩
theorem V6{lo:Int}{n:Nat}{D:a6s}(Pv:Nat->St->Hp->Prop)(h0:Pv 0 σ H)
  (hs:∀i σ H,i<n->Pv i σ H->g (.int (lo+i)) σ H fun σ2 H2=>tb { D with nx:=Pv (i+1),ct:=Pv (i+1),bk:=D.nx } σ2 H2) (hd:∀σ H,Pv n σ H->D.nx σ H) :
  ∃W:Nat->Nat->St->Hp->Prop,(∃m,W 0 m σ H)/\∀i m σ H,W i m σ H ->
   ((Itr lo n).stop i H/\D.nx σ H)\/((Itr lo n).go i H/\∃N:St->Hp->Prop,(∀σ' H',N σ' H'->∃m',m'<m/\W (i+1) m' σ' H')/\∀x H',(Itr lo n).yld i H x H'->g x σ H' fun σ2 H2=>tb { D with nx:=N,ct:=N,bk:=D.nx } σ2 H2):=by
 refine⟨fun i m σ H=>m=n - i/\i<=n/\Pv i σ H,⟨n,by simp,L9 _,h0⟩,?_⟩
 rintro i m σ H ⟨rfl,hi,p⟩
 by_cases hlt:i<n
 ·refine .inr ⟨hlt,Pv (i+1),fun σ' H' p'=>⟨n - (i+1),by omega,rfl,hlt,p'⟩,fun x H' y=>?_⟩
  obtain⟨e,y⟩:=y
  subst e y
  exact hs i σ _ hlt p
 ·have e:i=n:=by omega
  subst e
  exact .inl ⟨d9 _,hd σ H p⟩
abbrev R2:=V->V->Hp->VK->Prop
def OpR(X:Cx)(f:Value->Value->Sem Value)(r:R2):Prop:=
 ∀(pins:List (Addr×Obj)) (s:g7) (σ:St) (H:Hp) (x y:V) (v u:Value) (Q:VK),Inv X pins σ H s->C7 x v->C7 y u->r x y H Q ->
  wpAny (model X.prog X.w) X.A (f v u) (EP X pins σ Q) X.xe s
def UnR(X:Cx)(f:Value->Sem Value)(r:V->Hp->VK->Prop):Prop:=
 ∀(pins:List (Addr×Obj)) (s:g7) (σ:St) (H:Hp) (x:V) (v:Value) (Q:VK),Inv X pins σ H s->C7 x v->r x H Q ->
  wpAny (model X.prog X.w) X.A (f v) (EP X pins σ Q) X.xe s
def U3(X:Cx)(f:Value)(r:List V->Hp->VK->Prop):Prop:=
 ∀(pins:List (Addr×Obj)) (s:g7) (σ:St) (H:Hp) (xs:List V) (us:List Value) (Q:VK),Inv X pins σ H s->E2 xs us->r xs H Q ->
  wpAny (model X.prog X.w) X.A (call f us) (EP X pins σ Q) X.xe s
def tOp(r:R2)(ta tb:TE):TE:=fun σ H Q=>ta σ H fun x H1=>tb σ H1 fun y H2=>r x y H2 Q
def rI(C:Int->Int->Prop)(g:Int->Int->V):R2:=fun x y H Q=>∃i j,x=.int i/\y=.int j/\C i j/\Q (g i j) H
def rI0(g:Int->Int->V):R2:=fun x y H Q=>∃i j,x=.int i/\y=.int j/\Q (g i j) H
section
variable {a b:Expr}{tb tc:TE}
theorem c3h(ha:PE X a ta)(hb:PE X b tb){R:V->V->Hp->Prop}(I:Inv X pins σ H s)
  (h:ta σ H fun x H1=>tb σ H1 fun y H2=>R x y H2) {Q:Value->g7->Prop} {f:Value->Value->Sem Value}
  (hf:∀v u s2 x y H2,Inv X pins σ H2 s2->C7 x v->C7 y u->R x y H2->wpAny (model X.prog X.w) X.A (f v u) Q X.xe s2) :
  wpAny (model X.prog X.w) X.A (eval a X.env) (fun v s₁=>wpAny (model X.prog X.w) X.A (eval b X.env) (fun u s₂=>wpAny (model X.prog X.w) X.A (f v u) Q X.xe s₂) X.xe s₁) X.xe s:=by
 refine thn (ha pins s σ H _ I h) fun v s1 ⟨x,H1,I1,r1,q1⟩=>?_
 refine thn (hb pins s1 σ H1 _ I1 q1) fun u s2 ⟨y,H2,I2,r2,q2⟩=>?_
 exact hf v u s2 x y H2 I2 r1 r2 q2
theorem c4q{op:a8x}{r:R2}(ho:OpR X (W2 op) r)(ha:PE X a ta)(hb:PE X b tb):PE X (.BinOp a op b pos) (tOp r ta tb):=by
 intro pins s σ H Q I h
 exact wpAny_BinOp (c3h ha hb I h fun v u s2 x y H2 I2 rx ry q=>ho pins s2 σ H2 x y v u Q I2 rx ry q)
theorem opI{f:Value->Value->Sem Value}{C:Int->Int->Prop}{g:Int->Int->Int}
  (rule:∀(i j:Int) (t u:Tok) (s:g7) (Q:Value->g7->Prop) (E:Value->g7->Prop),C i j->Q (.int (g i j) s.toks) { s with toks:=s.toks+1 }->wpAny (model X.prog X.w) X.A (f (.int i t) (.int j u)) Q E s) :
  OpR X f (rI C fun i j=>.int (g i j)):=by
 intro pins s σ H x y v u Q I rx ry h
 obtain⟨i,j,rfl,rfl,hc,q⟩:=h
 obtain⟨t,rfl⟩:=rx
 obtain⟨t',rfl⟩:=ry
 exact rule i j t t' s _ _ hc ⟨.int (g i j),H,I.tok _,⟨_,rfl⟩,q⟩
theorem c4A{f:Value->Value->Sem Value}{g:Int->Int->Int}
  (rule:∀(i j:Int) (t u:Tok) (s:g7) (Q:Value->g7->Prop) (E:Value->g7->Prop),Q (.int (g i j) s.toks) { s with toks:=s.toks+1 }->wpAny (model X.prog X.w) X.A (f (.int i t) (.int j u)) Q E s) :
  OpR X f (rI0 fun i j=>.int (g i j)):=by
 intro pins s σ H x y v u Q I rx ry h
 obtain⟨i,j,rfl,rfl,q⟩:=h
 obtain⟨t,rfl⟩:=rx
 obtain⟨t',rfl⟩:=ry
 exact rule i j t t' s _ _ ⟨.int (g i j),H,I.tok _,⟨_,rfl⟩,q⟩
theorem b9P{f:Value->Value->Sem Value}{g:Int->Int->Bool}
  (rule:∀(i j:Int) (t u:Tok) (s:g7) (Q:Value->g7->Prop) (E:Value->g7->Prop),Q (.bool (g i j)) s->wpAny (model X.prog X.w) X.A (f (.int i t) (.int j u)) Q E s) :
  OpR X f (rI0 fun i j=>.bl (g i j)):=by
 intro pins s σ H x y v u Q I rx ry h
 obtain⟨i,j,rfl,rfl,q⟩:=h
 obtain⟨t,rfl⟩:=rx
 obtain⟨t',rfl⟩:=ry
 exact rule i j t t' s _ _ ⟨.bl (g i j),H,I,rfl,q⟩
def b8n(i j:Int):Prop:=(-(2 ^ 64)<i/\i<2 ^ 64)\/(-(2 ^ 64)<j/\j<2 ^ 64)
theorem b8n.ok{i j:Int}(h:b8n i j):IntMulOk i j:=by
 rcases h with ⟨h1,h2⟩ | ⟨h1,h2⟩
 ·exact .of_left (intBits_le_64 h1 h2)
 ·exact .of_right (intBits_le_64 h1 h2)
theorem c2F:OpR X (W2 .Add) (rI0 fun i j=>.int (i+j)):=c4A fun _ _ _ _ _ _ _ q=>add_int q
theorem c2s:OpR X (W2 .Sub) (rI0 fun i j=>.int (i - j)):=c4A fun _ _ _ _ _ _ _ q=>sub_int q
theorem c2B:OpR X (W2 .Mult) (rI b8n fun i j=>.int (i * j)):=opI fun _ _ _ _ _ _ _ hc q=>mul_int q hc.ok
theorem c2C:OpR X (W2 .Mod) (rI (fun _ j=>0<j) fun i j=>.int (i % j)):=opI fun i j _ _ _ _ _ hc q=>by
 have h1:(0:Int)<j:=hc
 exact mod_int' (by omega) (by rw[Int.fmod_eq_emod_of_nonneg i (by omega)];exact q)
end
def a9S:V->V->Bool
 | .non,.non=>true | .non,.int _=>true | .int _,.non=>true | .non,.bl _=>true | .bl _,.non=>true | .non,.str _=>true | .str _,.non=>true
 | .int _,.int _=>true | .bl _,.bl _=>true | .str _,.str _=>true | .byt _,.byt _=>true
 | .int _,.str _=>true | .str _,.int _=>true | .bl _,.str _=>true | .str _,.bl _=>true
 | _,_=>false
def rEq:R2:=fun x y H Q=>a9S x y=true/\Q (.bl (decide (x=y))) H
def rNe:R2:=fun x y H Q=>a9S x y=true/\Q (.bl (!decide (x=y))) H
theorem b4m{i j:Int}:decide (V.int i=V.int j)=(i == j):=by
 rw[L7]
 simp
theorem b7X{i j:Bool}:decide (V.bl i=V.bl j)=(i == j):=by
 rw[L7]
 simp
theorem b4l{i j:Str}:decide (V.str i=V.str j)=(i == j):=by
 rw[L7]
 simp
theorem b4n{i j:Array UInt8}:decide (V.byt i=V.byt j)=(i.toList == j.toList):=by
 rw[L7]
 cases i
 cases j
 simp
section
variable {a b:Expr}{tb tc:TE}
theorem F8{Q:VK}{k k':Bool}(I:Inv X pins σ H s)(q:Q (.bl k) H)(e:k=k'):EP X pins σ Q (.bool k') s:=by
 subst e
 exact⟨.bl k,H,I,rfl,q⟩
theorem c4z:OpR X (o6 .Eq) rEq:=by
 intro pins s σ H x y v u Q I rx ry h
 obtain⟨hs,q⟩:=h
 cases x with
 | non=>
  cases rx
  cases y with
  | non=>cases ry;exact PySem.EqNone.eq_none_none (F8 I q (by simp))
  | bl j=>cases ry;exact PySem.EqNone.eq_none_bool (F8 I q (by simp))
  | int j=>obtain⟨t',rfl⟩:=ry;exact PySem.EqNone.eq_none_int (F8 I q (by simp))
  | str j=>obtain⟨t',rfl⟩:=ry;exact PySem.EqNone.eq_none_str (F8 I q (by simp))
  | _=>exact absurd (show false=true from hs) l3
 | bl i=>
  cases rx
  cases y with
  | non=>cases ry;exact PySem.EqNone.eq_bool_none (F8 I q (by simp))
  | bl j=>cases ry;exact eq_bool (F8 I q b7X)
  | str j=>obtain⟨t',rfl⟩:=ry;exact PySem.EqMixed.eq_bool_str (F8 I q (by simp))
  | _=>exact absurd (show false=true from hs) l3
 | int i=>
  obtain⟨t,rfl⟩:=rx
  cases y with
  | non=>cases ry;exact PySem.EqNone.eq_int_none (F8 I q (by simp))
  | int j=>obtain⟨t',rfl⟩:=ry;exact eq_int (F8 I q b4m)
  | str j=>obtain⟨t',rfl⟩:=ry;exact PySem.EqMixed.eq_int_str (F8 I q (by simp))
  | _=>exact absurd (show false=true from hs) l3
 | str i=>
  obtain⟨t,rfl⟩:=rx
  cases y with
  | non=>cases ry;exact PySem.EqNone.eq_str_none (F8 I q (by simp))
  | bl j=>cases ry;exact PySem.EqMixed.eq_str_bool (F8 I q (by simp))
  | int j=>obtain⟨t',rfl⟩:=ry;exact PySem.EqMixed.eq_str_int (F8 I q (by simp))
  | str j=>obtain⟨t',rfl⟩:=ry;exact eq_str (F8 I q b4l)
  | _=>exact absurd (show false=true from hs) l3
 | byt i=>
  obtain⟨t,rfl⟩:=rx
  cases y with
  | byt j=>obtain⟨t',rfl⟩:=ry;exact PySem.W.eq_bytes (F8 I q b4n)
  | _=>exact absurd (show false=true from hs) l3
 | _=>cases y <;> exact absurd (show false=true from hs) l3
theorem b4g:OpR X (o6 .NotEq) rNe:=by
 intro pins s σ H x y v u Q I rx ry h
 obtain⟨hs,q⟩:=h
 cases x with
 | non=>
  cases rx
  cases y with
  | non=>cases ry;exact PySem.EqNone.ne_none_none (F8 I q (by simp))
  | bl j=>cases ry;exact PySem.EqNone.ne_none_bool (F8 I q (by simp))
  | int j=>obtain⟨t',rfl⟩:=ry;exact PySem.EqNone.ne_none_int (F8 I q (by simp))
  | str j=>obtain⟨t',rfl⟩:=ry;exact PySem.EqNone.ne_none_str (F8 I q (by simp))
  | _=>exact absurd (show false=true from hs) l3
 | bl i=>
  cases rx
  cases y with
  | non=>cases ry;exact PySem.EqNone.ne_bool_none (F8 I q (by simp))
  | bl j=>cases ry;exact ne_bool (F8 I q (congrArg not b7X))
  | str j=>obtain⟨t',rfl⟩:=ry;exact PySem.EqMixed.ne_bool_str (F8 I q (by simp))
  | _=>exact absurd (show false=true from hs) l3
 | int i=>
  obtain⟨t,rfl⟩:=rx
  cases y with
  | non=>cases ry;exact PySem.EqNone.ne_int_none (F8 I q (by simp))
  | int j=>obtain⟨t',rfl⟩:=ry;exact ne_int (F8 I q (congrArg not b4m))
  | str j=>obtain⟨t',rfl⟩:=ry;exact PySem.EqMixed.ne_int_str (F8 I q (by simp))
  | _=>exact absurd (show false=true from hs) l3
 | str i=>
  obtain⟨t,rfl⟩:=rx
  cases y with
  | non=>cases ry;exact PySem.EqNone.ne_str_none (F8 I q (by simp))
  | bl j=>cases ry;exact PySem.EqMixed.ne_str_bool (F8 I q (by simp))
  | int j=>obtain⟨t',rfl⟩:=ry;exact PySem.EqMixed.ne_str_int (F8 I q (by simp))
  | str j=>obtain⟨t',rfl⟩:=ry;exact ne_str (F8 I q (congrArg not b4l))
  | _=>exact absurd (show false=true from hs) l3
 | byt i=>
  obtain⟨t,rfl⟩:=rx
  cases y with
  | byt j=>obtain⟨t',rfl⟩:=ry;exact PySem.W.ne_bytes (F8 I q (congrArg not b4n))
  | _=>exact absurd (show false=true from hs) l3
 | _=>cases y <;> exact absurd (show false=true from hs) l3
theorem c4v:OpR X (o6 .Lt) (rI0 fun i j=>.bl (decide (i<j))):=b9P fun _ _ _ _ _ _ _ q=>lt_int q
theorem c4w:OpR X (o6 .LtE) (rI0 fun i j=>.bl (decide (i<=j))):=b9P fun _ _ _ _ _ _ _ q=>le_int q
theorem c4x:OpR X (o6 .Gt) (rI0 fun i j=>.bl (decide (j<i))):=b9P fun _ _ _ _ _ _ _ q=>gt_int q
theorem c4y:OpR X (o6 .GtE) (rI0 fun i j=>.bl (decide (j<=i))):=b9P fun _ _ _ _ _ _ _ q=>ge_int q
theorem b5e:OpR X (o6 .In) (fun x y H Q=>∃i j,x=.str i/\y=.str j/\Q (.bl (!(Builtin.Str.occurrences j i 0 j.length 1).isEmpty)) H):=by
 intro pins s σ H x y v u Q I rx ry h
 obtain⟨i,j,rfl,rfl,q⟩:=h
 obtain⟨t,rfl⟩:=rx
 obtain⟨t',rfl⟩:=ry
 exact in_str (F8 I q rfl)
theorem c2D:OpR X (o6 .Is) (fun x y H Q=>y=.non/\Q (.bl (decide (x=.non))) H):=by
 intro pins s σ H x y v u Q I rx ry h
 obtain⟨rfl,q⟩:=h
 cases ry
 refine is_none_gen (F8 I q ?_)
 cases x <;> first
  | (cases rx;rfl)
  | (obtain⟨t,rfl⟩:=rx;rfl)
theorem b9N:OpR X (o6 .IsNot) (fun x y H Q=>y=.non/\Q (.bl (!decide (x=.non))) H):=by
 intro pins s σ H x y v u Q I rx ry h
 obtain⟨rfl,q⟩:=h
 cases ry
 refine isnot_none_gen (F8 I q ?_)
 cases x <;> first
  | (cases rx;rfl)
  | (obtain⟨t,rfl⟩:=rx;rfl)
theorem OpR.or{f:Value->Value->Sem Value}{r r':R2}(h:OpR X f r)(h':OpR X f r'):OpR X f (fun x y H Q=>r x y H Q\/r' x y H Q):=by
 intro pins s σ H x y v u Q I rx ry q
 rcases q with q | q
 ·exact h pins s σ H x y v u Q I rx ry q
 ·exact h' pins s σ H x y v u Q I rx ry q
theorem a3C(b:Expr){op:CmpOp}(h:op≠.In:=by decide)(h2:op≠.NotIn:=by decide):M7 op b=false:=by
 have e1:(op == CmpOp.In)=false:=by cases op <;> first | rfl | exact absurd rfl h
 have e2:(op == CmpOp.NotIn)=false:=by cases op <;> first | rfl | exact absurd rfl h2
 cases b <;> simp[M7,e1,e2]
theorem b9y{op:CmpOp}{r:R2}(ho:OpR X (o6 op) r)(ha:PE X a ta)(hb:PE X b tb)(hm:M7 op b=false):PE X (.Compare a [op] [b] pos) (tOp r ta tb):=by
 intro pins s σ H Q I h
 exact wpAny_Compare1 (c3h ha hb I h fun v u s2 x y H2 I2 rx ry q=>ho pins s2 σ H2 x y v u Q I2 rx ry q) hm
def C9(t:TE):TT:=fun σ H Q=>t σ H fun x H'=>∃k,x=.bl k/\Q k H'
theorem b9e{op:CmpOp}{r:R2}(ho:OpR X (o6 op) r)(ha:PE X a ta)(hb:PE X b tb)(hm:M7 op b=false):PT X (.Compare a [op] [b] pos) (C9 (tOp r ta tb)):=by
 intro pins s σ H Q I h
 refine c3F (thn (ha pins s σ H _ I h) fun v s1 ⟨x,H1,I1,r1,q1⟩=>thn (hb pins s1 σ H1 _ I1 q1) fun u s2 ⟨y,H2,I2,r2,q2⟩=>
  thn (ho pins s2 σ H2 x y v u _ I2 r1 r2 q2) fun c s3 ⟨z,H3,I3,r3,k,e,q3⟩=>?_) hm
 subst e
 cases r3
 exact I0 ⟨H3,I3,q3⟩
def a3s(r r':R2)(ta tb tc:TE):TE:=fun σ H Q=>ta σ H fun x H1=>tb σ H1 fun y H2=>r x y H2 fun z H3=>∃k,z=.bl k /\
 (if k=true then tc σ H3 fun w' H4=>r' y w' H4 Q else Q (.bl false) H3)
theorem b7t{op op':CmpOp}{r r':R2}(ho:OpR X (o6 op) r)(ho':OpR X (o6 op') r')(ha:PE X a ta)(hb:PE X b tb)(hc:PE X c tc)
  (hm:c3J [op,op'] [b,c]=false:=by with_unfolding_all rfl):PE X (.Compare a [op,op'] [b,c] pos) (a3s r r' ta tb tc):=by
 intro pins s σ H Q I h
 refine Compare_chain (thn (ha pins s σ H _ I h) fun v s1 ⟨x,H1,I1,r1,q1⟩=>chain_link (thn (hb pins s1 σ H1 _ I1 q1) fun u s2 ⟨y,H2,I2,r2,q2⟩=>
  thn (ho pins s2 σ H2 x y v u _ I2 r1 r2 q2) fun d s3 ⟨z,H3,I3,r3,k,e,q3⟩=>?_)) hm
 subst e
 cases r3
 refine I0 ?_
 cases k with
 | false=>exact ite_ff ⟨.bl false,H3,I3,rfl,q3⟩
 | true=>exact ite_tt (chain_last (thn (hc pins s3 σ H3 _ I3 q3) fun w' s4 ⟨z',H4,I4,r4,q4⟩=>ho' pins s4 σ H4 y z' u w' Q I4 r2 r4 q4))
theorem b7e{op op':CmpOp}{r r':R2}(ho:OpR X (o6 op) r)(ho':OpR X (o6 op') r')(ha:PE X a ta)(hb:PE X b tb)(hc:PE X c tc)
  (hm:c3J [op,op'] [b,c]=false:=by with_unfolding_all rfl):PT X (.Compare a [op,op'] [b,c] pos) (C9 (a3s r r' ta tb tc)):=by
 intro pins s σ H Q I h
 refine isTrue_chain (thn (ha pins s σ H _ I h) fun v s1 ⟨x,H1,I1,r1,q1⟩=>test_link (thn (hb pins s1 σ H1 _ I1 q1) fun u s2 ⟨y,H2,I2,r2,q2⟩=>
  thn (ho pins s2 σ H2 x y v u _ I2 r1 r2 q2) fun d s3 ⟨z,H3,I3,r3,k,e,q3⟩=>?_)) hm
 subst e
 cases r3
 refine I0 ?_
 cases k with
 | false=>
  obtain⟨k',e',q'⟩:=q3
  cases e'
  exact ite_ff ⟨H3,I3,q'⟩
 | true=>
  refine ite_tt (test_last (thn (hc pins s3 σ H3 _ I3 q3) fun w' s4 ⟨z',H4,I4,r4,q4⟩=>thn (ho' pins s4 σ H4 y z' u w' _ I4 r2 r4 q4) fun d' s5 ⟨z2,H5,I5,r5,k2,e2,q5⟩=>?_))
  subst e2
  cases r5
  exact I0 ⟨H5,I5,q5⟩
theorem a4L:(j9:Nat)<2 ^ 63:=by rw[sizeLine_eq];decide
theorem b3r:OpR X (W2 .Add) (fun x y H Q=>∃i j,x=.str i/\y=.str j/\i.length+j.length<=j9/\Q (.str (i++j)) H):=by
 intro pins s σ H x y v u Q I rx ry h
 obtain⟨i,j,rfl,rfl,hz,q⟩:=h
 obtain⟨t,rfl⟩:=rx
 obtain⟨t',rfl⟩:=ry
 exact add_str (fun t' tk=>⟨.str (i++j),H,I.tok _,⟨_,rfl⟩,q⟩) hz
theorem a4k{x:V}(r:E2 [x] us):∃u,us=[u]/\C7 x u:=by
 cases r with
 | cons r1 r2=>cases r2;exact⟨_,rfl,r1⟩
theorem c0L{x:V}(r:E2 [x,y] us):∃u w',us=[u,w']/\C7 x u/\C7 y w':=by
 cases r with
 | cons r1 r2=>
  cases r2 with
  | cons r3 r4=>cases r4;exact⟨_,_,rfl,r1,r3⟩
theorem b8d:U3 X (.builtin "abs") (fun xs H Q=>∃i,xs=[.int i]/\Q (.int (if i<0 then -i else i)) H):=by
 intro pins s σ H xs us Q I r h
 obtain⟨i,rfl,q⟩:=h
 obtain⟨u,rfl,t,rfl⟩:=a4k r
 exact call_abs_int fun u tk=>⟨.int (if i<0 then -i else i),H,I.tok _,⟨_,rfl⟩,q⟩
theorem b5N(hc:X.calm=true):U3 X (.builtin "min") (fun xs H Q=>∃i j,xs=[.int i,.int j]/\Q (.int (if j<i then j else i)) H):=by
 intro pins s σ H xs us Q I r h
 obtain⟨i,j,rfl,q⟩:=h
 obtain⟨u,w',rfl,⟨t,rfl⟩,⟨t',rfl⟩⟩:=c0L r
 refine min_two_ints (I.ok.hd hc) fun h' tk k=>⟨_,H,I.kept k,?_,q⟩
 by_cases hj:j<i
 ·rw[if_pos hj,if_pos hj];exact⟨_,rfl⟩
 ·rw[if_neg hj,if_neg hj];exact⟨_,rfl⟩
end
structure b3Q(h:Heap)(x dx C:Addr)(mA:Str->Option Value):Prop where
 obj:h.get? x=some (R8 C dx)
 ns:h.Ns1 dx mA
 ne:dx≠x
theorem b5p{mA:Str->Option Value}(n:h.Ns1 dx mA):∃od,h.get? dx=some od/\∀name,a4e name od=some (mA name):=by
 obtain⟨o,es,ep,ho,hd,hk,_,hm⟩:=n
 refine⟨o,ho,fun name=>?_⟩
 have e:=hm name
 unfold nsFind findBy at e
 rw[<-Array.find?_toList]at e
 unfold a4e
 rw[hd]
 dsimp only
 split
 ·rename_i y q
  rw[q]at e
  exact congrArg some e
 ·rename_i q
  rw[q]at e
  have a:es.toList.any (·.refKey)=false:=by
   rw[List.any_eq_false]
   intro y hy
   obtain⟨z,t,hkey⟩:=hk y (Array.mem_toList_iff.mp hy)
   simp[DictEntry.refKey,hkey]
  have a':¬es.toList.any (·.refKey)=true:=by rw[a];exact l3
  rw[if_neg a']
  exact congrArg some e
theorem b3Q.look{x:Addr}{mA:Str->Option Value}(I:b3Q h x dx C mA):∃od,PySem.W.InstAt h x (R8 C dx) C (some od)/\∀name,a4e name od=some (mA name):=
 let⟨od,ho,hl⟩:=b5p I.ns
 ⟨od,⟨I.obj,rfl,rfl,ho⟩,hl⟩
section
variable {prog:v8}{A:G8}{E:Value->g7->Prop}{K:Fg}{x:Addr}{mA:Str->Option Value}{name:Str}{v:Value}
theorem c0k{expr:Bool}(X:K.In s.heap)(I:b3Q s.heap x dx C mA)(hg:a0J K C name=true)(hh:a1V K C=true)
  (ha:C6 K (.ref C) name=some none) (hv:mA name=some v) (hv':b8r v=true) (h:Q v { s with toks:=s.toks+1 }) :
  wpAny (model prog w) A (getAttr (.ref x) name expr) Q E s:=by
 obtain⟨od,J,hl⟩:=I.look
 exact PySem.W.get_value X J (a4R hg).1 (PySem.W.findObj_own hh ha rfl (by rw[hl,hv])) hv' h
theorem b7S{pl:Sem Bool}{Q:Value×List Value->g7->Prop}(X:K.In s.heap)(I:b3Q s.heap x dx C mA)(hg:a0J K C name=true)
  (hf:C6 K (.ref C) name=some (some (.ref f))) (ht:a6w K (.ref f)=true) (hv:mA name=none) (h:Q (.ref f,[.ref x]) s) :
  wpAny (model prog w) A (b6f (.ref x) name pl) Q E s:=by
 obtain⟨od,J,hl⟩:=I.look
 exact PySem.W.method_fn X J (a4R hg).1 (a4R hg).2 hf (beq_iff_eq.mp ht) (by show(a4e name od).map (·.isSome)=some false;rw[hl,hv];rfl) h
theorem b8K{ns:List Str}{Q:Unit->g7->Prop}(X:K.In s.heap)(I:b3Q s.heap x dx C mA)
  (hs:C6 K (.ref C) "__setattr__" = some (some (.builtin "object.__setattr__"))) (hp:a6u K C=true) (ht:a8t K C name=some none) (hh:a1V K C=true)
  (hw:PySem.Within mA ns) (hsz:ns.length<=j9)
  (h:∀h',b3Q h' x dx C (fun y=>if y=name then some v else mA y)->Heap.SameBut dx s.heap h'->Q () { s with heap:=h',toks:=s.toks+2 }) :
  wpAny (model prog w) A (setAttr (.ref x) name v) Q E s:=by
 obtain⟨od,J,hl⟩:=I.look
 refine PySem.W.set_plain X J hs (PySem.W.osa_open (s:={ s with toks:=s.toks+1 }) (r:=none) X J hp ht fun b=>?_)
 obtain⟨cd,hc,hd'⟩:=PySem.W.any_some hh
 have hx:s.heap.get? x=some ⟨.ref C,some dx,.plain,#[]⟩:=I.obj
 refine c5 (l5 (c5 (c5 (wpAny_loadPart hx (c5 (PySem.W.Looks.here (s:={ s with toks:=s.toks+1 }) (PySem.W.looks_clsIn X hc) ?_))))))
 rw[hd']
 refine l5 (a:=some dx) (c5 (l5 (c5 ?_)))
 refine wpAny_nsSet1 (s:={ s with toks:=s.toks+1 }) I.ns fun h' hn2 hs2=>?_
 obtain⟨oD,esD,epD,hoD,hdD,hcD⟩:=hn2.count (PySem.Within.cons name v hw)
 refine c5 (wpAny_lookBehind hoD (by rw[hdD];exact pastItsLine_dict (C2 hcD (by rw[v7];omega))) ?_)
 exact l5 (h _ ⟨(hs2.2 _ (Ne.symm I.ne)).trans I.obj,hn2,I.ne⟩ hs2)
theorem b7I{R:c3K->g7->Prop}{vs:List Value}{kw:List (Str×Value)}(X:K.In s.heap)(hm:a3h K C=true)
  (hi:C6 K (.ref C) "__init__" = some (some (.ref f))) (hf:PySem.W.typeIn K (.ref f)=some (.type "function"))
  (h:a5J (model prog w) (A.under (.builtin "type.__call__" ⟨.ref C::vs,kw⟩)) (.call (.ref f) ⟨.ref (s.heap.objs.size+1)::vs,kw⟩) (PySem.W.InitBack (s.heap.objs.size+1) R)
   { s with heap:=(s.heap.push L0).push (R8 C s.heap.objs.size) }) :
  a5J (model prog w) A (.call (.ref C) ⟨vs,kw⟩) R s:=by
 obtain⟨hh,g,d,t,os⟩:=s
 exact PySem.W.make_core (PySem.W.makes_of X hm) (PySem.W.looks_findIn X hi) (fun self=>PySem.W.bind_fn X self hf) (.inl rfl) h
end
def a1y(f:Str)(v:V):List (Str×V)->List (Str×V)
 | []=>[(f,v)]
 | (g,x)::r=>if g=f then (g,v)::r else (g,x)::a1y f v r
theorem a6F(f g:Str)(v:V):∀fs:List (Str×V),(a1y f v fs).lookup g=if g=f then some v else fs.lookup g
 | []=>by
  show a1g g [(f,v)]=_
  by_cases h:g=f
  ·have hb:(g == f)=true:=beq_iff_eq.mpr h
   simp only[a1g,hb,if_pos h]
  ·have hb:(g == f)=false:=beq_eq_false_iff_ne.mpr h
   simp only[a1g,hb,if_neg h]
 | (k,x)::r=>by
  have ih:=a6F f g v r
  rw[show a1y f v ((k,x)::r)=(if k=f then (k,v)::r else (k,x)::a1y f v r)from rfl]
  by_cases hk:k=f
  ·rw[if_pos hk]
   by_cases h:g=k
   ·have hb:(g == k)=true:=beq_iff_eq.mpr h
    simp only[a1g,hb,if_pos (h.trans hk)]
   ·have hb:(g == k)=false:=beq_eq_false_iff_ne.mpr h
    simp only[a1g,hb,if_neg (fun e:g=f=>h (e.trans hk.symm))]
  ·rw[if_neg hk]
   by_cases h:g=k
   ·have hb:(g == k)=true:=beq_iff_eq.mpr h
    simp only[a1g,hb,if_neg (fun e:g=f=>hk (h.symm.trans e))]
   ·have hb:(g == k)=false:=beq_eq_false_iff_ne.mpr h
    simp only[a1g,hb]
    exact ih
theorem a6l(f:Str)(v:V):∀fs:List (Str×V),f∈(a1y f v fs).map (·.1)/\∀g,g∈fs.map (·.1)->g∈(a1y f v fs).map (·.1)
 | []=>⟨by simp[a1y],fun g h=>by simp at h⟩
 | (k,x)::r=>by
  obtain⟨i1,i2⟩:=a6l f v r
  rw[show a1y f v ((k,x)::r)=(if k=f then (k,v)::r else (k,x)::a1y f v r)from rfl]
  by_cases hk:k=f
  ·rw[if_pos hk]
   subst hk
   exact⟨by simp,fun g h=>by simpa using h⟩
  ·rw[if_neg hk]
   refine⟨?_,fun g h=>?_⟩
   ·rw[F7]
    exact C4 _ i1
   ·rw[F7]at h ⊢
    rcases c8.mp h with e | e
    ·exact c8.mpr (.inl e)
    ·exact C4 _ (i2 g e)
theorem a6G(f:Str)(v:V):∀fs:List (Str×V),(a1y f v fs).length<=fs.length+1
 | []=>by simp[a1y]
 | (k,x)::r=>by
  have ih:=a6G f v r
  rw[show a1y f v ((k,x)::r)=(if k=f then (k,v)::r else (k,x)::a1y f v r)from rfl]
  by_cases hk:k=f
  ·rw[if_pos hk,v7,v7];omega
  ·rw[if_neg hk,v7,v7];omega
theorem a3g.some_of{o:Option Value}(r:a3g (some v) o):∃u,o=some u/\C7 v u:=by
 cases o with
 | none=>exact(show False from r).elim
 | some u=>exact⟨u,rfl,r⟩
theorem a3g.none_of{o:Option Value}(r:a3g none o):o=none:=by
 cases o with
 | none=>rfl
 | some u=>exact(show False from r).elim
theorem b5y(r:C7 v u):b8r u=true:=by
 cases v with
 | non=>cases (show u=Value.none from r);rfl
 | bl b=>cases (show u=Value.bool b from r);rfl
 | int i=>obtain⟨t,e⟩:=(show ∃t,u=Value.int i t from r);cases e;rfl
 | str x=>obtain⟨t,e⟩:=(show ∃t,u=Value.str x t from r);cases e;rfl
 | byt b=>obtain⟨t,e⟩:=(show ∃t,u=Value.bytes b t from r);cases e;rfl
 | flt b=>obtain⟨t,e⟩:=(show ∃t,u=Value.float b t from r);cases e;rfl
 | ref a=>cases (show u=Value.ref a from r);rfl
 | ty n=>cases (show u=Value.type n from r);rfl
section
variable {P:v8}{fs fs':List (Str×V)}
theorem a7d(hok:HOk P w H h)(e:H a=some (.ins C dx fs)):∃mA,b3Q h a dx C mA/\(∀f,a3g (fs.lookup f) (mA f))/\PySem.Within mA (fs.map (·.1))/\fs.length<=1000/\H dx=some (.own a):=by
 obtain⟨d,z,ne,ob,mA,n,r,q⟩:=(show R3 P w H h a (.ins C dx fs)from hok a _ e)
 exact⟨mA,⟨ob,n,ne⟩,r,q,z,d⟩
end
structure Cls(K:Fg)(C:Addr):Prop where
 pg:a0J K C Str.empty=true
 hd:a1V K C=true
 po:a6u K C=true
 sa:C6 K (.ref C) "__setattr__" = some (some (.builtin "object.__setattr__"))
theorem Cls.get{K:Fg}(c:Cls K C)(f:Str):a0J K C f=true:=c.pg
def a1w(K:Fg)(C:Addr)(f:Str):Prop:=C6 K (.ref C) f=some none
theorem a1w.taker{K:Fg}{f:Str}(n:a1w K C f):a8t K C f=some none:=by
 unfold a8t
 rw[show C6 K (.ref C) f=some none from n]
 rfl
structure Con(K:Fg)(C:Addr)(f:Str)(v:V)(u:Value):Prop where
 at_:C6 K (.ref C) f=some (some u)
 rel:C7 v u
 get:a6t K u "__get__" = some none
 cp:PySem.W.copiedNames.contains f=false
structure c3o(K:Fg)(C:Addr)(m:Str)(f:Addr):Prop where
 at_:C6 K (.ref C) m=some (some (.ref f))
 fn:a6w K (.ref f)=true
 kp:P7 K (.ref f)=true
section
variable {fs:List (Str×V)}{f:Str}{A:G8}{E:Value->g7->Prop}
theorem b3G{b:Bool}(I:Inv X pins σ H s)(e:H a=some (.ins C dx fs))(c:Cls X.K C)(n:a1w X.K C f)(l:fs.lookup f=some v)
  (h:∀u s',Inv X pins σ H s'->C7 v u->Q u s'):wpAny (model X.prog X.w) A (getAttr (.ref a) f b) Q E s:=by
 obtain⟨mA,O,r,_,_,_⟩:=a7d I.hok e
 obtain⟨u,hu,ru⟩:=a3g.some_of (v:=v) (o:=mA f) (by rw[<-l];exact r f)
 exact c0k I.kIn O (c.get f) c.hd n hu (b5y ru) (h u _ (I.tok _) ru)
theorem b3F{m:Str}{g:Addr}{pl:Sem Bool}{Q:Value×List Value->g7->Prop}(I:Inv X pins σ H s)(e:H a=some (.ins C dx fs))(c:Cls X.K C)(k:c3o X.K C m g)(l:fs.lookup m=none)
  (h:Q (.ref g,[.ref a]) s):wpAny (model X.prog X.w) A (b6f (.ref a) m pl) Q E s:=by
 obtain⟨mA,O,r,_,_,_⟩:=a7d I.hok e
 have hn:mA m=none:=a3g.none_of (by rw[<-l];exact r m)
 exact b7S I.kIn O (c.get m) k.at_ k.fn hn h
theorem b2S{Q:Unit->g7->Prop}(I:Inv X pins σ H s)(e:H a=some (.ins C dx fs))(c:Cls X.K C)(n:a1w X.K C f)(hl:fs.length<1000)(ry:C7 y u)
  (h:∀s',Inv X pins σ (upd H a (.ins C dx (a1y f y fs))) s'->Q () s'):wpAny (model X.prog X.w) A (setAttr (.ref a) f u) Q E s:=by
 obtain⟨mA,O,r,wi,_,ho⟩:=a7d I.hok e
 have hz:(fs.map (·.1)).length<=j9:=by rw[a8,sizeLine_eq];omega
 refine b8K I.kIn O c.sa c.po n.taker c.hd wi hz fun h' O' sb=>h _ ?_
 have hd:∃o,h'.get? dx=some o:=let⟨o,_,_,e',_⟩:=O'.ns; ⟨o,e'⟩
 refine I.write (x:=a) (e:=dx) (by rw[e];exact True.intro) (.inr ho) (fun b q hb z=>(sb.2 b hb).trans z) hd ?_
 refine⟨by rw[c9 O.ne];exact ho,?_,O.ne,O'.obj,_,O'.ns,fun g=>?_,fun g hg=>?_⟩
 ·have:=a6G f y fs;omega
 ·show a3g ((a1y f y fs).lookup g) (if g=f then some u else mA g)
  rw[a6F]
  by_cases q:g=f
  ·rw[if_pos q,if_pos q];exact ry
  ·rw[if_neg q,if_neg q];exact r g
 ·by_cases q:g=f
  ·rw[q];exact(a6l f y fs).1
  ·refine(a6l f y fs).2 g (wi g fun z=>hg ?_)
   show(if g=f then some u else mA g)=none
   rw[if_neg q];exact z
theorem Inv.made(I:Inv X pins σ H s):Inv X pins σ (upd (upd H s.heap.objs.size (.own (s.heap.objs.size+1))) (s.heap.objs.size+1) (.ins C s.heap.objs.size []))
  { s with heap:=(s.heap.push L0).push (R8 C s.heap.objs.size) }:=by
 have e1:(s.heap.push L0).get? s.heap.objs.size=some L0:=t9 s.heap rfl
 have e2:((s.heap.push L0).push (R8 C s.heap.objs.size)).get? (s.heap.objs.size+1)=some (R8 C s.heap.objs.size):=by
  have:=t9 (s.heap.push L0) (o:=R8 C s.heap.objs.size) rfl
  rwa [c3C]at this
 have e3:(s.heap.push L0).Ns s.heap.objs.size (fun _=>none):=⟨L0,#[],_,e1,rfl,(fun e he=>absurd he (by simp)),fun _=>rfl⟩
 have I1:=I.laid (a:=s.heap.objs.size) (o:=.own (s.heap.objs.size+1)) (h':=s.heap.push L0) (t':=s.toks) (fun b u q=>g9 _ q) (d9 _) ⟨_,e1⟩
 refine I1.laid (a:=s.heap.objs.size+1) (o:=.ins C s.heap.objs.size []) (t':=s.toks) (fun b u q=>g9 _ q) (Nat.le_of_eq (c3C _ _)) ?_
 have ne:s.heap.objs.size≠s.heap.objs.size+1:=u5 (c3v _)
 refine⟨by rw[c9 ne,c6],L9 _,ne,e2,fun _=>none,(Heap.Ns1.of_empty e3).at fun o q=>g9 _ q,fun _=>True.intro,fun y hy=>absurd rfl hy⟩
theorem c0u{prog:v8}{env:Env}(hb:V1 e f env (eval e env)=eval e env)
  (h:wpAny (model prog w) A (eval e env) (fun o s₁=>wpAny (model prog w) A (getAttr o f true) Q E s₁) E s):wpAny (model prog w) A (eval (.Attribute e f pos) env) Q E s:=
 Attribute_any_ h (by rw[arm_eval_Attribute,hb])
end
def a5Q(K:Fg)(ta:TE)(f:Str):TE:=fun σ H Q=>ta σ H fun x H1=>∃a C dx fs v,x=.ref a/\H1 a=some (.ins C dx fs)/\Cls K C/\a1w K C f/\fs.lookup f=some v/\Q v H1
def b4W(K:Fg)(ta tv:TE)(f:Str):TS:=fun D σ H=>tv σ H fun y H1=>ta σ H1 fun x H2=>∃a C dx fs,x=.ref a/\H2 a=some (.ins C dx fs)/\Cls K C/\a1w K C f/\fs.length<1000 /\
 D.nx σ (upd H2 a (.ins C dx (a1y f y fs)))
section
variable {o value:Expr}{f:Str}{tpos:Pos}{tv:TE}
theorem c2n(he:PE X e ta)(hb:V1 e f X.env (eval e X.env)=eval e X.env):PE X (.Attribute e f pos) (a5Q X.K ta f):=by
 intro pins s σ H Q I h
 refine c0u hb (thn (he pins s σ H _ I h) fun u s1 ⟨x,H1,I1,rx,a,C,dx,fs,v,ex,ea,c,n,l,q⟩=>?_)
 subst ex
 obtain rfl:u=Value.ref a:=rx
 exact b3G I1 ea c n l fun u' s2 I2 ru=>⟨v,H1,I2,ru,q⟩
theorem c1X(ha:PE X o ta)(hv:PE X value tv)(hs:a1i value (some (.Attribute o f pos')) pos.line X.env=pure false):PS X (.Assign [.Attribute o f pos'] value pos) (b4W X.K ta tv f):=by
 intro pins s σ H D I h
 refine plainObj_wpAny_Assign_Attribute (thn (hv pins s σ H _ I h) fun u s1 ⟨y,H1,I1,ry,q⟩=>thn (ha pins s1 σ H1 _ I1 q) fun ov s2 ⟨x,H2,I2,rx,a,C,dx,fs,ex,ea,c,n,l,q2⟩=>?_) hs
 subst ex
 obtain rfl:ov=Value.ref a:=rx
 exact b2S I2 ea c n l ry fun s3 I3=>⟨σ,_,I3,q2⟩
end
section
variable {A:G8}{E:Value->g7->Prop}{c:Value}{b:Bool}
inductive a6q(K:Fg)(H:Hp):V->Value->Prop where
 | non:a6q K H .non (.type "NoneType")
 | bl (x:Bool):a6q K H (.bl x) (.type "bool")
 | int (i:Int):a6q K H (.int i) (.type "int")
 | str (x:Str):a6q K H (.str x) (.type "str")
 | flt (x:UInt64):a6q K H (.flt x) (.type "float")
 | lst {a:Addr} {xs:List V} (e:H a=some (.lst xs)):a6q K H (.ref a) (.type "list")
 | frz {a:Addr} {o:Obj} {xs:List V} (e:H a=some (.frz o (.lst xs))):a6q K H (.ref a) (.type "list")
 | tup {a:Addr} {xs:List V} (e:H a=some (.tup xs)):a6q K H (.ref a) (.type "tuple")
 | dK {a:Addr} {kvs:List (Key×V)} (e:H a=some (.dK kvs)):a6q K H (.ref a) (.type "dict")
 | dT {a:Addr} {kvs:List (List Key×V)} (e:H a=some (.dT kvs)):a6q K H (.ref a) (.type "dict")
 | ins {a C dx:Addr} {fs:List (Str×V)} (e:H a=some (.ins C dx fs)) (cl:Cls K C) (ha:C6 K (.ref C) "__class__" = some (some (.builtin "object.__class__")))
   (hn:a6t K (.builtin "object.__class__") "__get__" = some (some (.builtin "getset_descriptor.__get__"))) (htk:b8u K (.builtin "object.__class__")=some true)
   (hm:c1e K C (.type "object")=some true):a6q K H (.ref a) (.ref C)
theorem b5s{x:V}{t:Value}(I:Inv X pins σ H s)(rx:C7 x u)(ty:a6q X.K H x t)(e:c0E X.K t c=some b)(h:∀tk,Q (.bool b) { s with toks:=tk }) :
  wpAny (model X.prog X.w) A (call (.builtin "isinstance") [u,c]) Q E s:=by
 cases ty with
 | non=>cases (show u=Value.none from rx);exact J1 PySem.W.kitx_none I.kIn True.intro e (fun z=>nomatch z) h
 | bl y=>cases (show u=Value.bool y from rx);exact J1 PySem.W.kitx_bool I.kIn True.intro e (fun z=>nomatch z) h
 | int i=>obtain⟨t,q⟩:=(show ∃t,u=Value.int i t from rx);cases q;exact J1 PySem.W.kitx_int I.kIn True.intro e (fun z=>nomatch z) h
 | str y=>obtain⟨t,q⟩:=(show ∃t,u=Value.str y t from rx);cases q;exact J1 PySem.W.kitx_str I.kIn True.intro e (fun z=>nomatch z) h
 | flt y=>obtain⟨t,q⟩:=(show ∃t,u=Value.float y t from rx);cases q;exact J1 PySem.W.kitx_float I.kIn True.intro e (fun z=>nomatch z) h
 | @lst a xs ea=>
  cases (show u=Value.ref a from rx)
  obtain⟨_,_,n,_,h1⟩:=(show R3 X.prog X.w H s.heap a (.lst xs)from I.hok a _ ea)
  exact J1 b5X I.kIn ⟨_,h1,rfl⟩ e (fun z=>nomatch z) h
 | @frz a ob xs ea=>
  cases (show u=Value.ref a from rx)
  obtain⟨_,_,_,n,_,h1⟩:=(show R3 X.prog X.w H s.heap a (.frz ob (.lst xs))from I.hok a _ ea)
  exact J1 b5X I.kIn ⟨_,h1,rfl⟩ e (fun z=>nomatch z) h
 | @tup a xs ea=>
  cases (show u=Value.ref a from rx)
  obtain⟨_,_,_,p⟩:=(show R3 X.prog X.w H s.heap a (.tup xs)from I.hok a _ ea)
  obtain⟨o,h1,h2,_⟩:=p
  exact J1 PySem.W.kitx_tuple I.kIn ⟨o,h1,h2⟩ e (fun z=>nomatch z) h
 | @dK a kvs ea=>
  cases (show u=Value.ref a from rx)
  obtain⟨_,_,vs,_,p⟩:=(show R3 X.prog X.w H s.heap a (.dK kvs)from I.hok a _ ea)
  obtain⟨o,es,ep,h1,h2,_⟩:=p
  exact J1 b5Y I.kIn ⟨o,h1,h2.1⟩ e (fun z=>nomatch z) h
 | @dT a kvs ea=>
  cases (show u=Value.ref a from rx)
  obtain⟨_,_,xs,_,o,es,ep,h1,h2,_⟩:=(show R3 X.prog X.w H s.heap a (.dT kvs)from I.hok a _ ea)
  exact J1 b5Y I.kIn ⟨o,h1,h2.1⟩ e (fun z=>nomatch z) h
 | @ins a C dx fs ea cl ha hn htk hm=>
  cases (show u=Value.ref a from rx)
  obtain⟨mA,O,_⟩:=a7d I.hok ea
  obtain⟨od,J,_⟩:=O.look
  exact J1 (PySem.W.kitx_own (cl.get _) cl.hd ha hn htk hm) I.kIn J e (fun z=>nomatch z) h
end
structure N8(k:Nat)(A:G8):Prop where
 hd:A.handled=none
 dp:A.depth+3 * k+5<recursionLimit
 un:A.units+16 * k+200<cLine
theorem N8.mono{j k:Nat}{A:G8}(r:N8 k A)(h:j<=k):N8 j A:=⟨r.hd,by have:=r.dp;omega,by have:=r.un;omega⟩
theorem N8.deeper{k:Nat}{A:G8}(r:N8 (k+1) A)(env:Env):N8 k (A.deeper env):=
 ⟨r.hd,by have:=r.dp;show A.depth+1+3 * k+5<_;omega,by have:=r.un;show A.units+3+16 * k+200<_;omega⟩
theorem b3B{A:G8}{kw:List (Str×Value)}:(A.under (.builtin "type.__call__" ⟨.ref C::us,kw⟩)).depth=A.depth+1:=by
 first | rfl | simp[Around.under,Code.weight,Code.isCreation,Code.isGuard,Code.isCaller,Code.frames,Code.isFrame,guardIds]
theorem b3A{A:G8}{kw:List (Str×Value)}:(A.under (.builtin "type.__call__" ⟨.ref C::us,kw⟩)).units=A.units+1:=by
 first | rfl | simp[Around.under,Code.cUnits,Code.frames,Code.isFrame]
theorem N8.make{k:Nat}{A:G8}(r:N8 (k+1) A)(C:Addr)(us:List Value)(kw:List (Str×Value)):N8 k (A.under (.builtin "type.__call__" ⟨.ref C::us,kw⟩)):=
 ⟨r.hd,by have:=r.dp;rw[b3B];omega,by have:=r.un;rw[b3A];omega⟩
theorem N8.depth{k:Nat}{A:G8}(r:N8 k A):A.depth<recursionLimit:=by have:=r.dp;omega
theorem N8.units{k:Nat}{A:G8}(r:N8 k A):A.units+64<cLine:=by have:=r.un;omega
theorem N8.units0{k:Nat}{A:G8}(r:N8 k A):A.units<cLine:=by have:=r.un;omega
def j5:TA:=fun _ H Q=>Q [] H
def a9(ta:TE)(tr:TA):TA:=fun σ H Q=>ta σ H fun x H1=>tr σ H1 fun xs H2=>Q (x::xs) H2
section
variable {t:TA}
theorem c2r:PA X [] j5:=fun _ _ _ _ H Q I h=>Calls.spliced_nil ⟨[],H,I,.nil,h⟩
theorem b9B(ha:PE X e te)(hr:PA X es t)(hs:d8 (e::es) X.env=(false,eval e X.env)::d8 es X.env:=by rfl):PA X (e::es) (a9 te t):=by
 intro pos pins s σ H Q I h
 rw[hs]
 show wpAny _ _ (spliced ((false,eval e X.env)::V0 pos (d8 es X.env))) _ _ s
 refine Calls.spliced_cons (thn (ha pins s σ H _ I h) fun u s1 ⟨x,H1,I1,r1,q1⟩=>?_)
 exact thn (hr pos pins s1 σ H1 _ I1 q1) fun us s2 ⟨xs,H2,I2,r2,q2⟩=>⟨x::xs,H2,I2,.cons r1 r2,q2⟩
def a3e(t:TA):TE:=fun σ H Q=>t σ H fun xs H1=>xs.length<=j9/\∀p,H1 p=none->Q (.ref p) (upd H1 p (.tup xs))
def a0F(t:TA):TE:=fun σ H Q=>t σ H fun xs H1=>xs.length<=j9/\∀p,H1 p=none->Q (.ref p) (upd H1 p (.lst xs))
theorem c2e{x1}(h:PA X es t):PE X (.Tuple es x1 pos) (a3e t):=by
 intro pins s σ H Q I hq
 refine wpAny_Tuple_spliced (thn (h pos pins s σ H _ I hq) fun us s1 ⟨xs,H1,I1,r,z,q⟩=>⟨by rw[<-r.length];exact z,?_⟩)
 have hf:H1 s1.heap.objs.size=none:=I1.hok.fresh (d9 _)
 refine⟨.ref s1.heap.objs.size,upd H1 s1.heap.objs.size (.tup xs),I1.laid (t':=s1.toks) (fun b u e=>g9 _ e) (d9 _) ?_,rfl,q _ hf⟩
 exact⟨z,us,r,⟨_,t9 _ rfl,rfl,_,rfl⟩⟩
theorem c2l(h:PA X es t):PE X (.List es pos) (a0F t):=by
 intro pins s σ H Q I hq
 refine wpAny_List_spliced (thn (h pos pins s σ H _ I hq) fun us s1 ⟨xs,H1,I1,r,z,q⟩=>⟨by rw[<-r.length];exact z,?_⟩)
 have hf:H1 s1.heap.objs.size=none:=I1.hok.fresh (d9 _)
 refine⟨.ref s1.heap.objs.size,upd H1 s1.heap.objs.size (.lst xs),I1.laid (t':=s1.toks) (fun b u e=>g9 _ e) (d9 _) ?_,rfl,q _ hf⟩
 exact⟨z,us,0,r,t9 _ rfl⟩
end
abbrev Sp:=List V->Hp->VK->XK->Prop
abbrev CXT:=List Env->Hp->g7->XK->Value->g7->Prop
variable{CX:CXT}
structure b3S(P:v8)(w:World)(K:Fg)(mg:Str->Option Value)(base:Heap)(A:G8)(outer:List Env)(s:g7)(H:Hp):Prop where
 frames:A.frames=some outer
 mod:Mod K mg base
 bs:∀b o,base.get? b=some o->s.heap.get? b=some o/\H b=none
 bsz:base.objs.size<=s.heap.objs.size
 funs:s.heap.FunFrames base outer
 frf:∀b∈frs outer,H b=none
 hok:HOk P w H s.heap
 bare:a9I s.gens
def CE(outer:List Env)(P:v8)(w:World)(H:Hp)(s:g7)(Q:VK)(u:Value)(s':g7):Prop:=
 ∃v H',s'.os=s.os/\a9I s'.gens/\Un (frs outer) [] H H' s.heap s'.heap/\HOk P w H' s'.heap/\C7 v u/\Q v H'
def CR(CX:CXT)(outer:List Env)(P:v8)(w:World)(H:Hp)(s:g7)(Q:VK)(E:XK)(r:c3K)(s':g7):Prop:=
 match r with
 | .ok (.ret u)=>CE outer P w H s Q u s'
 | .ok _=>False
 | .error e=>CX outer H s E e s'
structure J9(P:v8)(w:World)(K:Fg)(mg:Str->Option Value)(base:Heap)(CX:CXT)(k:Nat)(f:Addr)(fd:W3)(ps:List Str)(sp:Sp):Prop where
 len:∀vs H Q E,sp vs H Q E->vs.length=ps.length
 run:∀(A:G8) (outer:List Env) (s:g7) (H:Hp) (args:Args) (us:List Value) (vs:List V) (Q:VK) (E:XK),N8 k A->b3S P w K mg base A outer s H->b6h s fd args (ps.zip us)->E2 vs us->sp vs H Q E ->
  a5J (model P w) A (.call (.ref f) args) (CR CX outer P w H s Q E) s
theorem b3S.make{P:v8}{K:Fg}{mg:Str->Option Value}{base:Heap}{A:G8}{outer:List Env}(e:b3S P w K mg base A outer s H)(C:Addr)(us:List Value)(kw:List (Str×Value)) :
  b3S P w K mg base (A.under (.builtin "type.__call__" ⟨.ref C::us,kw⟩)) outer s H:=⟨by first | exact e.frames | (simpa[Around.under,Code.envs,Code.isFrame,pushEnvs]using e.frames),e.mod,e.bs,e.bsz,e.funs,e.frf,e.hok,e.bare⟩
section
variable {s':g7}
theorem Inv.env0(I:Inv X pins σ H s):b3S X.prog X.w X.K X.mg X.base X.A X.stack s H:=
 ⟨I.ok.frames,I.ok.mod,I.bs,C2 I.ok.bsz I.sz,I.stack,I.stkFree,I.hok,I.bare⟩
theorem Inv.after{Q:VK}(I:Inv X pins σ H s)(h:CE X.stack X.prog X.w H s Q u s'):EP X pins σ Q u s':=by
 obtain⟨v,H',os,bare,un,hok,r,q⟩:=h
 obtain⟨hh,g,d,t,os'⟩:=s'
 obtain rfl:os'=s.os:=os
 exact⟨v,H',I.call (h':=hh) (g':=g) (d':=d) (t':=t) (ch:=[]) un hok bare (fun b z=>absurd z (by simp)),r,q⟩
end
def v4(sp:Sp)(dvs:List V)(E:XK)(t:TA):TE:=fun σ H Q=>t σ H fun vs H1=>sp (vs++dvs) H1 Q E
def b1v(C:Addr)(m:Str)(sp:Sp)(dvs:List V)(E:XK)(ta:TE)(t:TA):TE:=fun σ H Q=>ta σ H fun x H1=>∃a dx fs,x=.ref a/\H1 a=some (.ins C dx fs)/\fs.lookup m=none /\
 t σ H1 fun vs H2=>sp (x::(vs++dvs)) H2 Q E
def a9m(C:Addr)(sp:Sp)(dvs:List V)(E:XK)(t:TA):TE:=fun σ H Q=>t σ H fun vs H1=>∀x dx,H1 x=none->H1 dx=none->dx≠x ->
 sp (.ref x::(vs++dvs)) (upd (upd H1 dx (.own x)) x (.ins C dx [])) (fun v H2=>v=.non/\Q (.ref x) H2) E
def a3b(K:Fg)(fd:W3)(ps:List Str)(ds:List Value):Prop:=
 ∀(s:g7) (us:List Value),K.In s.heap->(us++ds).length=ps.length->b6h s fd ⟨us,[]⟩ (ps.zip (us++ds))
theorem a3b.all{K:Fg}{fd:W3}(h:∀us:List Value,us.length=ps.length->bindArgs fd ⟨us,[]⟩=pure (ps.zip us)):a3b K fd ps []:=fun s us _ hl=>by
 rw[a1x]at hl ⊢
 exact .of_eq (h us hl)
def a6r(CX:CXT)(X:Cx)(E:XK):Prop:=∀(pins:List (Addr×Obj)) (σ:St) (H:Hp) (s:g7) (e:Value) (s':g7),Inv X pins σ H s->CX X.stack H s E e s'->X.xe e s'
section
variable {k:Nat}{fd:W3}{sp:Sp}{dvs:List V}{ds:List Value}{E:XK}{x m:Str}{apos:Pos}{o:Expr}{t:TA}
theorem b6R{Q:VK}{vs:List V}(F:J9 X.prog X.w X.K X.mg X.base CX k f fd ps sp)(hr:N8 k X.A)(hb:a3b X.K fd ps ds)(hd:E2 dvs ds)(hx:a6r CX X E)
  (I:Inv X pins σ H s) (r:E2 vs us) (h:sp (vs++dvs) H Q E):wpAny (model X.prog X.w) X.A (call (.ref f) us) (EP X pins σ Q) X.xe s:=by
 have r2:E2 (vs++dvs) (us++ds):=r.append hd
 have hl:(us++ds).length=ps.length:=by rw[<-r2.length];exact F.len _ _ _ _ h
 refine wpAny_call (b3U (F.run X.A X.stack s H ⟨us,[]⟩ (us++ds) (vs++dvs) Q E hr I.env0 (hb s us I.kIn hl) r2 h) fun r s' hq=>?_)
 cases r with
 | error e=>exact hx pins σ H s e s' I hq
 | ok fl=>
  cases fl with
  | ret u=>exact I.after hq
  | next=>exact False.elim hq
  | brk=>exact False.elim hq
  | cont=>exact False.elim hq
theorem b9z(F:J9 X.prog X.w X.K X.mg X.base CX k f fd ps sp)(hr:N8 k X.A)(hg:Gl X x)(hm:X.mg x=some (.ref f))(hk:P7 X.K (.ref f)=true)(hb:a3b X.K fd ps ds)(hd:E2 dvs ds)(hx:a6r CX X E)
  (ha:PA X (e::es) t) (hdb:(x == ("__debug__" : Str))=false:=by decide) (he:d8 (e::es) X.env=(false,eval e X.env)::d8 es X.env:=by rfl) (hpl:(V0 pos (d8 es X.env)).any (·.1)=false:=by rfl) :
  PE X (.Call (.Name x p) (e::es) [] pos) (v4 sp dvs E t):=by
 intro pins s σ H Q I h
 refine a4h (b0l I hg hm ?_ hdb)
 refine a5B (h₀:=X.base) I.ok.mod.kin hk (thn (ha pos pins s σ H _ I h) fun us s1 ⟨vs,H1,I1,r,q⟩=>⟨I1.kIn,?_⟩) he hpl
 exact b6R F hr hb hd hx I1 r q
theorem b9s{pl:Sem Bool}(he:PE X o ta)(c:Cls X.K C)(hm:c3o X.K C m f)(F:J9 X.prog X.w X.K X.mg X.base CX k f fd ps sp)(hr:N8 k X.A)(hb:a3b X.K fd ps ds)(hd:E2 dvs ds)(hx:a6r CX X E)(ha:PA X (e::es) t)
  (hst:d8 (e::es) X.env=(false,eval e X.env)::d8 es X.env:=by rfl) (hpl:(V0 pos (d8 es X.env)).any (·.1)=false:=by rfl)
  (ht:eval (.Call (.Attribute o m apos) (e::es) [] pos) X.env=(do
   let ov <-eval o X.env
   b6e apos.atName
   let(f,first) <-a3l [ov] (b6f ov m pl)
   callWith pos f first (V0 pos (d8 (e::es) X.env)) (a8w pos (a1P [] X.env))):=by rfl) :
  PE X (.Call (.Attribute o m apos) (e::es) [] pos) (b1v C m sp dvs E ta t):=by
 intro pins s σ H Q I h
 refine PySem.W.methodCall_KW (pl:=pl) (thn (he pins s σ H _ I h) fun u s1 ⟨x,H1,I1,rx,a,dx,fs,ex,ea,l,q⟩=>?_) ht
 subst ex
 obtain rfl:u=Value.ref a:=rx
 refine b3F I1 ea c hm l ?_
 refine a5B (first:=[.ref a]) (h₀:=X.base) I.ok.mod.kin hm.kp (thn (ha pos pins s1 σ H1 _ I1 q) fun us s2 ⟨vs,H2,I2,r,q2⟩=>⟨I2.kIn,?_⟩) hst hpl
 exact b6R (us:=.ref a::us) (vs:=.ref a::vs) F hr hb hd hx I2 (.cons rfl r) q2
structure Mk(K:Fg)(C f:Addr):Prop where
 makes:a3h K C=true
 init:C6 K (.ref C) "__init__" = some (some (.ref f))
 fn:a6w K (.ref f)=true
 kp:P7 K (.ref C)=true
theorem b6Q{Q:VK}{vs:List V}(M:Mk X.K C f)(F:J9 X.prog X.w X.K X.mg X.base CX k f fd ps sp)(hr:N8 (k+1) X.A)(hb:a3b X.K fd ps ds)(hd:E2 dvs ds)
  (hx:a6r CX X E) (I:Inv X pins σ H s) (r:E2 vs us)
  (h:∀x dx,H x=none->H dx=none->dx≠x->sp (.ref x::(vs++dvs)) (upd (upd H dx (.own x)) x (.ins C dx [])) (fun v H2=>v=.non/\Q (.ref x) H2) E) :
  wpAny (model X.prog X.w) X.A (call (.ref C) us) (EP X pins σ Q) X.xe s:=by
 have hq:=h (s.heap.objs.size+1) s.heap.objs.size (I.hok.fresh (a5C _)) (I.hok.fresh (d9 _)) (u5 (c3v _))
 have I2:=Inv.made (C:=C) I
 have r2:E2 (V.ref (s.heap.objs.size+1)::(vs++dvs)) (Value.ref (s.heap.objs.size+1)::(us++ds)):=.cons rfl (r.append hd)
 have hl:(Value.ref (s.heap.objs.size+1)::us++ds).length=ps.length:=by
  have e:=r2.length
  rw[F.len _ _ _ _ hq]at e
  exact e.symm
 refine wpAny_call (b7I (f:=f) I.kIn M.makes M.init (beq_iff_eq.mp M.fn) (b3U (F.run _ X.stack _ _ ⟨Value.ref (s.heap.objs.size+1)::us,[]⟩ (Value.ref (s.heap.objs.size+1)::(us++ds)) _ _ E (hr.make C us [])
  (I2.env0.make C us []) (hb _ (Value.ref (s.heap.objs.size+1)::us) I2.kIn hl) r2 hq) fun r s' hq'=>?_))
 cases r with
 | error e=>exact hx pins σ _ _ e s' I2 hq'
 | ok fl=>
  cases fl with
  | ret u=>
   obtain⟨v,H',I3,rv,ev,q3⟩:=I2.after hq'
   subst ev
   exact⟨rv,⟨V.ref (s.heap.objs.size+1),H',I3,rfl,q3⟩⟩
  | next=>exact False.elim hq'
  | brk=>exact False.elim hq'
  | cont=>exact False.elim hq'
theorem b9t(M:Mk X.K C f)(F:J9 X.prog X.w X.K X.mg X.base CX k f fd ps sp)(hr:N8 (k+1) X.A)(hg:Gl X x)(hm:X.mg x=some (.ref C))(hb:a3b X.K fd ps ds)(hd:E2 dvs ds)(hx:a6r CX X E)
  (ha:PA X (e::es) t) (hdb:(x == ("__debug__" : Str))=false:=by decide) (he:d8 (e::es) X.env=(false,eval e X.env)::d8 es X.env:=by rfl) (hpl:(V0 pos (d8 es X.env)).any (·.1)=false:=by rfl) :
  PE X (.Call (.Name x p) (e::es) [] pos) (a9m C sp dvs E t):=by
 intro pins s σ H Q I h
 refine a4h (b0l I hg hm ?_ hdb)
 refine a5B (h₀:=X.base) I.ok.mod.kin M.kp (thn (ha pos pins s σ H _ I h) fun us s1 ⟨vs,H1,I1,r,q⟩=>⟨I1.kIn,?_⟩) he hpl
 exact b6Q M F hr hb hd hx I1 r q
end
section
variable {k:Nat}{fd:W3}{ks:List Str}{sp:Sp}{E:XK}{x m:Str}{apos kpos:Pos}{o:Expr}{kws:List a5K}{t tk:TA}{nm:Option Str}
structure c5o(K:Fg)(fd:W3)(ps ks:List Str)(g:List Value->List Value->List Value)(gV:List V->List V->List V):Prop where
 to:∀(s:g7) (us ws:List Value),K.In s.heap->(g us ws).length=ps.length->b6h s fd ⟨us,ks.zip ws⟩ (ps.zip (g us ws))
 rel:∀ {vs:List V} {us:List Value} {zs:List V} {ws:List Value},E2 vs us->E2 zs ws->E2 (gV vs zs) (g us ws)
variable {g:List Value->List Value->List Value}{gV:List V->List V->List V}
end
structure z8(N P:List Str)(sc:Scope):Prop where
 kind:sc.kind=.function
 co:sc.isCoroutine=false
 gen:sc.isGenerator=false
 nd:N.Nodup
 pre:N.take P.length=P
 par:∀x∈P,sc.names.lookup x=some .local\/sc.names.lookup x=some .cell
 nofree:∀y∈sc.names,y.2≠.free
theorem a9A{kindOf:Str->Option a4i}{x:Str}:∀ {binds:List (Str×Value)} {m:Str->Option Value},(∀v,(x,v)∉binds)->bindL kindOf binds m x=m x
 | [],_,_=>rfl
 | (n,v)::r,m,h=>by
  unfold bindL
  rw[a9A fun w hw=>h w (C4 _ hw)]
  split
  ·have:x≠n:=by rintro rfl;exact h v D5
   simp[this]
  ·rfl
theorem a9C{kindOf:Str->Option a4i}{x:Str}:∀ {binds:List (Str×Value)} {m:Str->Option Value},(∀v,(x,v)∉binds)->bindC kindOf binds m x=m x
 | [],_,_=>rfl
 | (n,v)::r,m,h=>by
  unfold bindC
  rw[a9C fun w hw=>h w (C4 _ hw)]
  split
  ·rfl
  ·have:x≠n:=by rintro rfl;exact h v D5
   simp[this]
theorem a9B{kindOf:Str->Option a4i}{x:Str}{v:Value}:∀ {P:List Str} {vs:List Value} {i:Nat} {m:Str->Option Value},P.Nodup->P[i]? = some x->vs[i]? = some v->kindOf x=some .local ->
  bindL kindOf (P.zip vs) m x=some v
 | [],_,_,_,_,h,_,_=>by simp at h
 | _::_,[],_,_,_,_,h,_=>by simp at h
 | p::P,w::vs,0,m,nd,h1,h2,hk=>by
  simp at h1 h2;subst h1;subst h2
  show bindL kindOf ((p,w)::P.zip vs) m p=_
  unfold bindL
  rw[a9A fun v hv=>(L6.mp nd).1 (a9F hv).1,if_pos hk]
  simp
 | p::P,w::vs,i+1,m,nd,h1,h2,hk=>by
  show bindL kindOf ((p,w)::P.zip vs) m x=_
  unfold bindL
  exact a9B (i:=i) (L6.mp nd).2 (by simpa using h1) (by simpa using h2) hk
theorem a9D{kindOf:Str->Option a4i}{x:Str}{v:Value}:∀ {P:List Str} {vs:List Value} {i:Nat} {m:Str->Option Value},P.Nodup->P[i]? = some x->vs[i]? = some v->kindOf x≠some .local ->
  bindC kindOf (P.zip vs) m x=some v
 | [],_,_,_,_,h,_,_=>by simp at h
 | _::_,[],_,_,_,_,h,_=>by simp at h
 | p::P,w::vs,0,m,nd,h1,h2,hk=>by
  simp at h1 h2;subst h1;subst h2
  show bindC kindOf ((p,w)::P.zip vs) m p=_
  unfold bindC
  rw[a9C fun v hv=>(L6.mp nd).1 (a9F hv).1,if_neg hk]
  simp
 | p::P,w::vs,i+1,m,nd,h1,h2,hk=>by
  show bindC kindOf ((p,w)::P.zip vs) m x=_
  unfold bindC
  exact a9D (i:=i) (L6.mp nd).2 (by simpa using h1) (by simpa using h2) hk
def a5a(N:List Str)(vs:List V):St:=vs.map some++u0 (N.length - vs.length) none
def b2g(CX:CXT)(P:v8)(w:World)(K:Fg)(mg:Str->Option Value)(base:Heap)(N:List Str)(qual:Str)(scope:Scope)(f:Addr)(cd:Value)(A:G8)(outer:List Env)(s:g7)(H:Hp)(E:XK):Cx where
 prog:=P
 w:=w
 K:=K
 mg:=mg
 base:=base
 A:=A.deeper (b1e qual scope s.heap.objs.size f cd)
 N:=N
 s₀:=s
 H₀:=H
 env:=b1e qual scope s.heap.objs.size f cd
 outer:=outer
 stack:=b1e qual scope s.heap.objs.size f cd::outer
 ex:=[]
 calm:=true
 fn:=fun _=>true
 pn:=[]
 xe:=fun e s'=>wpAny (model P w) (A.deeper (b1e qual scope s.heap.objs.size f cd)) (leaving (b1e qual scope s.heap.objs.size f cd) e) (fun _ s''=>CX outer H s E e s'') (fun e' s''=>CX outer H s E e' s'') s'
theorem b2j{sc:Scope}{n:Nat}{x:Str}(h:sc.names.lookup x=some .cell):∃c,(cellsFrom n sc.names []).lookup x=some c:=by
 have q:=b2w sc.names n [] (.inl h)
 exact T4.mp q
theorem b5v{P:v8}{K:Fg}{mg:Str->Option Value}{base:Heap}{N:List Str}{qual:Str}{scope:Scope}{cd:Value}{A:G8}{outer:List Env}{s1:g7}{E:XK}{vs:List V}
  (S:z8 N ps scope) (hd:A.handled=none) (e0:b3S P w K mg base A outer s H) (hl:vs.length=ps.length) (r:E2 vs us)
  (x:InCallC s s.heap.objs.size (bindL (b1e qual scope s.heap.objs.size f cd).kindOf (ps.zip us) fun _=>none) (cellsFrom (s.heap.objs.size+1) scope.names []) (bindC (b1e qual scope s.heap.objs.size f cd).kindOf (ps.zip us) fun _=>none) s1) :
  Inv (b2g CX P w K mg base N qual scope f cd A outer s H E) [] (a5a N vs) H s1:=by
 have hpl:ps.length<=N.length:=by have:=congrArg b6a S.pre;rw[K0]at this;omega
 obtain⟨h1,tk,rfl,hk⟩:=x.done
 have noA:∀b:Addr,b∉(b2g CX P w K mg base N qual scope f cd A outer s H E).ex:=fun b z=>absurd (show b∈([]:List Addr)from z) (by simp)
 refine⟨⟨e0.mod,S.kind,rfl,rfl,d9 _,fun y z c h1 h2=>?_,fun y hy=>?_,fun y c _ h=>?_,fun _=>hd,Around.frames_deeper e0.frames,.inr ⟨rfl,rfl⟩,fun b z=>absurd z (noA b),e0.bs,e0.bsz,fun b _ _=>noA b,fun b z=>absurd z (noA b),e0.funs,e0.frf⟩,
  rfl,e0.bare,Un.kept hk,⟨_,x.toInCall.ns,fun i y v h1 h2 h3=>?_⟩,fun y c h=>⟨_,x.cell y c h⟩,e0.hok.fresh (d9 _),fun y c h=>?_,fun p hp=>absurd (show p∈([]:List (Addr×Obj))from hp) (by simp),e0.hok.kept hk,?_⟩
 ·exact name_of_addr x.apart (z5 h1) (z5 h2)
 ·have hy:scope.names.lookup y=some .cell\/scope.names.lookup y=some .free:=hy
  rcases hy with hy | hy
  ·exact b2j hy
  ·exact absurd rfl (S.nofree _ (z5 hy))
 ·exact b5T (x.above y c (z5 h))
 ·have hi:i<vs.length:=by
   unfold a5a at h2
   by_cases hi:i<vs.length
   ·exact hi
   ·rw[X9 (by simpa using hi)]at h2
    rw[F1]at h2
    split at h2 <;> cases h2
  have ha:vs[i]? = some v:=by
   unfold a5a at h2
   rw[D1 (by simpa using hi),b8]at h2
   cases e:vs[i]? with
   | none=>rw[e]at h2;cases h2
   | some a=>rw[e]at h2;cases h2;rfl
  obtain⟨u,hu,rv⟩:=r.get ha
  have hp:ps[i]? = some y:=by
   rw[<-S.pre,List.getElem?_take_of_lt (by omega)];exact h1
  have ndP:ps.Nodup:=by rw[<-S.pre];exact S.nd.sublist (a7h _ _)
  refine⟨u,rv,?_⟩
  rcases S.par y (T6 hp)with k | k
  ·exact .inl ⟨k,a9B ndP hp hu k⟩
  ·obtain⟨c,e⟩:=b2j (n:=s.heap.objs.size+1) k
   refine .inr ⟨.inl k,c,e,?_⟩
   have q:=x.cell y c e
   rw[a9D ndP hp hu (by show scope.names.lookup y≠_;rw[k];decide)]at q
   exact q
 ·exact e0.hok.fresh (b5T (x.above y c (z5 h)))
 ·unfold a5a
  show _=N.length
  rw[u4,a8,A5]
  omega
theorem c4C{P:v8}{K:Fg}{mg:Str->Option Value}{base:Heap}{k:Nat}{name qual:Str}{params:Arguments}{body:List Stmt}{scope:Scope}{dV kV doc pm cdv ct oc:Value}{an od:Option Addr}
  {osl:Array (Option Value)} {N ps:List Str} {sp:Sp} (lk:K.lookup f=some ⟨oc,od,.func (X8 name qual params body scope dV kV doc pm an cdv ct),osl⟩) (hcd:a4f K cdv qual=true) (S:z8 N ps scope)
  (len:∀vs H Q E,sp vs H Q E->vs.length=ps.length)
  (hbody:∀(A:G8) (outer:List Env) (s:g7) (H:Hp) (vs:List V) (Q:VK) (E:XK),N8 k (A.deeper (b1e qual scope s.heap.objs.size f cdv))->sp vs H Q E ->
   ∃t,PSs (b2g CX P w K mg base N qual scope f cdv A outer s H E) body t/\t { nx:=fun _ H'=>Q .non H',rt:=Q } (a5a N vs) H) :
  J9 P w K mg base CX (k+1) f (X8 name qual params body scope dV kV doc pm an cdv ct) ps sp:=by
 refine⟨len,fun A outer s H args us vs Q E hr e0 hb r hsp=>?_⟩
 have hl:=len _ _ _ _ hsp
 have KX:K.In s.heap:=e0.mod.kin.keeps fun b o e=>(e0.bs b o e).1
 have lim:s.heap.NoLimit:=e0.mod.nolimit.keeps fun b o e=>(e0.bs b o e).1
 have hkind:∀y∈ps.zip us,scope.names.lookup y.1=some .local\/(scope.names.lookup y.1=some .cell/\((cellsFrom (s.heap.objs.size+1) scope.names []).lookup y.1).isSome=true):=fun⟨n,v⟩ hy=>by
  rcases S.par n (a9F hy).1 with q | q
  ·exact .inl q
  ·exact .inr ⟨q,b2w _ _ _ (.inl q)⟩
 refine codeAny_call_function hr.depth (KX _ _ lk) rfl S.co S.gen rfl (PySem.W.codeRec_of KX hcd) (hb _ _ _ _ ?_)
 refine wpAny_newFunctionEnv_cells S.kind hkind fun env he s1 x=>?_
 subst he
 refine⟨lim.keeps x.toInCall.keep,codeAny_func ?_⟩
 obtain⟨t,ht,hq⟩:=hbody A outer s H vs Q E (hr.deeper _) hsp
 have I:Inv (b2g CX P w K mg base N qual scope f cdv A outer s H E) [] (a5a N vs) H s1:=b5v S hr.hd e0 hl r x
 refine U8 (ht [] s1 (a5a N vs) H _ I hq) (fun fl s' hs=>?_) fun e s' hs=>hs
 have fin:∀ {σ':St} {H':Hp} {v:V} {u:Value},Inv (b2g CX P w K mg base N qual scope f cdv A outer s H E) [] σ' H' s'->C7 v u->Q v H'->CE outer P w H s Q u s':=
  fun {σ' H' v u} J rv q=>⟨v,H',J.os,J.bare,J.base,J.hok,rv,q⟩
 cases fl with
 | ret u=>
  obtain⟨v,σ',H',J,rv,q⟩:=hs
  exact fin J rv q
 | next=>
  obtain⟨σ',H',J,q⟩:=hs
  exact fin (v:=V.non) (u:=Value.none) J rfl q
 | brk=>
  obtain⟨_,_,_,q⟩:=hs
  exact False.elim q
 | cont=>
  obtain⟨_,_,_,q⟩:=hs
  exact False.elim q
section
variable {x:Str}{t:TA}{id T:String}{r:List V->Hp->VK->Prop}
def tCB(r:List V->Hp->VK->Prop)(t:TA):TE:=fun σ H Q=>t σ H fun vs H1=>r vs H1 Q
theorem b7u(hc:U3 X (.builtin id) r)(hg:Gl X x)(hm:X.mg x=none)(hv:a0b x=some (.builtin id))(ha:PA X (e::es) t)(hn:x ≠ "__name__" := by decide)(hdb:(x == ("__debug__" : Str))=false:=by decide)
  (he:d8 (e::es) X.env=(false,eval e X.env)::d8 es X.env:=by rfl) (hpl:(V0 pos (d8 es X.env)).any (·.1)=false:=by rfl):PE X (.Call (.Name x p) (e::es) [] pos) (tCB r t):=by
 intro pins s σ H Q I h
 refine a4h (a6j I hg hm hv ?_ hn hdb)
 exact PyProof.Rows.callWith_builtin1 (thn (ha pos pins s σ H _ I h) fun us s1 ⟨vs,H1,I1,r1,q1⟩=>hc pins s1 σ H1 vs us Q I1 r1 q1) he hpl
theorem b5b(hc:U3 X (.type T) r)(hg:Gl X x)(hm:X.mg x=none)(hv:a0b x=some (.type T))(ha:PA X (e::es) t)(hn:x ≠ "__name__" := by decide)(hdb:(x == ("__debug__" : Str))=false:=by decide)
  (he:d8 (e::es) X.env=(false,eval e X.env)::d8 es X.env:=by rfl) (hpl:(V0 pos (d8 es X.env)).any (·.1)=false:=by rfl):PE X (.Call (.Name x p) (e::es) [] pos) (tCB r t):=by
 intro pins s σ H Q I h
 refine a4h (a6j I hg hm hv ?_ hn hdb)
 exact V3 (thn (ha pos pins s σ H _ I h) fun us s1 ⟨vs,H1,I1,r1,q1⟩=>hc pins s1 σ H1 vs us Q I1 r1 q1) he hpl
end
section
variable {κ:Type}[DecidableEq κ]
def Y3(kvs:List (κ×V))(k:κ):Option V:=(kvs.find? fun kv=>decide (kv.1=k)).map (·.2)
def Z8(kvs:List (κ×V))(k:κ)(v:V):List (κ×V):=
 if(kvs.any fun kv=>decide (kv.1=k))=true then kvs.map (fun kv=>if kv.1=k then (kv.1,v)else kv)else kvs++[(k,v)]
theorem a3p{p:κ×V}{r:List (κ×V)}{k:κ}(e:p.1=k):Y3 (p::r) k=some p.2:=by simp[Y3,T3,e]
theorem a3q{p:κ×V}{r:List (κ×V)}{k:κ}(e:¬p.1=k):Y3 (p::r) k=Y3 r k:=by simp[Y3,T3,e]
theorem a2g(k:κ):∀kvs:List (κ×V),(kvs.any fun kv=>decide (kv.1=k))=(Y3 kvs k).isSome
 | []=>rfl
 | p::r=>by
  rw[P8]
  by_cases e:p.1=k
  ·simp only[a3p e,c6x e,Bool.true_or,Option.isSome_some]
  ·rw[a3q e,c6w e,c4J];exact a2g k r
theorem a3D(kvs:List (κ×V))(k:κ)(v:V):(Z8 kvs k v).length<=kvs.length+1:=by
 unfold Z8
 split
 ·rw[a8];omega
 ·rw[u4,v7,a4g];omega
theorem a3g.isSome_eq{o:Option V}{u:Option Value}(r:a3g o u):o.isSome=u.isSome:=by
 cases o with
 | none=>cases u with
  | none=>rfl
  | some _=>exact(show False from r).elim
 | some _=>cases u with
  | none=>exact(show False from r).elim
  | some _=>rfl
theorem a3g.getD{o:Option V}{u:Option Value}{d:V}{d':Value}(r:a3g o u)(rd:C7 d d'):C7 (o.getD d) (u.getD d'):=by
 cases o with
 | none=>cases u with
  | none=>exact rd
  | some _=>exact(show False from r).elim
 | some _=>cases u with
  | none=>exact(show False from r).elim
  | some _=>exact r
theorem KV.val{kvs:List (κ×V)}{vs:List (κ×Value)}(r:KV kvs vs)(k:κ):a3g (Y3 kvs k) (b2E vs k):=by
 unfold KV at r
 induction r with
 | nil=>exact True.intro
 | @cons p q ps qs h t ih=>
  obtain⟨h1,h2⟩:=h
  by_cases e:p.1=k
  ·have e':q.1=k:=h1.symm.trans e
   have b:b2E (q::qs) k=some q.2:=by simp[b2E,T3,e']
   rw[a3p e,b];exact h2
  ·have e':¬q.1=k:=fun z=>e (h1.trans z)
   have b:b2E (q::qs) k=b2E qs k:=by simp[b2E,T3,e']
   rw[a3q e,b];exact ih
theorem KV.any{kvs:List (κ×V)}{vs:List (κ×Value)}(r:KV kvs vs)(k:κ):(kvs.any fun kv=>decide (kv.1=k))=vs.any fun kv=>decide (kv.1=k):=by
 unfold KV at r
 induction r with
 | nil=>rfl
 | cons h t ih=>rw[P8,P8,ih,h.1]
theorem KV.repl{kvs:List (κ×V)}{vs:List (κ×Value)}(r:KV kvs vs)(k:κ)(ry:C7 y u) :
  KV (kvs.map fun kv=>if kv.1=k then (kv.1,y)else kv) (vs.map fun kv=>if kv.1=k then (kv.1,u)else kv):=by
 unfold KV at r ⊢
 induction r with
 | nil=>exact .nil
 | @cons p q ps qs h t ih=>
  rw[F7,F7]
  refine .cons ?_ ih
  obtain⟨h1,h2⟩:=h
  by_cases e:p.1=k
  ·rw[if_pos e,if_pos (h1.symm.trans e)];exact⟨h1,ry⟩
  ·rw[if_neg e,if_neg (fun z=>e (h1.trans z))];exact⟨h1,h2⟩
theorem KV.put{kvs:List (κ×V)}{vs:List (κ×Value)}(r:KV kvs vs)(k:κ)(ry:C7 y u):KV (Z8 kvs k y) (stored vs k u):=by
 unfold Z8 stored
 rw[r.any k]
 by_cases e:(vs.any fun kv=>decide (kv.1=k))=true
 ·rw[if_pos e,if_pos e];exact r.repl k ry
 ·rw[if_neg e,if_neg e];exact Paired.snoc r ⟨rfl,ry⟩
theorem KV.length{kvs:List (κ×V)}{vs:List (κ×Value)}(r:KV kvs vs):kvs.length=vs.length:=Paired.length r
end
theorem a8d{P:v8}{k:Key}(r:C7 (kV k) u):(M0 P w).is k u=true:=by
 cases k with
 | inl i=>obtain⟨t,e⟩:=(show ∃t,u=Value.int i t from r);subst e;exact b1U P w i t
 | inr x=>obtain⟨t,e⟩:=(show ∃t,u=Value.str x t from r);subst e;exact b1T P w x t
theorem a9w{P:v8}:∀ {ks:List Key} {us:List Value},E2 (ks.map kV) us->ItemsAre (M0 P w) ks us
 | [],_,r=>by rw[a7i]at r;cases r;exact .nil
 | k::ks,_,r=>by
  rw[F7]at r
  cases r with
  | cons h t=>exact .cons (a8d h) (a9w t)
abbrev KT(H:Hp):List (List Key×V)->List (List Key×Addr×Value)->Prop:=Paired fun p q=>p.1=q.1/\H q.2.1=some (.tup (p.1.map kV))/\C7 p.2 q.2.2
theorem KT.val{kvs:List (List Key×V)}{xs:List (List Key×Addr×Value)}(r:KT H kvs xs)(k:List Key):a3g (Y3 kvs k) ((atKey xs k).map (·.2)):=by
 induction r with
 | nil=>exact True.intro
 | @cons p q ps qs h t ih=>
  obtain⟨h1,_,h2⟩:=h
  by_cases e:p.1=k
  ·have e':q.1=k:=h1.symm.trans e
   have b:atKey (q::qs) k=some q.2:=by simp[atKey,T3,e']
   rw[a3p e,b];exact h2
  ·have e':¬q.1=k:=fun z=>e (h1.trans z)
   have b:atKey (q::qs) k=atKey qs k:=by simp[atKey,T3,e']
   rw[a3q e,b];exact ih
theorem KT.repl{kvs:List (List Key×V)}{xs:List (List Key×Addr×Value)}(r:KT H kvs xs)(k:List Key)(ry:C7 y u) :
  KT H (kvs.map fun kv=>if kv.1=k then (kv.1,y)else kv) (xs.map (putAt k u)):=by
 induction r with
 | nil=>exact .nil
 | @cons p q ps qs h t ih=>
  rw[F7,F7]
  refine .cons ?_ ih
  obtain⟨h1,h2,h3⟩:=h
  unfold putAt
  by_cases e:p.1=k
  ·rw[if_pos e,if_pos (h1.symm.trans e)];exact⟨h1,h2,ry⟩
  ·rw[if_neg e,if_neg (fun z=>e (h1.trans z))];exact⟨h1,h2,h3⟩
theorem KT.put{kvs:List (List Key×V)}{xs:List (List Key×Addr×Value)}(r:KT H kvs xs)(k:List Key)(hb:H b=some (.tup (k.map kV)))(ry:C7 y u) :
  KT H (Z8 kvs k y) (storedH xs k b u):=by
 have e:(kvs.any fun kv=>decide (kv.1=k))=(atKey xs k).isSome:=by
  rw[a2g,(r.val k).isSome_eq,a6M]
 unfold Z8 storedH
 rw[e]
 by_cases q:(atKey xs k).isSome=true
 ·rw[if_pos q,if_pos q];exact r.repl k ry
 ·rw[if_neg q,if_neg q];exact Paired.snoc r ⟨rfl,hb,ry⟩
theorem KT.keeps{kvs:List (List Key×V)}{xs:List (List Key×Addr×Value)}(r:KT H kvs xs)(ht:∀b ys,H b=some (.tup ys)->H' b=some (.tup ys)):KT H' kvs xs:=
 Paired.mapP r fun _ _ z=>⟨z.1,ht _ _ z.2.1,z.2.2⟩
section
variable {P:v8}
theorem c0T{u:HO}(ok:HOk P w H h)(e:Rd H a u):R3 P w H h a u:=e.ok ok
theorem a8h(ok:HOk P w H h)(e:Rd H a (.dK kvs)):kvs.length<=j9/\(a == T1)=false/\∃vs,KV kvs vs/\h.DictOf (M0 P w) a vs:=
 show R3 P w H h a (.dK kvs)from c0T ok e
theorem a8i(ok:HOk P w H h)(e:H a=some (.dK kvs)):kvs.length<=j9/\(a == T1)=false/\∃vs,KV kvs vs/\h.DictOf (M0 P w) a vs:=a8h ok (.inl e)
theorem a6m{ks:List Key}(ok:HOk P w H h)(e:H a=some (.tup (ks.map kV))):(b1d (M0 P w)).is h ks a:=by
 obtain⟨_,its,r,o,h1,h2,n,h3⟩:=(show R3 P w H h a (.tup (ks.map kV))from ok a _ e)
 exact⟨o,its.toArray,n,h1,h2,h3,by simpa using a9w r⟩
theorem a8g{kvs:List (List Key×V)}(ok:HOk P w H h)(e:Rd H a (.dT kvs)):kvs.length<=j9/\(a == T1)=false /\
  ∃xs,KT H kvs xs/\h.DictOfH (b1d (M0 P w)) a xs:=by
 obtain⟨z,y,xs,r,o,es,ep,h1,h2,h3,h4,h5⟩:=(show R3 P w H h a (.dT kvs)from c0T ok e)
 refine⟨z,y,xs,r,o,es,ep,h1,h2,h3,h4,fun x hx=>?_,h5⟩
 have all:∀ {l:List (List Key×V)} {m:List (List Key×Addr×Value)},KT H l m->∀x∈m,(b1d (M0 P w)).is h x.1 x.2.1:=by
  intro l m q
  induction q with
  | nil=>intro x hx;exact nomatch hx
  | @cons p q ps qs hq t ih=>
   intro x hx
   rcases c8.mp hx with e | hx
   ·subst e
    exact a6m ok (by rw[<-hq.1];exact hq.2.1)
   ·exact ih x hx
 exact all r x hx
theorem b7U{kvs:List (List Key×V)}(ok:HOk P w H h)(e:H a=some (.dT kvs)):kvs.length<=j9/\(a == T1)=false /\
  ∃xs,KT H kvs xs/\h.DictOfH (b1d (M0 P w)) a xs:=a8g ok (.inl e)
end
def a1z(H:Hp)(a:Addr)(y:V)(r:Option V):Prop:=
 (∃kvs k,Rd H a (.dK kvs)/\y=kV k/\r=Y3 kvs k)\/∃kvs k b,Rd H a (.dT kvs)/\y=.ref b/\H b=some (.tup (k.map kV))/\r=Y3 kvs k
def a4P(H:Hp)(a:Addr)(y v:V)(H':Hp):Prop:=
 (∃kvs k,H a=some (.dK kvs)/\y=kV k/\kvs.length<j9/\H'=upd H a (.dK (Z8 kvs k v))) \/
 ∃kvs k b,H a=some (.dT kvs)/\y=.ref b/\H b=some (.tup (k.map kV))/\kvs.length<j9/\H'=upd H a (.dT (Z8 kvs k v))
theorem a1z.k{k:Key}(e:H a=some (.dK kvs)):a1z H a (kV k) (Y3 kvs k):=.inl ⟨kvs,k,.inl e,rfl,rfl⟩
theorem a4P.k{k:Key}(e:H a=some (.dK kvs))(hl:kvs.length<j9):a4P H a (kV k) v (upd H a (.dK (Z8 kvs k v))):=.inl ⟨kvs,k,e,rfl,hl,rfl⟩
theorem a4P.t{kvs:List (List Key×V)}{k:List Key}(e:H a=some (.dT kvs))(eb:H b=some (.tup (k.map kV)))(hl:kvs.length<j9) :
  a4P H a (.ref b) v (upd H a (.dT (Z8 kvs k v))):=.inr ⟨kvs,k,b,e,rfl,eb,hl,rfl⟩
section
variable {r:Value}{o:Option V}{A:G8}{E:Value->g7->Prop}
theorem Inv.big(I:Inv X pins σ H s):T1<s.heap.objs.size:=by
 have h:t5<s.heap.objs.size:=(I.mod.glob.keeps I.bk).lt
 exact b5S (by decide) h
theorem b5A(hu:A.units+1<cLine)(I:Inv X pins σ H s)(g:a1z H a y (some v))(ry:C7 y u)(h:∀w' s',Inv X pins σ H s'->C7 v w'->Q w' s') :
  wpAny (model X.prog X.w) A (a9H (.ref a) u) Q E s:=by
 rcases g with ⟨kvs,k,e,ey,l⟩ | ⟨kvs,k,b,e,ey,eb,l⟩
 ·subst ey
  obtain⟨z,hd,vs,rel,dd⟩:=a8h I.hok e
  obtain⟨w',hw,rw'⟩:=a3g.some_of (v:=v) (o:=b2E vs k) (by rw[l];exact rel.val k)
  exact wpAny_getItem_of (a8d ry) dd.mapOf hw (h w' _ (I.tok _) rw')
 ·subst ey
  cases (show u=Value.ref b from ry)
  obtain⟨z,hd,xs,rel,dd⟩:=a8g I.hok e
  obtain⟨w',hw,rw'⟩:=a3g.some_of (v:=v) (o:=(atKey xs k).map (·.2)) (by rw[l];exact rel.val k)
  obtain⟨p,hp,hp2⟩:=l7.mp hw
  refine wpAny_getItem_heap (a1h hu) (a6m I.hok eb) dd hp ?_
  rw[hp2]
  exact h w' _ (I.tok _) rw'
theorem c5k(hu:A.units+1<cLine)(I:Inv X pins σ H s)(g:a1z H a y o)(ry:C7 y u)(h:∀s',Inv X pins σ H s'->Q (.bool o.isSome) s') :
  wpAny (model X.prog X.w) A (o6 .In u (.ref a)) Q E s:=by
 rcases g with ⟨kvs,k,e,ey,l⟩ | ⟨kvs,k,b,e,ey,eb,l⟩
 ·subst ey
  obtain⟨z,hd,vs,rel,dd⟩:=a8h I.hok e
  refine wpAny_in_of (a8d ry) hd dd.mapOf ?_
  rw[<-(rel.val k).isSome_eq,<-l]
  exact h _ (I.tok _)
 ·subst ey
  cases (show u=Value.ref b from ry)
  obtain⟨z,hd,xs,rel,dd⟩:=a8g I.hok e
  refine wpAny_in_heap (a1h hu) (a6m I.hok eb) hd dd ?_
  have q:=(rel.val k).isSome_eq
  rw[a6M]at q
  rw[<-q,<-l]
  exact h _ (I.tok _)
theorem c0q(hu:A.units+1<cLine)(I:Inv X pins σ H s)(g:a1z H a y o)(ry:C7 y u)(h:∀s',Inv X pins σ H s'->Q (.bool (!o.isSome)) s') :
  wpAny (model X.prog X.w) A (o6 .NotIn u (.ref a)) Q E s:=by
 rcases g with ⟨kvs,k,e,ey,l⟩ | ⟨kvs,k,b,e,ey,eb,l⟩
 ·subst ey
  obtain⟨z,hd,vs,rel,dd⟩:=a8h I.hok e
  refine wpAny_notIn_of (a8d ry) hd dd.mapOf ?_
  rw[<-(rel.val k).isSome_eq,<-l]
  exact h _ (I.tok _)
 ·subst ey
  cases (show u=Value.ref b from ry)
  obtain⟨z,hd,xs,rel,dd⟩:=a8g I.hok e
  refine wpAny_notIn_heap (a1h hu) (a6m I.hok eb) hd dd ?_
  have q:=(rel.val k).isSome_eq
  rw[a6M]at q
  rw[<-q,<-l]
  exact h _ (I.tok _)
theorem b0x{ob:HO}(I:Inv X pins σ H s)(mu:Mut (H a))(hs:Heap.SameBut a s.heap h')(he:∃q,h'.get? a=some q)(new:R3 X.prog X.w (upd H a ob) h' a ob) :
  Inv X pins σ (upd H a ob) { s with heap:=h',toks:=t' }:=
 I.write (x:=a) (e:=a) mu (.inl rfl) (fun b q hb z=>(hs.2 b hb).trans z) he new
theorem b7W{P:v8}{vs:List (Key×Value)}(z:kvs.length<=j9)(hd:(a == T1)=false)(rel:KV kvs vs)(dd:h'.DictOf (M0 P w) a vs) :
  R3 P w H' h' a (.dK kvs):=⟨z,hd,vs,rel,dd⟩
theorem b5z{Q:Unit->g7->Prop}(hu:A.units+1<cLine)(I:Inv X pins σ H s)(g:a4P H a y v H')(ry:C7 y u)(rv:C7 v r)(h:∀s',Inv X pins σ H' s'->Q () s') :
  wpAny (model X.prog X.w) A (c1j (.ref a) u r) Q E s:=by
 rcases g with ⟨kvs,k,e,ey,l,eH⟩ | ⟨kvs,k,b,e,ey,eb,l,eH⟩
 ·subst ey eH
  obtain⟨z,hd,vs,rel,dd⟩:=a8i I.hok e
  have hz:vs.length<=j9:=by rw[<-rel.length];exact z
  have hl:(Z8 kvs k v).length<=j9:=by have:=a3D kvs k v;omega
  refine wpAny_setItem_pairs (hsz:=hz) (a8d ry) dd fun h' dd' hs=>h _ ?_
  have he:∃q,h'.get? a=some q:=let⟨q,_,_,hq,_⟩:=dd'; ⟨q,hq⟩
  exact b0x I (by rw[e];exact True.intro) hs he (b7W hl hd (rel.put k rv) dd')
 ·subst ey eH
  cases (show u=Value.ref b from ry)
  obtain⟨z,hd,xs,rel,dd⟩:=b7U I.hok e
  have hz:xs.length<=j9:=by rw[<-Paired.length rel];exact z
  have hl:(Z8 kvs k v).length<=j9:=by have:=a3D kvs k v;omega
  refine wpAny_setItem_heap (hsz:=hz) (a1h hu) (a6m I.hok eb) dd fun h' dd' hs=>h _ ?_
  obtain⟨q,es,ep,hq,h2,h3,h4,_,h5⟩:=dd'
  refine b0x I (by rw[e];exact True.intro) hs ⟨q,hq⟩ ⟨hl,hd,_,(rel.put k eb rv).keeps fun c ys ec=>?_,q,es,ep,hq,h2,h3,h4,h5⟩
  rw[c9 (G5 ec e (fun z=>nomatch z))]
  exact ec
end
section
variable {k:Key}{A:G8}{E:Value->g7->Prop}
end
def c3n(i:Expr):Prop:=∀ov iv,b6d i false ov iv=operate [ov,iv] (a9H ov iv)
theorem b8J{prog:v8}{A:G8}{E:Value->g7->Prop}{env:Env}{value slice:Expr}{T id:String}
  (hl:typeLookup (.type T) "__getitem__" = pure (some (.builtin id))) (hs:c3n slice)
  (h:wpAny (model prog w) A (eval value env) (fun o s₁=>wpAny (model prog w) A (eval slice env) (fun i s₂=>s₂.TypeIs o T/\wpAny (model prog w) A (a9H o i) Q E s₂) E s₁) E s) :
  wpAny (model prog w) A (eval (.Subscript value slice pos) env) Q E s:=by
 refine Subscript_ (U8 h (fun o s₁ h₁=>U8 h₁ (fun i s₂ h₂=>?_) fun _ _ x=>x) fun _ _ x=>x)
 obtain⟨hT,h₂⟩:=h₂
 unfold c1i
 refine c5 ?_
 rw[getitemInPython_of_ne hT.not_modules]
 refine c5 (wpAny_specialOf hT hl ?_)
 have fin:wpAny (model prog w) A (b6d slice false o i) (fun r s₃=>wpAny (model prog w) A (letTemporaryGo value o r >>= fun _=>pure r) Q E s₃) E s₂:=by
  rw[hs o i]
  exact wpAny_operating (U8 h₂ (fun r s₃ h₃=>c5 (wpAny_letTemporaryGo (l5 h₃))) fun _ _ x=>x)
 first
  | exact l5 (c5 fin)
  | exact c5 (l5 (c5 fin))
  | exact c5 fin
theorem b2e{o:Option V}(I:Inv X pins σ H s)(g:a1z H a y o):s.TypeIs (.ref a) "dict" := by
 rcases g with ⟨kvs,k,e,_,_⟩ | ⟨kvs,k,b,e,_,_,_⟩
 ·obtain⟨_,_,vs,_,dd⟩:=a8h I.hok e
  exact dd.typeIs
 ·obtain⟨_,_,xs,_,dd⟩:=a8g I.hok e
  exact dd.typeIs
def a6D(td ty:TE):TE:=fun σ H Q=>td σ H fun x H1=>ty σ H1 fun y H2=>∃a v,x=.ref a/\a1z H2 a y (some v)/\Q v H2
def a8C(ty td:TE):TE:=fun σ H Q=>ty σ H fun y H1=>td σ H1 fun x H2=>∃a o,x=.ref a/\a1z H2 a y o/\Q (.bl o.isSome) H2
def a0Z(ty td:TE):TE:=fun σ H Q=>ty σ H fun y H1=>td σ H1 fun x H2=>∃a o,x=.ref a/\a1z H2 a y o/\Q (.bl (!o.isSome)) H2
def a0T(td ty tv:TE):TS:=fun D σ H=>tv σ H fun v H1=>td σ H1 fun x H2=>ty σ H2 fun y H3=>∃a H4,x=.ref a/\a4P H3 a y v H4/\D.nx σ H4
section
variable {o i value:Expr}{tpos:Pos}{td ty tv:TE}
theorem b9w(hu:X.A.units+1<cLine)(ho:PE X o td)(hi:PE X i ty)(hs:c3n i):PE X (.Subscript o i pos) (a6D td ty):=by
 intro pins s σ H Q I h
 refine b8J PySem.F.slot_dict_getitem.lookup hs (thn (ho pins s σ H _ I h) fun u s1 ⟨x,H1,I1,rx,q1⟩=>thn (hi pins s1 σ H1 _ I1 q1) fun iv s2 ⟨y,H2,I2,ry,a,v,ex,g,q2⟩=>?_)
 subst ex
 obtain rfl:u=Value.ref a:=rx
 exact⟨b2e I2 g,b5A hu I2 g ry fun w' s3 I3 rw'=>⟨v,H2,I3,rw',q2⟩⟩
theorem b7v(hu:X.A.units+1<cLine)(hi:PE X i ty)(ho:PE X o td):PC X .In i o (a8C ty td):=by
 intro pins s σ H Q I h
 refine thn (hi pins s σ H _ I h) fun iv s1 ⟨y,H1,I1,ry,q1⟩=>thn (ho pins s1 σ H1 _ I1 q1) fun u s2 ⟨x,H2,I2,rx,a,ov,ex,g,q2⟩=>?_
 subst ex
 obtain rfl:u=Value.ref a:=rx
 exact c5k hu I2 g ry fun s3 I3=>⟨.bl ov.isSome,H2,I3,rfl,q2⟩
theorem b5c(hu:X.A.units+1<cLine)(hi:PE X i ty)(ho:PE X o td):PC X .NotIn i o (a0Z ty td):=by
 intro pins s σ H Q I h
 refine thn (hi pins s σ H _ I h) fun iv s1 ⟨y,H1,I1,ry,q1⟩=>thn (ho pins s1 σ H1 _ I1 q1) fun u s2 ⟨x,H2,I2,rx,a,ov,ex,g,q2⟩=>?_
 subst ex
 obtain rfl:u=Value.ref a:=rx
 exact c0q hu I2 g ry fun s3 I3=>⟨.bl (!ov.isSome),H2,I3,rfl,q2⟩
theorem b9j(hu:X.A.units+1<cLine)(ho:PE X o td)(hi:PE X i ty)(hv:PE X value tv)(hs:a1i value (some (.Subscript o i pos')) pos.line X.env=pure false) :
  PS X (.Assign [.Subscript o i pos'] value pos) (a0T td ty tv):=by
 intro pins s σ H D I h
 refine wpAny_Assign_Subscript (thn (hv pins s σ H _ I h) fun r s1 ⟨v,H1,I1,rv,q1⟩=>thn (ho pins s1 σ H1 _ I1 q1) fun u s2 ⟨x,H2,I2,rx,q2⟩=>thn (hi pins s2 σ H2 _ I2 q2) fun iv s3 ⟨y,H3,I3,ry,a,H4,ex,g,q3⟩=>?_) hs
 subst ex
 obtain rfl:u=Value.ref a:=rx
 exact b5z hu I3 g ry rv fun s4 I4=>⟨σ,H4,I4,q3⟩
end
theorem b2d{P:v8}(h:Heap)(hb:T1<h.objs.size):R3 P w H (h.push { cls:=.type "dict",data:=.dict #[] }) h.objs.size (.dK []):=
 ⟨L9 _,beq_eq_false_iff_ne.mpr (Ne.symm (u5 hb)),[],.nil,Heap.DictOf.new h⟩
theorem b7V{P:v8}(h:Heap)(hb:T1<h.objs.size):R3 P w H (h.push { cls:=.type "dict",data:=.dict #[] }) h.objs.size (.dT []):=
 ⟨L9 _,beq_eq_false_iff_ne.mpr (Ne.symm (u5 hb)),[],.nil,_,#[],0,t9 _ rfl,⟨rfl,rfl,rfl⟩,rfl,rfl,b1b⟩
def a2s:TE:=fun _ H Q=>∀p,H p=none->Q (.ref p) (upd H p (.dK []))
def b2O:TE:=fun _ H Q=>∀p,H p=none->Q (.ref p) (upd H p (.dT []))
section
theorem b7q:PE X (.Dict [] [] pos) a2s:=fun pins s σ H Q I h=>
 wpAny_Dict_empty ⟨.ref s.heap.objs.size,_,I.laid (a:=s.heap.objs.size) (o:=.dK []) (t':=s.toks) (fun _ _ q=>g9 _ q) (d9 _) (b2d s.heap I.big),rfl,h _ (I.hok.fresh (d9 _))⟩
theorem b7p:PE X (.Dict [] [] pos) b2O:=fun pins s σ H Q I h=>
 wpAny_Dict_empty ⟨.ref s.heap.objs.size,_,I.laid (a:=s.heap.objs.size) (o:=.dT []) (t':=s.toks) (fun _ _ q=>g9 _ q) (d9 _) (b7V s.heap I.big),rfl,h _ (I.hok.fresh (d9 _))⟩
end
def b2N:List (TE×TE)->St->Hp->(List (V×V)->Hp->Prop)->Prop
 | [],_,H,Q=>Q [] H
 | (tk,tv)::r,σ,H,Q=>tk σ H fun x H1=>tv σ H1 fun y H2=>b2N r σ H2 fun ps H3=>Q ((x,y)::ps) H3
abbrev VV:List (V×V)->List (Value×Value)->Prop:=Paired fun p q=>C7 p.1 q.1/\C7 p.2 q.2
def PPs(X:Cx)(pos:Pos)(keys:List (Option Expr))(values:List Expr)(trs:List (TE×TE)):Prop:=
 ∀(pins:List (Addr×Obj)) (s:g7) (σ:St) (H:Hp) (Q:List (V×V)->Hp->Prop),Inv X pins σ H s->b2N trs σ H Q ->
  wpAny (model X.prog X.w) X.A (evalPairs (pairTrees keys values X.env pos)) (fun vs s'=>∃ps H',Inv X pins σ H' s'/\VV ps vs/\Q ps H') X.xe s
theorem b9l:PPs X pos [] [] []:=fun pins s σ H Q I h=>pairTrees_nil_walk ⟨[],H,I,.nil,h⟩
theorem b7j{k v:Expr}{ks:List (Option Expr)}{vs:List Expr}{tk tv:TE}{trs:List (TE×TE)}(hk:PE X k tk)(hv:PE X v tv)(hr:PPs X pos ks vs trs) :
  PPs X pos (some k::ks) (v::vs) ((tk,tv)::trs):=fun pins s σ H Q I h=>
 pairTrees_cons_walk (thn (hk pins s σ H _ I h) fun u s1 ⟨x,H1,I1,rx,q1⟩=>thn (hv pins s1 σ H1 _ I1 q1) fun w2 s2 ⟨y,H2,I2,ry,q2⟩=>
  thn (hr pins s2 σ H2 _ I2 q2) fun ws s3 ⟨ps,H3,I3,rel,q3⟩=>⟨(x,y)::ps,H3,I3,.cons ⟨rx,ry⟩ rel,q3⟩)
def a4K(kvs more:List (Key×V)):List (Key×V):=more.foldl (fun acc kv=>Z8 acc kv.1 kv.2) kvs
theorem KV.merge:∀ {more:List (Key×V)} {rs:List (Key×Value)} {kvs:List (Key×V)} {vs:List (Key×Value)},KV more rs->KV kvs vs->KV (a4K kvs more) (merged vs rs):=by
 intro more rs kvs vs r
 unfold KV at r
 induction r generalizing kvs vs with
 | nil=>intro q;exact q
 | @cons p q ps qs h t ih=>
  intro r0
  have e:KV (Z8 kvs p.1 p.2) (stored vs q.1 q.2):=by
   have:=r0.put p.1 h.2
   rw[<-h.1];exact this
  exact ih e
theorem a4p:∀(more kvs:List (Key×V)),(a4K kvs more).length<=kvs.length+more.length
 | [],kvs=>by show kvs.length<=kvs.length+0;omega
 | p::r,kvs=>by
  have h1:=a4p r (Z8 kvs p.1 p.2)
  have h2:=a3D kvs p.1 p.2
  show(a4K (Z8 kvs p.1 p.2) r).length<=_
  rw[v7];omega
theorem a8q{P:v8}{w:World}:∀ {kvs:List (Key×V)} {ws:List (Value×Value)},VV (kvs.map fun kv=>(kV kv.1,kv.2)) ws->∃rs,Carries (M0 P w) ws rs/\KV kvs rs
 | [],_,r=>by rw[a7i]at r;cases r;exact⟨[],True.intro,.nil⟩
 | p::kvs,_,r=>by
  rw[F7]at r
  cases r with
  | @cons a b as bs h t=>
   obtain⟨rs,c,q⟩:=a8q (P:=P) (w:=w) t
   obtain⟨b1,b2⟩:=b
   exact⟨(p.1,b2)::rs,⟨a8d h.1,rfl,c⟩,.cons ⟨rfl,h.2⟩ q⟩
def b1w(trs:List (TE×TE)):TE:=fun σ H Q=>∀p,H p=none->b2N trs σ (upd H p (.dK [])) fun ps H2=>H2 p=some (.dK [])/\∃kvs:List (Key×V),ps=kvs.map (fun kv=>(kV kv.1,kv.2))/\kvs.length<=15/\Q (.ref p) (upd H2 p (.dK (a4K [] kvs)))
theorem b9v{keys:List (Option Expr)}{values:List Expr}{trs:List (TE×TE)}(h:PPs X pos keys values trs)(hall:keys.all (·.isSome)=true)(hl:keys.length=values.length)(h0:keys≠[])
  (h15:keys.length<=15):PE X (.Dict keys values pos) (b1w trs):=by
 intro pins s σ H Q I q
 have hn:=I.hok.fresh (d9 s.heap.objs.size)
 have I1:=I.laid (a:=s.heap.objs.size) (o:=.dK []) (h':=s.heap.push { cls:=.type "dict",data:=.dict #[] }) (t':=s.toks) (fun _ _ q=>g9 _ q) (d9 _) (b2d s.heap I.big)
 refine wpAny_Dict_walk (knd:=M0 X.prog X.w) hall hl h0 h15 (thn (h pins _ σ _ _ I1 (q _ hn)) fun ws s2 ⟨ps,H2,I2,rel,e,kvs,ep,lk,q2⟩=>?_)
 subst ep
 obtain⟨rs,c,rk⟩:=a8q (P:=X.prog) (w:=X.w) rel
 obtain⟨z,hd,vs0,r0,dd⟩:=a8i I2.hok e
 cases r0
 refine⟨rs,c,dd,fun h' dd' hs=>⟨.ref s.heap.objs.size,_,?_,rfl,q2⟩⟩
 have hz:(a4K [] kvs).length<=j9:=by
  have h1:=a4p kvs []
  rw[a4g]at h1
  rw[sizeLine_eq];omega
 have he:∃q,h'.get? s.heap.objs.size=some q:=let⟨q,_,_,hq,_⟩:=dd'; ⟨q,hq⟩
 exact b0x I2 (by rw[e];exact True.intro) hs he (b7W hz hd (rk.merge .nil) dd')
structure M1(X:Cx)(o:Expr)(m:Str)(apos:Pos)(e:Expr)(cpos:Pos):Prop where
 base:V1 o m X.env (eval o X.env)=eval o X.env
 few:((V0 cpos (d8 [e] X.env)).all (fun x => !x.1)&&(a8w cpos (a1P [] X.env)).all (fun x=>x.1.isSome)
  && decide (([e]:List Expr).length+([]:List a5K).length+(if([]:List a5K).isEmpty then 0 else 1)<30))=true
 line:(apos.endLine == cpos.line)=true
 trees:V0 cpos (d8 [e] X.env)=[(false,eval e X.env)]
structure M2(X:Cx)(o:Expr)(m:Str)(apos:Pos)(e f:Expr)(cpos:Pos):Prop where
 base:V1 o m X.env (eval o X.env)=eval o X.env
 few:((V0 cpos (d8 [e,f] X.env)).all (fun x => !x.1)&&(a8w cpos (a1P [] X.env)).all (fun x=>x.1.isSome)
  && decide (([e,f]:List Expr).length+([]:List a5K).length+(if([]:List a5K).isEmpty then 0 else 1)<30))=true
 line:(apos.endLine == cpos.line)=true
 trees:V0 cpos (d8 [e,f] X.env)=[(false,eval e X.env),(false,eval f X.env)]
def IsD(H:Hp)(a:Addr):Prop:=(∃kvs,Rd H a (.dK kvs))\/∃kvs,Rd H a (.dT kvs)
theorem c3a(I:Inv X pins σ H s)(d:IsD H a) :
  s.TypeIs (.ref a) "dict" /\ (∀b,Value.ref a=.ref b->∃ob,s.heap.get? b=some ob/\ob.dict=none)/\(a == T1)=false:=by
 rcases d with ⟨kvs,e⟩ | ⟨kvs,e⟩
 ·obtain⟨_,hd,vs,_,dd⟩:=a8h I.hok e
  refine⟨dd.typeIs,fun b q=>?_,hd⟩
  cases q
  obtain⟨ob,_,_,h1,h2,_⟩:=dd
  exact⟨ob,h1,h2.2.1⟩
 ·obtain⟨_,hd,xs,_,dd⟩:=a8g I.hok e
  refine⟨dd.typeIs,fun b q=>?_,hd⟩
  cases q
  obtain⟨ob,_,_,h1,h2,_⟩:=dd
  exact⟨ob,h1,h2.2.1⟩
section
variable {d:V}{r:Value}{o:Option V}{A:G8}{E:Value->g7->Prop}
theorem c3g(hu:A.units+1<cLine)(I:Inv X pins σ H s)(g:a1z H a y o)(ry:C7 y u)(h:∀w' s',Inv X pins σ H s'->C7 (o.getD .non) w'->Q w' s') :
  wpAny (model X.prog X.w) A (call (.builtin "dict.get") [.ref a,u]) Q E s:=by
 rcases g with ⟨kvs,k,e,ey,l⟩ | ⟨kvs,k,b,e,ey,eb,l⟩
 ·subst ey
  obtain⟨z,hd,vs,rel,dd⟩:=a8h I.hok e
  refine call_meetsIn a3K dd.typeIs b2x (b1a _ _) (meets_dict_get (M0 X.prog X.w) a (a8d ry) hd) ⟨_,dd.mapOf,h _ _ (I.tok _) ?_⟩
  rw[l]
  exact(rel.val k).getD rfl
 ·subst ey
  cases (show u=Value.ref b from ry)
  obtain⟨z,hd,xs,rel,dd⟩:=a8g I.hok e
  refine call_meetsIn a3K dd.typeIs b2x (b1a _ _) (meetsH_dict_get (b1d (M0 X.prog X.w)) a b hd) ⟨a1h hu,k,xs,a6m I.hok eb,dd,h _ _ (I.tok _) ?_⟩
  rw[l]
  exact(rel.val k).getD rfl
end
def a5R(td ty:TE):TE:=fun σ H Q=>td σ H fun x H1=>∃a,x=.ref a/\IsD H1 a/\ty σ H1 fun y H2=>∃o,a1z H2 a y o/\Q (o.getD .non) H2
section
variable {o f:Expr}{apos cpos:Pos}{td ty tx:TE}
theorem b7r(hu:X.A.units+1<cLine)(ho:PE X o td)(he:PE X e ty)(m:M1 X o "get" apos e cpos):PE X (.Call (.Attribute o "get" apos) [e] [] cpos) (a5R td ty):=by
 intro pins s σ H Q I h
 refine wpAny_Call_method m.base m.few m.line PySem.F.plainAttrs_dict a3K PySem.F.type_dict_get (thn (ho pins s σ H _ I h) fun u s1 ⟨x,H1,I1,rx,a,ex,d,q1⟩=>?_)
 subst ex
 obtain rfl:u=Value.ref a:=rx
 obtain⟨t1,t2,_⟩:=c3a I1 d
 refine⟨t1,t2,?_⟩
 rw[m.trees]
 refine Calls.callWith_builtin rfl (Calls.evalArgs_plain (Calls.spliced_cons (thn (he pins s1 σ H1 _ I1 q1) fun iv s2 ⟨y,H2,I2,ry,ov,g,q2⟩=>Calls.spliced_nil ?_)))
 exact c3g hu I2 g ry fun w' s3 I3 rw'=>⟨_,H2,I3,rw',q2⟩
end
section
variable {A:G8}{E:Value->g7->Prop}
end
section
variable {A:G8}{E:Value->g7->Prop}
end
end L2
namespace HT
open PySem PyProof.Rows
section
open PySem.SeqAt
open PySem.AutoSeq1 (wpAny_loadPart')
open PySem.MeetsSeq PySem.MeetsSeq2 PySem.MeetsSeq3
end
section
variable {prog:v8}{w:World}{A:G8}{E:Value->g7->Prop}{s:g7}
def sIx(n d:Nat):Option Int->Nat
 | none=>d
 | some v=>if v<0 then (v+(n:Int)).toNat else min v.toNat n
theorem b0c(n d k:Nat):sIx n d (some (k:Int))=min k n:=by
 show(if(k:Int)<0 then ((k:Int)+(n:Int)).toNat else min (k:Int).toNat n)=min k n
 rw[if_neg (by omega),u8]
theorem c1D(n d:Nat)(hd:d<=n)(o:Option Int):sIx n d o<=n:=by
 cases o with
 | none=>exact hd
 | some v=>
  show(if v<0 then (v+(n:Int)).toNat else min v.toNat n)<=n
  by_cases hv:v<0
  ·rw[if_pos hv];omega
  ·rw[if_neg hv];exact Nat.min_le_right _ _
theorem b4o(v:Int)(n d:Nat):(if v<0 then max (v+(n:Int)) 0 else min v (n:Int))=((sIx n d (some v):Nat):Int):=by
 show(if v<0 then max (v+(n:Int)) 0 else min v (n:Int))=(((if v<0 then (v+(n:Int)).toNat else min v.toNat n):Nat):Int)
 by_cases hv:v<0
 ·simp only[if_pos hv];omega
 ·simp only[if_neg hv];omega
theorem b3O(lo hi:Option Int)(n:Nat):Builtin.Slice.sliceAdjust lo hi 1 (n:Int)=(((sIx n 0 lo:Nat):Int),((sIx n n hi:Nat):Int)):=by
 have h1:¬((1:Int)<0):=by omega
 unfold Builtin.Slice.sliceAdjust
 simp only[h1,if_false]
 refine Prod.ext ?_ ?_
 ·cases lo with
  | none=>rfl
  | some v=>exact b4o v n 0
 ·cases hi with
  | none=>rfl
  | some v=>exact b4o v n n
theorem b3k(i j:Nat):Builtin.Slice.slicePlaces (i:Int) (j:Int) 1=j - i:=by
 unfold Builtin.Slice.slicePlaces
 have h1:(1:Int) > 0:=by omega
 simp only[h1,if_true,Int.ediv_one]
 split <;> omega
theorem a7D{v:Value}{o:Option Int}{Q:Option Int->g7->Prop}(p:c0I v o)(h:Q o s):wpAny (model prog w) A (Builtin.Slice.slicePartIndex v) Q E s:=by
 cases p with
 | none=>exact slicePart_none h
 | int i t=>exact slicePart_int h
theorem a5S{sl:Addr}{vl vu:Value}{lo hi:Option Int}{n:Nat}{Q:Int×Int×Nat->g7->Prop}(hs:s.heap.IsSliceOf sl vl vu .none)(pl:c0I vl lo)(pu:c0I vu hi)
  (h:Q (((sIx n 0 lo:Nat):Int),1,sIx n n hi - sIx n 0 lo) s):wpAny (model prog w) A (Builtin.Slice.sliceApplied (.ref sl) (pure (n:Int))) Q E s:=by
 obtain⟨os,hos,hcs,hds⟩:=id hs
 unfold Builtin.Slice.sliceApplied Builtin.Slice.sliceFields
 refine c5 (c5 (c4S hos hds (x:=vl) rfl (c5 (c4S hos hds (x:=vu) rfl (c5 (c4S hos hds (x:=.none) rfl (l5 ?_)))))))
 refine c5 (slicePart_none ?_)
 show wpAny _ _ (if((1:Int) == 0)=true then _ else _) _ _ s
 rw[if_neg (by decide)]
 refine c5 (a7D pl (c5 (a7D pu (c5 (l5 ?_)))))
 show wpAny _ _ (match Builtin.Slice.sliceAdjust lo hi 1 (n:Int)with | (lo,hi)=>pure (lo,(1:Int),Builtin.Slice.slicePlaces lo hi 1)) _ _ s
 rw[b3O lo hi n]
 show wpAny _ _ (pure (((sIx n 0 lo:Nat):Int),(1:Int),Builtin.Slice.slicePlaces ((sIx n 0 lo:Nat):Int) ((sIx n n hi:Nat):Int) 1)) _ _ s
 rw[b3k]
 exact l5 h
theorem b7k(xs:Array Value)(i k:Nat):((w4 k).filterMap fun(m:Nat)=>xs[((i:Int)+(m:Int) * 1).toNat]?).toArray=((xs.toList.drop i).take k).toArray:=by
 have e:(fun(m:Nat)=>xs[((i:Int)+(m:Int) * 1).toNat]?)=fun m=>xs[i+m]?:=by
  funext m
  have:((i:Int)+(m:Int) * 1).toNat=i+m:=by omega
  rw[this]
 rw[e]
 have:=pick_run xs i k
 rw[List.filterMap_map]at this
 have e2:((fun x=>xs[x]?) ∘ fun x=>i+x)=fun m=>xs[i+m]?:=rfl
 rw[e2]at this
 rw[this]
theorem a5q{t sl:Addr}{items:Array Value}{vl vu:Value}{lo hi:Option Int}{Q:Value->g7->Prop}(ht:IsTup s.heap t items)(hs:s.heap.IsSliceOf sl vl vu .none)(pl:c0I vl lo)(pu:c0I vu hi)
  (hw:¬(sIx items.size 0 lo=0/\sIx items.size items.size hi=items.size))
  (h:Q (.ref s.heap.objs.size) { s with heap:=s.heap.push { cls:=.type "tuple",data:=.seq ((items.toList.drop (sIx items.size 0 lo)).take (sIx items.size items.size hi - sIx items.size 0 lo)).toArray } })
  (hsz:items.size<=j9):wpAny (model prog w) A (a9H (.ref t) (.ref sl)) Q E s:=by
 have htake:sizeOk (.seq ((items.toList.drop (sIx items.size 0 lo)).take (sIx items.size items.size hi - sIx items.size 0 lo)).toArray):=by
  show((items.toList.drop (sIx items.size 0 lo)).take (sIx items.size items.size hi - sIx items.size 0 lo)).toArray.size<=j9
  rw[j4,K0,a8z,Z5]
  omega
 have hj:sIx items.size items.size hi<=items.size:=c1D _ _ (d9 _) hi
 obtain⟨os,hos,hcs,hds⟩:=id hs
 have hTs:s.TypeIs (.ref sl) "slice" := ⟨os,hos,hcs⟩
 unfold a9H
 try with_reducible refine a5G ?_
 first | refine c5 (l5 ?_) | skip
 refine c5 (wpAny_sequenceKey ht.typeIs (by decide) ?_)
 refine c5 (a5H (name:=Str.ofString "__getitem__") ht.typeIs Z9
  (a2p Z9 ht.typeIs entry_tuple_getitem ?_ (args_tuple_getitem _ _)))
 show wpAny _ _ (Builtin.Tuple.tupleItemsOf (.ref t) >>= _) _ _ s
 refine c5 (tupleItemsOf_ ht ?_)
 refine c5 (wpAny_typeOf hTs ?_)
 rw[if_pos (by decide)]
 refine c5 (a5S hs pl pu ?_)
 have hno:¬((((sIx items.size 0 lo:Nat):Int) == 0&&(1:Int) == 1&&(sIx items.size items.size hi - sIx items.size 0 lo) == items.size)=true):=by
  intro q
  rw[Q0,Q0]at q
  have q1:((sIx items.size 0 lo:Nat):Int)=0:=eq_of_beq q.1.1
  have q2:sIx items.size items.size hi - sIx items.size 0 lo=items.size:=eq_of_beq q.2
  exact hw ⟨by omega,by omega⟩
 show wpAny _ _ (if(((sIx items.size 0 lo:Nat):Int) == 0&&(1:Int) == 1&&(sIx items.size items.size hi - sIx items.size 0 lo) == items.size)=true then _ else _) _ _ s
 rw[if_neg hno,b7k]
 first
  | exact c5 (m:=Builtin.Tuple.tupleExact _) (O2 (l5 ⟨_,rfl,l5 h⟩) htake)
  | exact c5 (m:=Builtin.Tuple.tupleExact _) (O2 (c5 (l5 (l5 ⟨_,rfl,l5 h⟩))) htake)
  | exact c5 (c5 (m:=Builtin.Tuple.tupleExact _) (O2 (l5 (l5 ⟨_,rfl,l5 h⟩)) htake))
  | exact c5 (c5 (m:=Builtin.Tuple.tupleExact _) (O2 (l5 ⟨_,rfl,l5 h⟩) htake))
end
end HT
namespace L2
open PySem PySem.Spec PyProof.Rows
variable{X:Cx}{pins:List (Addr×Obj)}{σ:St}{H:Hp}{s:g7}{xs:List V}{us:List Value}
abbrev TO:=St->Hp->(Option Int->Hp->Prop)->Prop
def PO(X:Cx)(e:Option Expr)(t:TO):Prop:=
 ∀(pins:List (Addr×Obj)) (s:g7) (σ:St) (H:Hp) (Q:Option Int->Hp->Prop),Inv X pins σ H s->t σ H Q ->
  wpAny (model X.prog X.w) X.A (evalPart e X.env) (fun u s'=>∃o H',Inv X pins σ H' s'/\c0I u o/\Q o H') X.xe s
def a1B:TO:=fun _ H Q=>Q none H
def a6C(t:TE):TO:=fun σ H Q=>t σ H fun x H1=>∃i,x=.int i/\Q (some i) H1
section
variable {e:Expr}{te:TE}{lo hi:Option Expr}{tl th:TO}{pos p2:Pos}
theorem b9o:PO X none a1B:=by
 intro pins s σ H Q I h
 rw[evalPart_none]
 exact l5 ⟨none,H,I,.none,h⟩
theorem b9n(h:PE X e te):PO X (some e) (a6C te):=by
 intro pins s σ H Q I hw
 rw[evalPart_some]
 refine thn (h pins s σ H _ I hw) fun u s1 ⟨x,H1,I1,r1,q1⟩=>?_
 obtain⟨i,rfl,q⟩:=q1
 obtain⟨t,rfl⟩:=r1
 exact⟨some i,H1,I1,.int i t,q⟩
def SlR(X:Cx)(r:V->Option Int->Option Int->Hp->VK->Prop):Prop:=
 ∀(pins:List (Addr×Obj)) (s:g7) (σ:St) (H:Hp) (x:V) (v vl vu:Value) (lo hi:Option Int) (sl:Addr) (Q:VK),Inv X pins σ H s->C7 x v->s.heap.IsSliceOf sl vl vu .none->c0I vl lo->c0I vu hi->r x lo hi H Q ->
  ∃T id,typeLookup (.type T) "__getitem__" = pure (some (.builtin id))/\s.TypeIs v T/\wpAny (model X.prog X.w) X.A (a9H v (.ref sl)) (EP X pins σ Q) X.xe s
theorem SlR.or{r r':V->Option Int->Option Int->Hp->VK->Prop}(h:SlR X r)(h':SlR X r'):SlR X (fun x lo hi H Q=>r x lo hi H Q\/r' x lo hi H Q):=by
 intro pins s σ H x v vl vu lo hi sl Q I rx hs pl pu q
 rcases q with q | q
 ·exact h pins s σ H x v vl vu lo hi sl Q I rx hs pl pu q
 ·exact h' pins s σ H x v vl vu lo hi sl Q I rx hs pl pu q
def tSl(r:V->Option Int->Option Int->Hp->VK->Prop)(te:TE)(tl th:TO):TE:=fun σ H Q=>te σ H fun x H1=>tl σ H1 fun l H2=>th σ H2 fun u H3=>r x l u H3 Q
theorem b7n{r:V->Option Int->Option Int->Hp->VK->Prop}(hr:SlR X r)(he:PE X e te)(hl:PO X lo tl)(hu:PO X hi th):PE X (.Subscript e (.Slice lo hi none p2) pos) (tSl r te tl th):=by
 intro pins s σ H Q I h
 refine Subscript_ (thn (he pins s σ H _ I h) fun v s1 ⟨x,H1,I1,r1,q1⟩=>?_)
 refine wpAny_Slice (thn (hl pins s1 σ H1 _ I1 q1) fun vl s2 ⟨l,H2,I2,pl,q2⟩=>thn (hu pins s2 σ H2 _ I2 q2) fun vu s3 ⟨u,H3,I3,pu,q3⟩=>?_)
 rw[evalPart_none]
 refine l5 ?_
 have I4:Inv X pins σ H3 { s3 with heap:=s3.heap.push { cls:=.type "slice",data:=.fields #[vl,vu,.none] } }:=I3.kept (t':=s3.toks) fun b ob q=>g9 _ q
 obtain⟨T,id,hT,ht,hg⟩:=hr pins { s3 with heap:=s3.heap.push { cls:=.type "slice",data:=.fields #[vl,vu,.none] } } σ H3 x v vl vu l u s3.heap.objs.size Q I4 r1 (Heap.IsSliceOf.new ..) pl pu q3
 show wpAny (model X.prog X.w) X.A (c1i e (.Slice lo hi none p2) v (.ref s3.heap.objs.size)) (EP X pins σ Q) X.xe { s3 with heap:=s3.heap.push { cls:=.type "slice",data:=.fields #[vl,vu,.none] } }
 exact tail_any (ops:=[.ref s3.heap.objs.size,v]) ht hT hg (by with_unfolding_all rfl)
def a4M(xs:List V)(lo hi:Option Int):List V:=(xs.drop (HT.sIx xs.length 0 lo)).take (HT.sIx xs.length xs.length hi - HT.sIx xs.length 0 lo)
theorem a6J(xs:List V)(lo hi:Option Int):(a4M xs lo hi).length<=xs.length:=by
 unfold a4M
 rw[K0,a8z]
 omega
def c4Y(K:Fg):V->Option Int->Option Int->Hp->VK->Prop:=fun x lo hi H Q=>∃a xs,x=.ref a/\SqT K H a xs /\
 ¬(HT.sIx xs.length 0 lo=0/\HT.sIx xs.length xs.length hi=xs.length)/\∀p,H p=none->Q (.ref p) (upd H p (.tup (a4M xs lo hi)))
theorem c1n:SlR X (c4Y X.K):=by
 intro pins s σ H x v vl vu lo hi sl Q I rx hs pl pu h
 obtain⟨a,xs,rfl,hx,hw,q⟩:=h
 cases rx
 obtain⟨its,r,ht,hz⟩:=I.tuple hx
 have hlen:its.toArray.size=xs.length:=by rw[j4];exact r.length.symm
 refine⟨"tuple",_,Z9.lookup,ht.typeIs,?_⟩
 refine HT.a5q ht hs pl pu (by rw[hlen];exact hw) ?_ (by rw[hlen];exact hz)
 rw[hlen]
 refine⟨.ref s.heap.objs.size,_,I.laid (t':=s.toks) (o:=.tup (a4M xs lo hi)) (fun b ob q=>g9 _ q) (d9 _) ?_,rfl,q _ (I.hok.fresh (d9 _))⟩
 exact⟨C2 (a6J xs lo hi) hz,_,(r.drop (HT.sIx xs.length 0 lo)).take (HT.sIx xs.length xs.length hi - HT.sIx xs.length 0 lo),IsTup.new _ _⟩
end
def ixN(n:Nat)(i:Int):Option Nat:=if 0<=i then (if i<n then some i.toNat else none)else if -(n:Int)<=i then some (i+n).toNat else none
def atI{α:Type}(xs:List α)(i:Int):Option α:=(ixN xs.length i).bind fun j=>xs[j]?
theorem b4h{n:Nat}{i:Int}{j:Nat}(h:ixN n i=some j):seqIndex? i n=some j/\j<n /\ -(n:Int)<=i/\i<n:=by
 unfold ixN at h
 by_cases h0:0<=i
 ·rw[if_pos h0]at h
  by_cases h1:i<n
  ·rw[if_pos h1]at h
   have e:i.toNat=j:=Option.some.inj h
   exact⟨by rw[c4T h0 h1,e],by omega,by omega,h1⟩
  ·rw[if_neg h1]at h;cases h
 ·rw[if_neg h0]at h
  by_cases h1 : -(n:Int)<=i
  ·rw[if_pos h1]at h
   have e:(i+n).toNat=j:=Option.some.inj h
   exact⟨by rw[c3H (by omega) h1,e],by omega,h1,by omega⟩
  ·rw[if_neg h1]at h;cases h
theorem b0K{α:Type}{xs:List α}{i:Int}{v:α}(h:atI xs i=some v):∃j,seqIndex? i xs.length=some j/\xs[j]? = some v/\j<xs.length /\ -(xs.length:Int)<=i/\i<xs.length:=by
 unfold atI at h
 cases e:ixN xs.length i with
 | none=>rw[e]at h;cases h
 | some j=>
  rw[e]at h
  obtain⟨h1,h2,h3,h4⟩:=b4h e
  exact⟨j,h1,h,h2,h3,h4⟩
theorem M3{α:Type}{xs:List α}{j:Nat}{v:α}(h:xs[j]? = some v):atI xs (j:Int)=some v:=by
 have hj:j<xs.length:=(j8.mp h).1
 have e:ixN xs.length (j:Int)=some j:=by
  unfold ixN
  rw[if_pos (by omega),if_pos (by omega)];simp
 unfold atI;rw[e];exact h
def b0Q(b:Expr):Prop:=∀o i,b6d b false o i=operate [o,i] (a9H o i)
def IxR(X:Cx)(r:R2):Prop:=
 ∀(value slice:Expr) (pins:List (Addr×Obj)) (s:g7) (σ:St) (H:Hp) (x y:V) (v u:Value) (Q:VK),Inv X pins σ H s->C7 x v->C7 y u->r x y H Q ->
  b6d slice false v u=operate [v,u] (a9H v u)->wpAny (model X.prog X.w) X.A (c1i value slice v u) (EP X pins σ Q) X.xe s
def MtR(X:Cx)(id:String)(r:V->List V->Hp->VK->Prop):Prop:=
 ∀(pins:List (Addr×Obj)) (s:g7) (σ:St) (H:Hp) (x:V) (xs:List V) (v:Value) (us:List Value) (Q:VK),Inv X pins σ H s->C7 x v->E2 xs us->r x xs H Q ->
  wpAny (model X.prog X.w) X.A (call (.builtin id) (v::us)) (EP X pins σ Q) X.xe s
section
variable {a b:Expr}{ta tb:TE}{pos:Pos}
theorem IxR.or{r r':R2}(h:IxR X r)(h':IxR X r'):IxR X (fun x y H Q=>r x y H Q\/r' x y H Q):=by
 intro value slice pins s σ H x y v u Q I rx ry q hs
 rcases q with q | q
 ·exact h value slice pins s σ H x y v u Q I rx ry q hs
 ·exact h' value slice pins s σ H x y v u Q I rx ry q hs
theorem c4s{r:R2}(hr:IxR X r)(ha:PE X a ta)(hb:PE X b tb)(hs:b0Q b):PE X (.Subscript a b pos) (tOp r ta tb):=by
 intro pins s σ H Q I h
 exact Subscript_ (c3h ha hb I h fun v u s2 x y H2 I2 rx ry q=>hr a b pins s2 σ H2 x y v u Q I2 rx ry q (hs _ _))
def c4d(K:Fg):R2:=fun x y H Q=>∃p xs i v,x=.ref p/\y=.int i/\SqL K H p xs/\atI xs i=some v/\Q v H
def c4b(K:Fg):R2:=fun x y H Q=>∃p xs i v,x=.ref p/\y=.int i/\SqT K H p xs/\atI xs i=some v/\Q v H
def c4c:R2:=fun x y H Q=>∃z i c,x=.str z/\y=.int i/\z.length<=j9/\atI z.cps.toList i=some c/\Q (.str ⟨#[c]⟩) H
theorem c0g:IxR X (c4d X.K):=by
 intro value slice pins s σ H x y v u Q I rx ry h hs
 obtain⟨p,xs,i,z,rfl,rfl,hq,he,q⟩:=h
 cases rx
 obtain⟨t,rfl⟩:=ry
 obtain⟨its,r,pl,hz⟩:=I.list hq
 obtain⟨j,h1,h2,h3,h4,h5⟩:=b0K he
 obtain⟨w,ew,rw'⟩:=r.get h2
 have hl:=r.length
 have hn:=a4L
 have fin:EP X pins σ Q w s:=⟨z,H,I,rw',q⟩
 by_cases h0:0<=i
 ·have hj:i.toNat=j:=by
   rw[c4T h0 h5]at h1
   exact Option.some.inj h1
  exact item_listR pl.isList h0 (by omega) (by rw[hj];simpa using ew) fin hs
 ·have hj:(i+(its.toArray.size:Int)).toNat=j:=by
   rw[c3H (by omega) h4]at h1
   rw[j4,<-hl]
   exact Option.some.inj h1
  exact c3A (x:=w) pl.isList.typeIs slot_list_getitem.lookup
   (wpAny_getItem_list_neg (Q:=fun r s'=>r=w/\EP X pins σ Q r s') pl.isList (by omega) (by rw[j4] <;> omega) (by omega) (by rw[hj];simpa using ew) ⟨rfl,fin⟩) hs
theorem c2W:IxR X (c4b X.K):=by
 intro value slice pins s σ H x y v u Q I rx ry h hs
 obtain⟨p,xs,i,z,rfl,rfl,hq,he,q⟩:=h
 cases rx
 obtain⟨t,rfl⟩:=ry
 obtain⟨its,r,pl,hz⟩:=I.tuple hq
 obtain⟨j,h1,h2,h3,h4,h5⟩:=b0K he
 obtain⟨w,ew,rw'⟩:=r.get h2
 have hl:=r.length
 have hn:=a4L
 have fin:EP X pins σ Q w s:=⟨z,H,I,rw',q⟩
 exact c3A (x:=w) pl.typeIs slot_tuple_getitem.lookup
  (getItem_tuple (j:=j) (Q:=fun r s'=>r=w/\EP X pins σ Q r s') pl (by omega) (by omega) (by rw[j4,<-hl];exact h1) (by simpa using ew) ⟨rfl,fin⟩) hs
theorem c2X:IxR X c4c:=by
 intro value slice pins s σ H x y v u Q I rx ry h hs
 obtain⟨z,i,c,rfl,rfl,hz,he,q⟩:=h
 obtain⟨t,rfl⟩:=rx
 obtain⟨t',rfl⟩:=ry
 obtain⟨j,h1,h2,h3,h4,h5⟩:=b0K he
 have hl:z.cps.toList.length=z.length:=by simp[Str.length]
 rw[hl]at h1 h4 h5
 have hn:=a4L
 exact tail_any (typeIs_str s z t) slot_str_getitem.lookup (getItem_str (c:=c) (by
  have e1:decide (i < -(2 ^ 63:Int))=false:=c6w (by omega)
  have e2:decide (i ≥ 2 ^ 63)=false:=c6w (by omega)
  rw[e1,e2,c4H]) (by rw[h1];simpa using h2) ⟨.str ⟨#[c]⟩,H,I.tok _,⟨_,rfl⟩,q⟩) hs
def rIx(K:Fg):R2:=fun x y H Q=>c4d K x y H Q\/c4b K x y H Q\/c4c x y H Q
theorem c2Y:IxR X (rIx X.K):=c0g.or (c2W.or c2X)
theorem b3z(its:List Value)(n j:Nat)(u:Value):Obj.mapSeq (·.setIfInBounds j u) { cls:=.type "list",data:=.seq its.toArray n }={ cls:=.type "list",data:=.seq (its.set j u).toArray n }:=by
 simp[Obj.mapSeq]
theorem Inv.lst{pins:List (Addr×Obj)}{σ:St}{H:Hp}{s:g7}{p:Addr}{xs:List V}(I:Inv X pins σ H s)(h:H p=some (.lst xs)) :
  ∃(its:List Value) (n:Nat),E2 xs its/\s.heap.get? p=some { cls:=.type "list",data:=.seq its.toArray n }/\xs.length<=j9:=by
 obtain⟨z,its,n,r,e⟩:=I.hok p _ h
 exact⟨its,n,r,e,z⟩
theorem Inv.lstUpd{p:Addr}{ys:List V}{its its':List Value}{n n':Nat}{f:Obj->Obj}(I:Inv X pins σ H s)(h:H p=some (.lst xs))
  (ho:s.heap.get? p=some { cls:=.type "list",data:=.seq its.toArray n }) (hf:f { cls:=.type "list",data:=.seq its.toArray n }={ cls:=.type "list",data:=.seq its'.toArray n' }) (r:E2 ys its') (hz:ys.length<=j9) (t:Nat) :
  Inv X pins σ (upd H p (.lst ys)) { s with heap:=s.heap.update p f,toks:=t }:=by
 have e:(s.heap.update p f).get? p=some { cls:=.type "list",data:=.seq its'.toArray n' }:=by
  rw[b5U f ho (by rw[hf] <;> rfl),hf]
 refine I.write (x:=p) (e:=p) (by rw[h];trivial) (.inl rfl) (fun b u hb q=>(b4x _ _ (Ne.symm hb)).trans q) ⟨_,e⟩ ?_
 exact⟨hz,its',n',r,e⟩
def c4a:V->V->V->Hp->(Hp->Prop)->Prop:=fun o i v H Q=>∃p xs k j,o=.ref p/\i=.int k/\H p=some (.lst xs)/\ixN xs.length k=some j/\Q (upd H p (.lst (xs.set j v)))
theorem b6H:b8h X c4a:=by
 intro pins s σ H o i v ov iv u Q I ro ri rv h
 obtain⟨p,xs,k,j,rfl,rfl,hp,hj,q⟩:=h
 cases ro
 obtain⟨t,rfl⟩:=ri
 obtain⟨its,n,r,ho,hz⟩:=I.lst hp
 obtain⟨h1,h2,h3,h4⟩:=b4h hj
 have hl:=r.length
 have hn:=a4L
 have I':Inv X pins σ (upd H p (.lst (xs.set j v))) { s with heap:=s.heap.update p (Obj.mapSeq (·.setIfInBounds j u)) }:=
  I.lstUpd hp ho (b3z its n j u) (r.set rv j) (by rw[W4];exact hz) s.toks
 by_cases h0:0<=k
 ·have hk:k.toNat=j:=by
   rw[c4T h0 h4]at h1
   exact Option.some.inj h1
  exact PySem.W.ki_setAt ho h0 (by omega) (by rw[j4,<-hl];exact h4) (by rw[hk];exact⟨_,I',q⟩)
 ·have hk:(k+(its.toArray.size:Int)).toNat=j:=by
   rw[c3H (by omega) h3]at h1
   rw[j4,<-hl]
   exact Option.some.inj h1
  exact PySem.W.ki_setBack ho (by omega) (by rw[j4,<-hl];exact h3) (by omega) (by rw[hk];exact⟨_,I',q⟩)
theorem a9R(lo hi:Option Int)(n:Nat):(a3j lo hi none n).1=((HT.sIx n 0 lo:Nat):Int)/\(a3j lo hi none n).2.1=((HT.sIx n n hi:Nat):Int)/\(a3j lo hi none n).2.2=1:=by
 refine⟨?_,?_,rfl⟩
 ·cases lo with
  | none=>simp[a3j,HT.sIx]
  | some i=>
   simp only[a3j,HT.sIx,b8v,show(1:Int) > 0 by decide,if_true]
   by_cases h:i<0
   ·simp only[h,if_true] <;> omega
   ·simp only[h,if_false] <;> omega
 ·cases hi with
  | none=>simp[a3j,HT.sIx]
  | some i=>
   simp only[a3j,HT.sIx,b8v,show(1:Int) > 0 by decide,if_true]
   by_cases h:i<0
   ·simp only[h,if_true] <;> omega
   ·simp only[h,if_false] <;> omega
theorem a8E(its:List Value)(lo hi:Option Int):slicePick its.toArray lo hi none=((its.drop (HT.sIx its.length 0 lo)).take (HT.sIx its.length its.length hi - HT.sIx its.length 0 lo)).toArray:=by
 obtain⟨h1,h2,h3⟩:=a9R lo hi its.toArray.size
 unfold slicePick
 rw[h1,h2,h3]
 simp only[sliceRange_one,pick_run,j4] <;> rfl
def c1H(K:Fg):V->Option Int->Option Int->Hp->VK->Prop:=fun x lo hi H Q=>∃a xs,x=.ref a/\SqL K H a xs/\∀p,H p=none->Q (.ref p) (upd H p (.lst (a4M xs lo hi)))
theorem b3Z:SlR X (c1H X.K):=by
 intro pins s σ H x v vl vu lo hi sl Q I rx hs pl pu h
 obtain⟨a,xs,rfl,hx,q⟩:=h
 cases rx
 obtain⟨its,r,ht,hz⟩:=I.list hx
 have hlen:=r.length
 refine⟨"list",_,slot_list_getitem.lookup,ht.isList.typeIs,?_⟩
 refine wpAny_getItem_list_slice ht.isList hs pl pu .none (by simp) ?_ (by rw[j4] <;> omega)
 rw[a8E,<-hlen]
 refine⟨.ref s.heap.objs.size,_,I.laid (t':=s.toks) (o:=.lst (a4M xs lo hi)) (fun b ob q=>g9 _ q) (d9 _) ?_,rfl,q _ (I.hok.fresh (d9 _))⟩
 exact⟨C2 (a6J xs lo hi) hz,_,0,(r.drop (HT.sIx xs.length 0 lo)).take (HT.sIx xs.length xs.length hi - HT.sIx xs.length 0 lo),t9 _ rfl⟩
def F2:V->Bool
 | .non=>true
 | .bl _=>true
 | .int _=>true
 | .str _=>true
 | _=>false
def eqV:V->V->Bool
 | .non,.non=>true
 | .bl a,.bl b=>a == b
 | .bl a,.int b=>(if a then 1 else 0) == b
 | .int a,.bl b=>a == (if b then 1 else 0)
 | .int a,.int b=>a == b
 | .str a,.str b=>a == b
 | _,_=>false
theorem a8f{A:G8}{y x:V}{u v:Value}(ry:C7 y u)(rx:C7 x v)(fy:F2 y=true)(fx:F2 x=true):SeqAt.EqAt A s u v (eqV y x):=by
 cases y with
 | non=>
  cases ry
  cases x with
  | non=>cases rx;exact SeqAt.EqAt.same _
  | bl b=>cases rx;exact SeqAt.EqAt.none_bool b
  | int b=>obtain⟨t,rfl⟩:=rx;exact SeqAt.EqAt.none_int b t
  | str b=>obtain⟨t,rfl⟩:=rx;exact SeqAt.EqAt.none_str b t
  | _=>exact absurd (show false=true from fx) l3
 | bl a=>
  cases ry
  cases x with
  | non=>cases rx;exact SeqAt.EqAt.bool_none a
  | bl b=>cases rx;exact SeqAt.EqAt.bool_bool a b
  | int b=>obtain⟨t,rfl⟩:=rx;exact SeqAt.EqAt.bool_int a b t
  | str b=>obtain⟨t,rfl⟩:=rx;exact SeqAt.EqAt.bool_str a b t
  | _=>exact absurd (show false=true from fx) l3
 | int a=>
  obtain⟨t',rfl⟩:=ry
  cases x with
  | non=>cases rx;exact SeqAt.EqAt.int_none a t'
  | bl b=>cases rx;exact SeqAt.EqAt.int_bool a t' b
  | int b=>obtain⟨t,rfl⟩:=rx;exact SeqAt.EqAt.int_int a t' b t
  | str b=>obtain⟨t,rfl⟩:=rx;exact SeqAt.EqAt.int_str a t' b t
  | _=>exact absurd (show false=true from fx) l3
 | str a=>
  obtain⟨t',rfl⟩:=ry
  cases x with
  | non=>cases rx;exact SeqAt.EqAt.str_none a t'
  | bl b=>cases rx;exact SeqAt.EqAt.str_bool a t' b
  | int b=>obtain⟨t,rfl⟩:=rx;exact SeqAt.EqAt.str_int a t' b t
  | str b=>obtain⟨t,rfl⟩:=rx;exact SeqAt.EqAt.str_str a t' b t
  | _=>exact absurd (show false=true from fx) l3
 | _=>exact absurd (show false=true from fy) l3
def eqU(x:V)(u:Value):Bool:=match u with
 | .none=>eqV .non x
 | .bool b=>eqV (.bl b) x
 | .int i _=>eqV (.int i) x
 | .str z _=>eqV (.str z) x
 | _=>false
theorem b7T{x y:V}{u:Value}(r:C7 y u)(f:F2 y=true):eqU x u=eqV y x:=by
 cases y with
 | non=>cases r;rfl
 | bl b=>cases r;rfl
 | int i=>obtain⟨t,rfl⟩:=r;rfl
 | str z=>obtain⟨t,rfl⟩:=r;rfl
 | _=>exact absurd (show false=true from f) l3
theorem b0M{x:V}:∀ {xs:List V} {us:List Value},E2 xs us->xs.all F2=true->us.any (eqU x)=xs.any fun y=>eqV y x
 | _,_,.nil,_=>rfl
 | y::xs,u::us,.cons r t,f=>by
  rw[P9,Q0]at f
  rw[P8,P8,b7T r f.1,b0M t f.2]
theorem a8b{A:G8}{x:V}{v:Value}(rx:C7 x v)(fx:F2 x=true):∀ {xs:List V} {us:List Value},E2 xs us->xs.all F2=true->∀u∈us,SeqAt.EqAt A s u v (eqU x u)
 | _,_,.nil,_=>fun u hu=>by cases hu
 | y::xs,u::us,.cons r t,f=>fun u' hu=>by
  rw[P9,Q0]at f
  rcases c8.mp hu with rfl | hu
  ·rw[b7T r f.1];exact a8f r rx f.1 fx
  ·exact a8b rx fx t f.2 u' hu
def inV(x:V)(xs:List V):Bool:=xs.any fun y=>eqV y x
def rIn(K:Fg)(neg:Bool):R2:=fun x y H Q=>∃p xs,y=.ref p/\(SqL K H p xs\/SqT K H p xs)/\F2 x=true/\xs.all F2=true/\Q (.bl (if neg then !inV x xs else inV x xs)) H
theorem a9q:OpR X (o6 .In) (rIn X.K false):=by
 intro pins s σ H x y v u Q I rx ry h
 obtain⟨p,xs,rfl,hq,fx,fs,q⟩:=h
 cases ry
 rcases hq with hq | hq
 ·obtain⟨its,r,pl,hz⟩:=I.list hq
  refine SeqAt.in_listAt (eqU x) pl.isList (fun w hw=>a8b rx fx r fs w (by simpa using hw)) ⟨.bl _,H,I,rfl,?_⟩
  rw[show its.toArray.any (eqU x)=its.any (eqU x) by simp,b0M r fs]
  exact q
 ·obtain⟨its,r,pl,hz⟩:=I.tuple hq
  refine SeqAt.in_tupleAt (eqU x) pl (fun w hw=>a8b rx fx r fs w (by simpa using hw)) ⟨.bl _,H,I,rfl,?_⟩
  rw[show its.toArray.any (eqU x)=its.any (eqU x) by simp,b0M r fs]
  exact q
theorem b0E:U3 X (.builtin "len") (fun xs H Q=>∃p ys,xs=[.ref p]/\(SqL X.K H p ys\/SqT X.K H p ys)/\Q (.int ys.length) H):=by
 intro pins s σ H xs us Q I r h
 obtain⟨p,ys,rfl,hq,q⟩:=h
 obtain⟨u,rfl,rx⟩:=a4k r
 cases rx
 have hn:=a4L
 rcases hq with hq | hq
 ·obtain⟨its,r',pl,hz⟩:=I.list hq
  have hlen:=r'.length
  exact Calls.call_len_list pl.isList (by simp only[j4] <;> omega) ⟨.int ys.length,H,I.tok _,⟨s.toks+1,by rw[j4,hlen]⟩,q⟩
 ·obtain⟨its,r',pl,hz⟩:=I.tuple hq
  have hlen:=r'.length
  exact len_tuple pl (by simp only[j4] <;> omega) ⟨.int ys.length,H,I.tok _,⟨s.toks+1,by rw[j4,hlen]⟩,q⟩
theorem b0D:U3 X (.builtin "len") (fun xs H Q=>∃z,xs=[.str z]/\z.length<=j9/\Q (.int z.length) H):=by
 intro pins s σ H xs us Q I r h
 obtain⟨z,rfl,hz,q⟩:=h
 obtain⟨u,rfl,t,rfl⟩:=a4k r
 have hn:=a4L
 exact len_str (by omega) ⟨.int z.length,H,I.tok _,⟨_,rfl⟩,q⟩
theorem U3.or{f:Value}{r r':List V->Hp->VK->Prop}(h:U3 X f r)(h':U3 X f r'):U3 X f (fun xs H Q=>r xs H Q\/r' xs H Q):=by
 intro pins s σ H xs us Q I rs q
 rcases q with q | q
 ·exact h pins s σ H xs us Q I rs q
 ·exact h' pins s σ H xs us Q I rs q
theorem b0C:U3 X (.type "list") (fun xs H Q=>∃p ys,xs=[.ref p]/\(SqL X.K H p ys\/SqT X.K H p ys)/\∀l,H l=none->Q (.ref l) (upd H l (.lst ys))):=by
 intro pins s σ H xs us Q I r h
 obtain⟨p,ys,rfl,hq,q⟩:=h
 obtain⟨u,rfl,rx⟩:=a4k r
 cases rx
 have fin:∀(its:List Value),E2 ys its->ys.length<=j9->∀(h':Heap) (c':Nat),(∀b o',s.heap.get? b=some o'->h'.get? b=some o') ->
   h'.get? s.heap.objs.size=some { cls:=.type "list",dict:=none,data:=.seq its.toArray c',slots := #[] }->EP X pins σ Q (.ref s.heap.objs.size) { s with heap:=h' }:=fun its r' hz h' c' kp e=>
  ⟨.ref s.heap.objs.size,_,I.laid (t':=s.toks) kp (d9 _) (show R3 X.prog X.w _ h' _ (.lst ys)from⟨hz,its,c',r',e⟩),rfl,q _ (I.hok.fresh (d9 _))⟩
 rcases hq with hq | hq
 ·obtain⟨its,r',pl,hz⟩:=I.list hq
  have hlen:=r'.length
  obtain⟨o,ho,hc,n,hd⟩:=pl.isList
  exact call_list_seq p (.inl rfl) ho hc hd (fun h' c' kp e=>fin its r' hz h' c' kp e) (by simp only[j4] <;> omega)
 ·obtain⟨its,r',pl,hz⟩:=I.tuple hq
  have hlen:=r'.length
  obtain⟨o,ho,hc,n,hd⟩:=pl
  exact call_list_seq p (.inr rfl) ho hc hd (fun h' c' kp e=>fin its r' hz h' c' kp e) (by simp only[j4] <;> omega)
def tyV(K:Fg)(T:String)(x:V)(H:Hp):Prop:=match x with
 | .str _=>T = "str"
 | .int _=>T = "int"
 | .ref p=>(T = "list" /\ ∃xs,SqL K H p xs)\/(T = "tuple" /\ ∃o,K.lookup p=some o/\o.cls=.type "tuple" /\ o.dict=none) \/
   (T = "dict" /\ ((∃kvs,H p=some (.dK kvs))\/∃kvs,H p=some (.dT kvs)))\/(T = "set" /\ ∃S n,H p=some (.set S n))
 | _=>False
theorem b6w{T:String}{x:V}{v:Value}(I:Inv X pins σ H s)(r:C7 x v)(ty:tyV X.K T x H) :
  s.TypeIs v T/\∀a,v=.ref a->∃ob,s.heap.get? a=some ob/\ob.dict=none:=by
 cases x with
 | str z=>
  obtain⟨t,rfl⟩:=r
  cases (show T = "str" from ty)
  exact⟨typeIs_str s z t,fun _ e=>nomatch e⟩
 | int i=>
  obtain⟨t,rfl⟩:=r
  cases (show T = "int" from ty)
  exact⟨typeIs_int s i t,fun _ e=>nomatch e⟩
 | ref p=>
  cases r
  rcases ty with ⟨rfl,xs,hq⟩ | ⟨rfl,o,hk,hc,hd⟩ | ⟨rfl,hk⟩ | ⟨rfl,S,n,hk⟩
  ·obtain⟨its,_,pl,_⟩:=I.list hq
   refine⟨pl.isList.typeIs,fun a e=>?_⟩
   cases e
   obtain⟨o,n,e,c,hd,_⟩:=pl
   exact⟨o,e,hd⟩
  ·refine⟨⟨o,I.kIn p o hk,hc⟩,fun a e=>?_⟩
   cases e
   exact⟨o,I.kIn _ o hk,hd⟩
  ·have z:∃o,s.heap.get? p=some o/\o.ExactDict:=by
    rcases hk with ⟨kvs,hk⟩ | ⟨kvs,hk⟩
    ·obtain⟨_,_,_,_,o,_,_,e,ex,_⟩:=I.hok p _ hk
     exact⟨o,e,ex⟩
    ·obtain⟨_,_,_,_,o,_,_,e,ex,_⟩:=I.hok p _ hk
     exact⟨o,e,ex⟩
   obtain⟨o,e,ex⟩:=z
   refine⟨⟨o,e,ex.1⟩,fun a e2=>?_⟩
   cases e2
   exact⟨o,e,ex.2.1⟩
  ·obtain⟨o,_,_,_,e,ex,_⟩:=I.hok p _ hk
   refine⟨⟨o,e,ex.1⟩,fun a e2=>?_⟩
   cases e2
   exact⟨o,e,ex.2.1⟩
 | _=>exact False.elim ty
def b8H(K:Fg)(T:String)(r:V->List V->Hp->VK->Prop)(to:TE):TE:=fun σ H Q=>to σ H fun x H1=>tyV K T x H1/\r x [] H1 Q
def tBM(K:Fg)(T:String)(r:V->List V->Hp->VK->Prop)(to:TE)(t:TA):TE:=fun σ H Q=>to σ H fun x H1=>tyV K T x H1/\t σ H1 fun xs H2=>r x xs H2 Q
variable {o e:Expr}{es:List Expr}{to:TE}{t:TA}{name:Str}{apos cpos:Pos}{T id:String}{r:V->List V->Hp->VK->Prop}
theorem c2p(pa:c0H T)(slot:Slot T name id)(hty:typeOf (.builtin id)=pure (.type "method_descriptor"))(hm:MtR X id r)(ho:PE X o to)
  (hbase:V1 o name X.env (eval o X.env)=eval o X.env:=by rfl) (hline:(apos.endLine == cpos.line)=true:=by rfl):PE X (.Call (.Attribute o name apos) [] [] cpos) (b8H X.K T r to):=by
 intro pins s σ H Q I h
 refine wpAny_Call_method0_late hbase hline (thn (ho pins s σ H _ I h) fun v s1 ⟨x,H1,I1,r1,ty,q1⟩=>?_)
 obtain⟨h1,h2⟩:=b6w I1 r1 ty
 exact⟨T,id,pa,slot,hty,h1,h2,Calls.callWith_builtin rfl (PySem.evalArgs_none (hm pins s1 σ H1 x [] v [] Q I1 r1 .nil q1))⟩
theorem c4t(pa:c0H T)(slot:Slot T name id)(hty:typeOf (.builtin id)=pure (.type "method_descriptor"))(hm:MtR X id r)(ho:PE X o to)(ha:PA X (e::es) t)
  (hbase:V1 o name X.env (eval o X.env)=eval o X.env:=by rfl)
  (hfew:((V0 cpos (d8 (e::es) X.env)).all (fun x => !x.1)&&(a8w cpos (a1P [] X.env)).all (fun x=>x.1.isSome)
   && decide ((e::es).length+([]:List a5K).length+(if([]:List a5K).isEmpty then 0 else 1)<30))=true:=by rfl)
  (hline:(apos.endLine == cpos.line)=true:=by rfl) (hs:d8 (e::es) X.env=(false,eval e X.env)::d8 es X.env:=by rfl) (hplain:(V0 cpos (d8 es X.env)).any (·.1)=false:=by rfl) :
  PE X (.Call (.Attribute o name apos) (e::es) [] cpos) (tBM X.K T r to t):=by
 intro pins s σ H Q I h
 refine wpAny_Call_method_late hbase hfew hline rfl (thn (ho pins s σ H _ I h) fun v s1 ⟨x,H1,I1,r1,ty,q1⟩=>?_)
 obtain⟨h1,h2⟩:=b6w I1 r1 ty
 refine⟨T,id,pa,slot,hty,h1,h2,?_⟩
 have hA:=ha cpos pins s1 σ H1 _ I1 q1
 rw[hs]at hA ⊢
 refine Calls.callWith_builtin (by show(false||(V0 cpos (d8 es X.env)).any (·.1))=false;rw[hplain] <;> rfl) (Calls.evalArgs_plain ?_)
 exact thn hA fun us s2 ⟨vs,H2,I2,r2,q2⟩=>hm pins s2 σ H2 x vs v us Q I2 r1 r2 q2
end
def MtM(X:Cx)(id:String)(r:V->List V->Hp->VK->Prop):Prop:=
 ∀(pins:List (Addr×Obj)) (s:g7) (σ:St) (H:Hp) (x:V) (xs:List V) (v:Value) (us:List Value) (Q:VK),Inv X pins σ H s->C7 x v->E2 xs us->r x xs H Q ->
  wpAny (model X.prog X.w) X.A (call (.builtin id) (v::us)) (EP X pins σ Q) X.xe s
theorem E2.one:∀ {x:V} {us:List Value},E2 [x] us->∃u,us=[u]/\C7 x u
 | _,_,.cons r .nil=>⟨_,rfl,r⟩
theorem E2.zero:∀ {us:List Value},E2 [] us->us=[]
 | _,.nil=>rfl
theorem E2.dropLast(h:E2 xs us):E2 xs.dropLast us.dropLast:=by
 induction h with
 | nil=>exact .nil
 | cons r t ih=>
  cases t with
  | nil=>exact .nil
  | cons q t'=>exact .cons r ih
theorem b3L{α:Type}(l:List α):l.eraseIdx (l.length - 1)=l.dropLast:=by
 induction l with
 | nil=>rfl
 | cons a r ih=>
  cases r with
  | nil=>rfl
  | cons b r=>
   have e:(a::b::r).length - 1=((b::r).length - 1)+1:=by
    have h1:(a::b::r).length=r.length+2:=rfl
    have h2:(b::r).length=r.length+1:=rfl
    omega
   rw[e,List.eraseIdx_cons_succ,ih]
   all_goals rfl
section
variable {l b:Addr}{ys zs:List V}
theorem Inv.lset{its its':List Value}{n:Nat}{f:Array Value->Array Value}{t':Nat}(I:Inv X pins σ H s)(hH:H l=some (.lst xs))
  (e:s.heap.get? l=some { cls:=.type "list",data:=.seq its.toArray n }) (hf:f its.toArray=its'.toArray) (hv:E2 ys its') (hz:ys.length<=j9) :
  Inv X pins σ (upd H l (.lst ys)) { s with heap:=s.heap.update l (Obj.mapSeq f),toks:=t' }:=by
 have q:=PySem.IsL.update e f
 rw[hf]at q
 refine I.write (x:=l) (e:=l) (by rw[hH];exact trivial) (.inl rfl) (fun b' u hb hu=>(b4x s.heap (Obj.mapSeq f) (Ne.symm hb)).trans hu) ⟨_,q⟩ ?_
 exact⟨hz,its',_,hv,q⟩
theorem Inv.lnew{its:List Value}{t':Nat}(I:Inv X pins σ H s)(hv:E2 ys its)(hz:ys.length<=j9) :
  Inv X pins σ (upd H s.heap.objs.size (.lst ys)) { s with heap:=s.heap.push { cls:=.type "list",data:=.seq its.toArray },toks:=t' }:=
 I.laid (fun _ _ q=>g9 _ q) (d9 _) ⟨hz,its,0,hv,t9 _ rfl⟩
theorem Inv.fresh(I:Inv X pins σ H s):H s.heap.objs.size=none:=I.hok.fresh (d9 _)
theorem Inv.lstM(I:Inv X pins σ H s)(hH:H l=some (.lst xs)):xs.length<=j9/\∃(its:List Value) (n:Nat),E2 xs its/\xs.length=its.length/\s.heap.get? l=some { cls:=.type "list",data:=.seq its.toArray n }:=by
 obtain⟨z,its,n,r,e⟩:=I.hok l _ hH
 exact⟨z,its,n,r,r.length,e⟩
theorem b7C{n:Nat}(h:n<=j9):Builtin.List.listTooLong n=false:=by
 unfold Builtin.List.listTooLong
 exact c6w (by omega)
end
section
def b8W:V->List V->Hp->VK->Prop:=fun x vs H Q=>∃l xs y,x=.ref l/\vs=[y]/\H l=some (.lst xs)/\xs.length<j9/\Q .non (upd H l (.lst (xs++[y])))
theorem a6i:MtM X "list.append" b8W:=by
 intro pins s σ H x vs v us Q I rx rv h
 obtain⟨l,xs,y,rfl,rfl,hH,hz,q⟩:=h
 cases rx
 obtain⟨u,rfl,ru⟩:=rv.one
 obtain⟨z,its,n,r,hl,e⟩:=I.lstM hH
 refine c0G F.slot_list_append ⟨_,e,rfl⟩ F.entry_list_append (F.args_list_append_2 _ _) (PySem.list_append l its.toArray n u (by rw[j4];omega)) ⟨e,?_⟩
 refine⟨.non,_,I.lset (its':=its++[u]) hH e (by simp) (r.append (.cons ru .nil)) ?_,rfl,q⟩
 rw[u4,M5]
 omega
def b8V:V->List V->Hp->VK->Prop:=fun x vs H Q=>∃l b xs zs,x=.ref l/\vs=[.ref b]/\H l=some (.lst xs)/\H b=some (.lst zs)/\xs.length+zs.length<=j9/\Q .non (upd H l (.lst (xs++zs)))
theorem b5m:MtM X "list.extend" b8V:=by
 intro pins s σ H x vs v us Q I rx rv h
 obtain⟨l,b,xs,zs,rfl,rfl,hH,hB,hz,q⟩:=h
 cases rx
 obtain⟨u,rfl,ru⟩:=rv.one
 cases ru
 obtain⟨z,its,n,r,hl,e⟩:=I.lstM hH
 obtain⟨z2,its2,n2,r2,hl2,e2⟩:=I.lstM hB
 have hsz:its.toArray.size+its2.toArray.size<=j9:=by rw[j4,j4];omega
 have hlong:¬(!its.toArray.isEmpty&&Builtin.List.listTooLong (its.toArray.size+its2.toArray.size))=true:=by
  rw[b7C hsz,Bool.and_false]
  exact l3
 refine c0G F.slot_list_extend ⟨_,e,rfl⟩ F.entry_list_extend (F.args_list_extend_2 _ _)
  (AutoSeq1.list_extend_list_list_0 l its.toArray n b its2.toArray n2 hlong (by rw[j4];omega) (by omega)) ⟨e,e2,?_⟩
 refine⟨.non,_,I.lset (its':=its++its2) hH e (by simp) (r.append r2) ?_,rfl,q⟩
 rw[u4]
 omega
def c4Z:V->List V->Hp->VK->Prop:=fun x vs H Q=>∃l xs y,x=.ref l/\vs=[]/\H l=some (.lst xs)/\xs[xs.length - 1]? = some y/\Q y (upd H l (.lst xs.dropLast))
theorem c2M:MtM X "list.pop" c4Z:=by
 intro pins s σ H x vs v us Q I rx rv h
 obtain⟨l,xs,y,rfl,rfl,hH,hy,q⟩:=h
 cases rx
 have hus:=rv.zero
 subst hus
 obtain⟨z,its,n,r,hl,e⟩:=I.lstM hH
 obtain⟨u,hu,ru⟩:=r.get hy
 have hy':its.toArray[its.toArray.size - 1]? = some u:=by
  show its.toArray[its.length - 1]? = some u
  rw[<-M4,<-hl]
  exact hu
 refine c0G F.slot_list_pop ⟨_,e,rfl⟩ F.entry_list_pop (F.args_list_pop_1 _) (MeetsSeq.list_pop_last l its.toArray n u hy' (by rw[j4];omega)) ⟨e,?_⟩
 refine⟨y,_,I.lset (its':=its.dropLast) hH e ?_ r.dropLast ?_,ru,q⟩
 ·show its.toArray.eraseIdxIfInBounds (its.toArray.size - 1)=its.dropLast.toArray
  rw[j4,List.eraseIdxIfInBounds_toArray,b3L]
 ·rw[List.length_dropLast]
  omega
def c5a:R2:=fun x y H Q=>∃l b xs zs,x=.ref l/\y=.ref b/\H l=some (.lst xs)/\H b=some (.lst zs)/\xs.length+zs.length<=j9/\∀p,H p=none->Q (.ref p) (upd H p (.lst (xs++zs)))
theorem c2E:OpR X (W2 .Add) c5a:=by
 intro pins s σ H x y v u Q I rx ry h
 obtain⟨l,b,xs,zs,rfl,rfl,hH,hB,hz,q⟩:=h
 cases rx
 cases ry
 obtain⟨z,its,n,r,hl,e⟩:=I.lstM hH
 obtain⟨z2,its2,n2,r2,hl2,e2⟩:=I.lstM hB
 refine PySem.P.add_list e e2 ?_ (by rw[j4,j4];omega)
 have ea:its.toArray++its2.toArray=(its++its2).toArray:=by simp
 rw[ea]
 exact⟨.ref _,_,I.lnew (t':=s.toks) (r.append r2) (by rw[u4];omega),rfl,q _ I.fresh⟩
end
section
variable {prog:v8}{w:World}{A:G8}{E:Value->g7->Prop}
set_option maxRecDepth 100000 in
end
section
end
end L2
namespace Att
open PySem PySem.W PySem.Calls PyProof.Rows
theorem a6S{P:Params}{h:Heap}:∀(ns:List Int) (vs:List Value),WellAll P h vs (ns.map WData.int)->c1k vs ns:=by
 intro ns
 induction ns with
 | nil=>
  intro vs w
  rw[a7i]at w
  cases w
  exact .nil
 | cons n ns ih=>
  intro vs w
  rw[F7]at w
  cases w with
  | cons a b=>
   cases a
   exact .cons _ _ (ih _ b)
theorem b4Q{l:OpenLaw}{n:Nat}(hn:l.most=some n){P:Params}{h:Heap}{args:List WData}{vals:List Value}
  (hpre:l.row.toRowW.claim.pre args=true) (hwl:WellAll P h vals args) :
  ∃a vs ns,vals=[Value.ref a]/\args=[WData.list (ns.map WData.int)]/\h.get? a=some { cls:=.type "list",data:=.seq vs.toArray }/\c1k vs ns/\ns.length<=n:=by
 have hsh:WShape.hasAll [] args [.list .int]=true:=(pre_splitW hpre).1
 have hc:l.pre.holds [] { args:=args }=true:=(pre_splitW hpre).2
 obtain⟨d,r,rfl,h1,h2⟩:=hasAllW_cons hsh
 obtain rfl:=hasAllW_nil h2
 obtain⟨xs,rfl,h3⟩:=hasW_list h1
 obtain⟨ns,rfl⟩:=items_int h3
 have hlen:ns.length<=n:=by
  unfold OpenLaw.pre at hc
  have h4:(WTm.not (.lt (.lit (.int (n:Int))) (.len (.arg 0)))).holds [] { args:=[.list (ns.map .int)] }=true:=by
   have h4:=(holds_andW hc).1
   rw[hn]at h4
   exact h4
  have h5:=condW_of h4 (w_not (w_lt w_lit (w_len_list (w_arg rfl))))
  rw[a8]at h5
  refine Nat.le_of_not_lt fun q=>?_
  have q':(n:Int)<((ns.length:Nat):Int):=by omega
  first
   | (rw[c6x q']at h5;exact absurd h5 (by decide))
   | (simp at h5;omega)
 cases hwl with
 | cons w1 w2=>
  cases w2
  cases w1 with
  | list ho hall=>exact⟨_,_,ns,rfl,rfl,ho,a6S ns _ hall,hlen⟩
theorem b4Z(l:OpenLaw)(args:List WData):l.row.toRowW.claim.post args (.bool true) args=true:=
 postW_of (r:=l.row.toRowW) (X:=(true == true))
  (show WShape.has [] (.bool true) .bool=true by first | rfl | decide | simp[WShape.has,WShape.arms,WShape.armsAll])
  (show(WTm.eq .res (.lit (.bool true))).value [] { args:=args,res:=some (.bool true),after:=args }=some (.bool (true == true))from w_eq_bool (w_res rfl) w_lit) rfl
theorem b2s{l:OpenLaw}{n:Nat}{q:v8}{loose:List Str}{XP:(Str->Option Value)->Heap->Prop}{YP:World->Heap->Prop}{d:DefRec}
  (hn:l.most=some n) (hdf:d.params.defaults=[])
  (call:∀(w:World) (s₀ s₁:g7) (mg mb:Str->Option Value) (fa:Addr) (o:Obj) (pm cd doc:Value) (a:Addr) (vs:List Value) (ns:List Int),
   Ground q loose [] XP w s₀ mg mb s₁.heap->YP w s₁.heap ->
   s₁.heap.get? fa=some o->o.data=.func (docDef d.name d.params d.body d.scope pm cd doc)->s₁.heap.CodeRec cd d.name->mg d.name=some (.ref fa) ->
   s₁.heap.get? a=some { cls:=.type "list",data:=.seq vs.toArray }->c1k vs ns->ns.length<=n->s₁.gens = #[] ->
   a5J (model l.prog w) b6g (.call (.ref fa) ⟨[.ref a],[]⟩) (fun r s'=>r=.ok (.ret (.bool true))/\OldK s₁.heap s'.heap/\s'.os=s₁.os/\a9I s'.gens) s₁) :
  WalkO q loose XP YP l.row.toRowW d [] (fun f vs=>b0T f vs):=by
 intro w s₀ s₁ mg mb G Y fa o pm cd doc dV kV ho hd hcd hD hmg hg args vals as hpre hlay hrd hwl hlo
 obtain rfl:dV=.none:=Dflts.none hD hdf
 obtain rfl:kV=.none:=Dflts.noKw hD
 obtain⟨a,vs,ns,rfl,rfl,hobj,hints,hlen⟩:=b4Q hn hpre hwl
 refine enter_call (b3U (call w s₀ s₁ mg mb fa o pm cd doc a vs ns G Y ho (fd_plain hd) hcd hmg hobj hints hlen hg) fun r s' hq=>?_)
 obtain⟨rfl,h2,h3,h4⟩:=hq
 exact⟨.inl ⟨.bool true,.bool true,[],rfl,fun _=>rfl,.bool true,b4Z l _,fun _=>⟨List.Pairwise.nil,fun _ hm=>(nomatch hm)⟩⟩,h2,h3,h4⟩
section
variable {prog:v8}{w:World}{A:G8}{E:Value->g7->Prop}{s:g7}{K:Frag}
end
end Att
namespace L2
open PySem PySem.Spec PyProof.Rows
theorem a5M:∀ {vs:List Value} {ns:List Int},c1k vs ns->E2 (ns.map V.int) vs
 | _,_,.nil=>.nil
 | _,_,.cons n t h=>.cons ⟨t,rfl⟩ (a5M h)
def c0A(H:Hp):Prop:=∀b,H b=none\/∃o xs,H b=some (.frz o (.lst xs))
theorem b7L{P:v8}{w:World}{K:Fg}{mg mb:Str->Option Value}{CX:CXT}{k:Nat}{fa a:Addr}{fd:W3}{x:Str}{sp:Sp}{s₁:g7}{vs:List Value}{ns:List Int}
  (KX:K.In s₁.heap) (hns:s₁.heap.Ns t5 mg) (hb:s₁.heap.Ns builtinsNs mb) (hbb:∀x:Str,x ≠ "__name__" -> mb x=a0b x) (hlim:s₁.heap.NoLimit) (hg:s₁.gens = #[])
  (ha:s₁.heap.get? a=some { cls:=.type "list",data:=.seq vs.toArray }) (hi:c1k vs ns) (hl:ns.length<=j9) (hr:N8 k b6g)
  (F:∀base:Heap,K.In base->base.Ns t5 mg->J9 P w K mg base CX k fa fd [x] sp) (hbind:∀(s:g7) (u:Value),b6h s fd ⟨[u],[]⟩ [(x,u)])
  (hsp:∀H:Hp,c0A H->SqL K H a (ns.map V.int)->sp [.ref a] H (fun v _=>v=.bl true) fun _ _ _=>False)
  (hCX:∀H e s',CX [] H s₁ (fun _ _ _=>False) e s'->False) :
  a5J (model P w) b6g (.call (.ref fa) ⟨[.ref a],[]⟩) (fun r s'=>r=.ok (.ret (.bool true))/\OldK s₁.heap s'.heap/\s'.os=s₁.os/\a9I s'.gens) s₁:=by
 have rv:=a5M hi
 have lenV:=hi.length
 have core:∀H:Hp,c0A H->SqL K H a (ns.map V.int)->HOk P w H s₁.heap->(∀b,H b≠none->b=a)->(H a≠none->K.lookup a=none) ->
   a5J (model P w) b6g (.call (.ref fa) ⟨[.ref a],[]⟩) (fun r s'=>r=.ok (.ret (.bool true))/\OldK s₁.heap s'.heap/\s'.os=s₁.os/\a9I s'.gens) s₁:=by
  intro H hO hS hok hA hK
  have base_of:∀ {b:Addr} {o:Obj},s₁.heap.get? b=some o->H b=none->(b0q s₁.heap H).get? b=some o:=fun e n=>b7R e n
  have noA:∀ {b:Addr} {o:Obj} {es:Array a0c} {ep:Nat},s₁.heap.get? b=some o->o.data=.dict es ep->H b=none:=fun {b o es ep} e d=>by
   cases q:H b with
   | none=>rfl
   | some u=>
    have e':b=a:=hA b (by rw[q];simp)
    subst e'
    rw[ha]at e;cases e
    have d':Data.seq vs.toArray _=Data.dict es ep:=d
    cases d'
  have nsK:∀ {b:Addr} {m:Str->Option Value},s₁.heap.Ns b m->(b0q s₁.heap H).Ns b m:=fun {b m} ⟨o,es,ep,e,d,r⟩=>⟨o,es,ep,base_of e (noA e d),d,r⟩
  have hKb:K.In (b0q s₁.heap H):=fun b o e=>base_of (KX b o e) (by
   cases q:H b with
   | none=>rfl
   | some u=>
    have e':b=a:=hA b (by rw[q];simp)
    subst e'
    rw[hK (by rw[q];simp)]at e;cases e)
  have hM:Mod K mg (b0q s₁.heap H):=⟨hKb,nsK hns,⟨mb,nsK hb,hbb⟩,let⟨mc,h1,h2⟩:=hlim; ⟨mc,nsK h1,h2⟩⟩
  have e0:b3S P w K mg (b0q s₁.heap H) b6g [] s₁ H:=⟨rfl,hM,fun b o e=>b9W e,Nat.le_of_eq (b5x _ _),trivial,fun b hb=>absurd (show b∈([]:List Addr)from hb) (by simp),hok,.of_eq hg⟩
  refine b3U ((F _ hKb (nsK hns)).run b6g [] s₁ H ⟨[.ref a],[]⟩ [.ref a] [.ref a] _ _ hr e0 (hbind s₁ (.ref a)) (.cons rfl .nil) (hsp H hO hS)) fun r s' h=>?_
  cases r with
  | error e=>exact(hCX H e s' h).elim
  | ok fl=>
   cases fl with
   | next=>exact False.elim h
   | brk=>exact False.elim h
   | cont=>exact False.elim h
   | ret u=>
    obtain⟨v,H',os,bare,un,hok',r',q⟩:=h
    have q':v=.bl true:=q
    subst q'
    obtain rfl:u=Value.bool true:=r'
    refine⟨rfl,OldK.of_keep fun b o e=>?_,os,bare⟩
    cases q:H b with
    | none=>exact un.keep b o e q (by intro z;exact absurd (show b∈([]:List Addr)from z) (by simp)) (by simp)
    | some u=>
     rcases hO b with z | ⟨ob,xs,z⟩
     ·rw[q]at z;cases z
     ·have z2:=un.frzs b ob _ z
      obtain⟨e1,_⟩:=hok b _ z
      obtain⟨e2,_⟩:=hok' b _ z2
      rw[e]at e1;cases e1
      exact e2
 cases hk:K.lookup a with
 | some o=>
  have e:=KX a o hk
  rw[ha]at e
  cases e
  refine core (fun _=>none) (fun _=>.inl rfl) (.inr ⟨_,vs.toArray,_,hk,rfl,rfl,rfl,by rw[j4,lenV];exact hl,by simpa using rv⟩) (fun b u z=>by have z':(none:Option HO)=some u:=z;cases z') (fun b z=>absurd rfl z) fun z=>absurd rfl z
 | none=>
  refine core (fun b=>if b=a then some (.frz { cls:=.type "list",data:=.seq vs.toArray } (.lst (ns.map V.int)))else none) (fun b=>?_) (.inl (.inr ⟨{ cls:=.type "list",data:=.seq vs.toArray },if_pos rfl⟩)) (fun b u z=>?_) (fun b z=>?_) fun _=>hk
  ·by_cases hb:b=a
   ·exact .inr ⟨_,_,if_pos hb⟩
   ·exact .inl (if_neg hb)
  ·by_cases hb:b=a
   ·have z':=(if_pos hb).symm.trans z
    cases z'
    subst hb
    exact⟨ha,by rw[a8];exact hl,vs,_,rv,ha⟩
   ·have z':=(if_neg hb).symm.trans z
    cases z'
  ·by_cases hb:b=a
   ·exact hb
   ·exact absurd (if_neg hb) z
theorem b8C{l:PySem.W.OpenLaw}{n k:Nat}{q:v8}{loose:List Str}{XP:(Str->Option Value)->Heap->Prop}{YP:World->Heap->Prop}{d:DefRec}{K:Params->Fg}{CX:World->CXT}{sp:World->Sp}{x:Str}
  (hn:l.most=some n) (hn2:n<=j9) (hdf:d.params.defaults=[]) (hr:N8 k b6g)
  (hY:∀(w:World) (h:Heap),YP w h->(K w.params).In h)
  (F:∀(w:World) (mg:Str->Option Value) (fa:Addr) (h:Heap),(K w.params).In h->h.Ns t5 mg->mg d.name=some (.ref fa) ->
   ∃fd:W3,(∀(s:g7) (u:Value),b6h s fd ⟨[u],[]⟩ [(x,u)]) /\
    ∀base:Heap,(K w.params).In base->base.Ns t5 mg->J9 l.prog w (K w.params) mg base (CX w) k fa fd [x] (sp w))
  (hsp:∀(w:World) (H:Hp) (a:Addr) (ns:List Int),ns.length<=n->c0A H->SqL (K w.params) H a (ns.map V.int)->sp w [.ref a] H (fun v _=>v=.bl true) fun _ _ _=>False)
  (hCX:∀(w:World) (H:Hp) (s:g7) (e:Value) (s':g7),CX w [] H s (fun _ _ _=>False) e s'->False) :
  PySem.W.WalkO q loose XP YP l.row.toRowW d [] (fun f vs=>b0T f vs):=by
 refine Att.b2s hn hdf fun w s₀ s₁ mg mb fa o pm cd doc a vs ns G Y ho hd hcd hmg hobj hints hlen hg=>?_
 have KX:=hY w _ Y
 obtain⟨fd,hb,hF⟩:=F w mg fa _ KX G.T.g hmg
 exact b7L KX G.T.g G.T.b G.T.builtins G.T.nolimit hg hobj hints (C2 hlen hn2) hr hF hb (fun H hO hS=>hsp w H a ns hlen hO hS) fun H e s'=>hCX w H s₁ e s'
abbrev CX0:CXT:=fun _ _ _ _ _ _=>False
abbrev E0:XK:=fun _ _ _=>False
theorem b7w{X:Cx}:a6r CX0 X E0:=fun _ _ _ _ _ _ _ h=>h.elim
structure Fun(K:Fg)(x qual:Str)(st:Stmt)(f:Addr)(fd:W3):Prop where
 ex:∃(oc:Value) (od:Option Addr) (kV doc pm:Value) (an:Option Addr) (cdv ct:Value) (osl:Array (Option Value)),
  fd=X8 x qual (a1L st) (a0j st) (i8 st) .none kV doc pm an cdv ct/\K.lookup f=some ⟨oc,od,.func fd,osl⟩/\a4f K cdv qual=true
 kp:P7 K (.ref f)=true
section
variable {P:v8}{w:World}{K:Fg}{mg:Str->Option Value}{base:Heap}
theorem Fun.ok{x qual:Str}{st:Stmt}{f:Addr}{fd:W3}{N ps:List Str}{k:Nat}{sp:Sp}(F:Fun K x qual st f fd)(S:z8 N ps (i8 st))(len:∀vs H Q E,sp vs H Q E->vs.length=ps.length)
  (hbody:∀(cdv:Value) (A:G8) (outer:List Env) (s:g7) (H:Hp) (vs:List V) (Q:VK) (E:XK),N8 k (A.deeper (b1e qual (i8 st) s.heap.objs.size f cdv))->sp vs H Q E ->
   ∃t,PSs (b2g CX0 P w K mg base N qual (i8 st) f cdv A outer s H E).nox (a0j st) t/\t { nx:=fun _ H'=>Q .non H',rt:=Q } (a5a N vs) H):J9 P w K mg base CX0 (k+1) f fd ps sp:=by
 obtain⟨oc,od,kV,doc,pm,an,cdv,ct,osl,rfl,lk,hcd⟩:=F.ex
 refine c4C lk hcd S len fun A outer s H vs Q E hr hsp=>?_
 obtain⟨t,h,q⟩:=hbody cdv A outer s H vs Q E hr hsp
 exact⟨t,h.nox,q⟩
theorem Fun.binds{x qual:Str}{st:Stmt}{f:Addr}{fd:W3}{ps:List Str}(F:Fun K x qual st f fd)
  (h:∀(kV doc pm:Value) (an:Option Addr) (cdv ct:Value) (us:List Value),us.length=ps.length->bindArgs (X8 x qual (a1L st) (a0j st) (i8 st) .none kV doc pm an cdv ct) ⟨us,[]⟩=pure (ps.zip us)):a3b K fd ps []:=by
 obtain⟨oc,od,kV,doc,pm,an,cdv,ct,osl,rfl,lk,hcd⟩:=F.ex
 exact .all (h kV doc pm an cdv ct)
theorem c3e{x qual:Str}{st:Stmt}{f:Addr}{oc:Value}{od an:Option Addr}{osl:Array (Option Value)}{kV doc pm cdv ct:Value}(l:K.lookup f=some ⟨oc,od,.func (X8 x qual (a1L st) (a0j st) (i8 st) .none kV doc pm an cdv ct),osl⟩)
  (c:a4f K cdv qual=true) (k:P7 K (.ref f)=true):Fun K x qual st f (X8 x qual (a1L st) (a0j st) (i8 st) .none kV doc pm an cdv ct):=⟨⟨oc,od,kV,doc,pm,an,cdv,ct,osl,rfl,l,c⟩,k⟩
end
theorem a6I{A:G8}{k:Nat}(hr:N8 k A):A.units+1<cLine:=Nat.lt_of_le_of_lt (Nat.add_le_add_left (by decide:1<=64) _) hr.units
section
variable {X:Cx}
end
theorem c2Z{A B:Prop}(h:B):if false=true then A else B:=by
 rw[if_neg l3]
 exact h
theorem b1Y{A B:Prop}(h:A):if true=true then A else B:=by
 rw[if_pos rfl]
 exact h
theorem a0P{c A B:Prop}[Decidable c](h1:c->A)(h2:¬c->B):if c then A else B:=by
 by_cases h:c
 ·rw[if_pos h]
  exact h1 h
 ·rw[if_neg h]
  exact h2 h
def o7(H H':Hp):Prop:=∀b o,H b=some o->H' b=some o
theorem o7.refl(H:Hp):o7 H H:=fun _ _ h=>h
theorem o7.trans{H H1 H2:Hp}(a:o7 H H1)(b:o7 H1 H2):o7 H H2:=fun c o h=>b c o (a c o h)
theorem o7.free{H H':Hp}(e:o7 H H'){l:Addr}(h:H' l=Option.none):H l=Option.none:=by
 cases q:H l with
 | none=>rfl
 | some o=>
  rw[e l o q]at h
  cases h
section
variable {κ:Type}[DecidableEq κ]
theorem b8D{kvs:List (κ×V)}{k:κ}{v:V}(h:Y3 kvs k=some v):k∈kvs.map (·.1):=by
 have q:(kvs.any fun kv=>decide (kv.1=k))=true:=by
  rw[a2g,h]
  all_goals rfl
 obtain⟨p,hp,e⟩:=Z0.mp q
 exact p9.mpr ⟨p,hp,of_decide_eq_true e⟩
end
end L2
set_option maxHeartbeats 4000000
namespace L2
open PySem PySem.Spec PyProof.Rows
variable{env:Env}{scope:Scope}{X:Cx}{w:World}{s:g7}{elt iter:Expr}{elts ifs:List Expr}{p pos tp:Pos}{pins:List (Addr×Obj)}{σ:St}{H:Hp}{cl:List (Str×Addr)}{fp:List Addr}{tt:TT}{te:TE}{xs:List V}{us:List Value}{u:Value}{ps:List Str}{sp:Sp}
theorem b0z:∀(names:List (Str×a4i)) (cs:List (Str×Addr)),(∀y∈names,y.2=.free->∃c,env.cells.lookup y.1=some c) ->
  (∀y c,cs.lookup y=some c->env.cells.lookup y=some c) ->
  ∃cl,(forIn names cs (fun(x:Str×a4i) (r:List (Str×Addr))=>(if(x.2 == NameKind.free)=true then (do let c <-cellOf env x.1;pure (ForInStep.yield ((x.1,c)::r)))else pure (ForInStep.yield r):Sem (ForInStep (List (Str×Addr)))))=(pure cl:Sem (List (Str×Addr)))) /\
   (∀y c,cl.lookup y=some c->env.cells.lookup y=some c)/\(∀y,(y,NameKind.free)∈names\/(cs.lookup y).isSome=true->(cl.lookup y).isSome=true)
 | [],cs,_,h=>⟨cs,rfl,h,fun y q=>q.elim (fun z=>absurd z (by simp)) id⟩
 | (n,k)::r,cs,hc,h=>by
  by_cases e:(k == NameKind.free)=true
  ·have ek:k=.free:=by simpa using e
   obtain⟨c,hcc⟩:=hc (n,k) D5 ek
   have h':∀y d,((n,c)::cs).lookup y=some d->env.cells.lookup y=some d:=by
    intro y d q
    rw[E1]at q
    cases eq:y == n with
    | true=>
     rw[eq]at q
     have e2:y=n:=by simpa using eq
     cases q;rw[e2];exact hcc
    | false=>rw[eq]at q;exact h y d q
   obtain⟨cl,h1,h2,h3⟩:=b0z r ((n,c)::cs) (fun y hy=>hc y (C4 _ hy)) h'
   refine⟨cl,?_,h2,fun y q=>h3 y ?_⟩
   ·rw[c3y]
    show((if(k == NameKind.free)=true then (do let c <-cellOf env n;pure (ForInStep.yield ((n,c)::cs)))else pure (ForInStep.yield cs):Sem (ForInStep (List (Str×Addr)))) >>= _)=_
    rw[if_pos e]
    have ec:cellOf env n=pure c:=by unfold cellOf;rw[hcc]
    rw[ec]
    exact h1
   ·rcases q with q | q
    ·rcases c8.mp q with q | q
     ·cases q
      right
      simp[E1]
     ·exact .inl q
    ·right
     rw[E1]
     cases y == n
     ·exact q
     ·rfl
  ·obtain⟨cl,h1,h2,h3⟩:=b0z r cs (fun y hy=>hc y (C4 _ hy)) h
   refine⟨cl,?_,h2,fun y q=>h3 y ?_⟩
   ·rw[c3y]
    show((if(k == NameKind.free)=true then (do let c <-cellOf env n;pure (ForInStep.yield ((n,c)::cs)))else pure (ForInStep.yield cs):Sem (ForInStep (List (Str×Addr)))) >>= _)=_
    rw[if_neg e]
    exact h1
   ·rcases q with q | q
    ·rcases c8.mp q with q | q
     ·cases q
      exact absurd rfl e
     ·exact .inl q
    ·exact .inr q
theorem a4N(hc:∀y∈scope.names,y.2=.free->∃c,env.cells.lookup y.1=some c) :
  ∃cl,closureFor scope env=pure cl/\(∀y c,cl.lookup y=some c->env.cells.lookup y=some c)/\∀y,(y,NameKind.free)∈scope.names->(cl.lookup y).isSome=true:=by
 obtain⟨cl,h1,h2,h3⟩:=b0z scope.names [] hc (fun y c q=>by cases q)
 refine⟨cl,?_,h2,fun y q=>h3 y (.inl q)⟩
 unfold closureFor
 first
  | exact h1
  | (show(forIn scope.names [] _ >>= fun r=>pure r)=_;rw[h1];rfl)
theorem K9{env:Env}:∀ {names:List (Str×a4i)} {y:Str} {k:a4i},
  (names.map fun(n,k)=>if(k == NameKind.free&&env.scope.kind == .function&&env.kindOf n == some .cell)then (n,NameKind.cell)else (n,k)).lookup y=some k ->
  names.lookup y=some k\/(names.lookup y=some .free/\k=.cell)
 | [],_,_,h=>by cases h
 | (n,k0)::r,y,k,h=>by
  have ih := @K9 env r y k
  rw[F7]at h
  rw[E1]
  cases hx:y == n with
  | true=>
   by_cases hc:(k0 == NameKind.free&&env.scope.kind == .function&&env.kindOf n == some .cell)=true
   ·have e2:k0=.free:=by simp at hc;exact hc.1.1
    dsimp only at h
    rw[if_pos hc,E1,hx]at h
    cases h
    exact .inr ⟨by rw[e2],rfl⟩
   ·dsimp only at h
    rw[if_neg hc,E1,hx]at h
    exact .inl h
  | false=>
   by_cases hc:(k0 == NameKind.free&&env.scope.kind == .function&&env.kindOf n == some .cell)=true
   ·dsimp only at h
    rw[if_pos hc,E1,hx]at h
    exact ih h
   ·dsimp only at h
    rw[if_neg hc,E1,hx]at h
    exact ih h
def hid(x:Str)(N:List Str):List Str:=N.map fun y=>if y=x then ("." : Str)++x else y
def Q2(X:Cx)(scope:Scope)(cl:List (Str×Addr))(C:Addr)(x:Str)(fp:List Addr)(s3:g7)(H3:Hp):Cx:=
 { X with N:=x::hid x X.N,s₀:=s3,H₀:=H3,env:=b5W scope cl C X.env,outer:=X.stack,stack:=X.stack,ex:=fp,fn:=fun _=>false,pn:=[],xe:=fun _ _=>False }
structure M9(N:List Str)(osc sc:Scope)(x:Str):Prop where
 kind:sc.kind=.function
 cell:∀y∈sc.names,y.2≠.cell
 names:∀y∈sc.names,y.2=.local->sc.names.lookup y.1=some .local
 own:sc.names.lookup x=some .local
 fr:∀y∈sc.names,y.2=.free->osc.names.lookup y.1=some .cell\/osc.names.lookup y.1=some .free
 see:∀y∈hid x N,sc.names.lookup y≠some .local
 dot:sc.names.lookup (("." : Str)++x)=none
 nd:(x::hid x N).Nodup
def U1(wi:TI)(tt:TT)(te:TE):TE:=fun σ H Q=>wi σ H fun J H1=>∀D,H1 D=none->∃W:Nat->Nat->List V->Hp->Prop,
 (∃m,W 0 m [] (upd H1 D (.lst [])))/\∀i m ys H2,W i m ys H2->H2 D=some (.lst ys) /\
  ((J.stop i H2 /\ Q (.ref D) H2) \/ (J.go i H2 /\ ∀ x H3,J.yld i H2 x H3 -> tt (some x :: σ) H3 fun ok H4 => if ok = true then
    te (some x::σ) H4 (fun y H5=>H5 D=some (.lst ys)/\ys.length<j9/\∃m',m'<m/\W (i+1) m' (ys++[y]) (upd H5 D (.lst (ys++[y]))))
    else ∃m',m'<m/\W (i+1) m' ys H4))
def PTs(X:Cx)(ifs:List Expr)(t:TT):Prop:=
 ∀(pins:List (Addr×Obj)) (s:g7) (σ:St) (H:Hp) (Q:Bool->Hp->Prop),Inv X pins σ H s->t σ H Q ->
  wpAny (model X.prog X.w) X.A (forIn ifs true fun c r=>if r=true then do let ok <-isTrue c X.env (eval c X.env);pure (ForInStep.yield ok)else pure (ForInStep.yield r)) (TP X pins σ Q) X.xe s
def T8:TT:=fun _ H Q=>Q true H
theorem b9d:PTs X [] T8:=fun _ _ _ H _ I h=>wpAny_tests_nil ⟨H,I,h⟩
theorem b9c{c:Expr}{t:TT}(h:PT X c t):PTs X [c] t:=fun pins s σ H Q I hq=>wpAny_tests_one (h pins s σ H Q I hq)
theorem a9z{prog:v8}{A:G8}{R:c3K->g7->Prop}{target:Expr}{it acc:Value}(I:Nat->g7->Prop)
  (turn:∀n s,I n s->wpAny (model prog w) A (c3I it) (fun r s₁=>match r with
   | none=>R (.ok .next) s₁
   | some v=>wpAny (model prog w) A (a3k target it v) (fun _ s₂=>wpAny (model prog w) A (a8Z target env v) (fun _ s₃=>
     wpAny (model prog w) A (forIn ifs true fun c r=>if r=true then do let ok <-isTrue c env (eval c env);pure (ForInStep.yield ok)else pure (ForInStep.yield r)) (fun ok s₄=>
      if ok=true then wpAny (model prog w) A (eval elt env) (fun x s₅=>
       wpAny (model prog w) A (call (.builtin "list.append") [acc,x]) (fun _ s₆=>∃m,m<n/\I m s₆) (fun _ _=>False) s₅) (fun _ _=>False) s₄
      else ∃m,m<n/\I m s₄) (fun _ _=>False) s₃) (fun _ _=>False) s₂) (fun _ _=>False) s₁) (fun _ _=>False) s)
  (n:Nat) (h:I n s) :
  a5J (model prog w) A (.compLoop (.ListComp elt [⟨target,iter,ifs,0⟩] scope pos) 0 it acc env) R s:=by
 have up:∀ {α:Type} {m:Sem α} {Q:α->g7->Prop} {E:Value->g7->Prop} {s:g7},wpAny (model prog w) A m Q (fun _ _=>False) s->wpAny (model prog w) A m Q E s:=
  fun h=>U8 h (fun _ _ q=>q) fun _ _ f=>f.elim
 refine codeAny_loop rfl I (fun n s hI=>?_) n h
 refine wpAny_noted ?_
 rw[compTurn_list]
 refine c5 (c1h (c5 (up (thn (turn n s hI) fun r s₁ h₁=>?_))))
 cases r with
 | none=>exact l5 h₁
 | some v=>
  refine c5 (up (thn h₁ fun _ s₂ h₂=>c5 (up (thn h₂ fun _ s₃ h₃=>c5 (up (thn h₃ fun ok s₄ h₄=>?_))))))
  cases ok with
  | false=>exact l5 ⟨rfl,by simpa using h₄⟩
  | true=>
   rw[if_pos rfl]at h₄
   exact c5 (c5 (up (thn h₄ fun x s₅ h₅=>c5 (up (thn h₅ fun _ s₆ h₆=>l5 (l5 ⟨rfl,h₆⟩))))))
section
variable {x:Str}{px:Pos}
theorem b8a{s3:g7}{h4:Heap}{tk:Nat}(hc:M9 X.N X.env.scope scope x)(I:Inv X pins σ H s3)
  (hcl:∀y c,cl.lookup y=some c->X.env.cells.lookup y=some c) (hcl2:∀y,(y,NameKind.free)∈scope.names->(cl.lookup y).isSome=true)
  (fpo:∀b∈fp,a4c X pins H b) (fpl:∀b∈fp,b<s3.heap.objs.size)
  (hn:h4.Ns s3.heap.objs.size (fun _=>none)) (k:∀b o,s3.heap.get? b=some o->h4.get? b=some o) :
  Inv (Q2 X scope cl s3.heap.objs.size x fp s3 H) [] (none::σ) H { s3 with heap:=h4,toks:=tk }:=by
 have low:∀x y,(Q2 X scope cl s3.heap.objs.size x fp s3 H).env.cells.lookup y=cl.lookup y:=fun _ _=>rfl
 have below:∀y c,cl.lookup y=some c->c<s3.heap.objs.size:=fun y c e=>by
  obtain⟨v,q⟩:=I.cell y c (hcl y c e)
  exact q.lt
 have kinds:∀y,((Q2 X scope cl s3.heap.objs.size x fp s3 H).env.kindOf y=some .cell\/(Q2 X scope cl s3.heap.objs.size x fp s3 H).env.kindOf y=some .free)->scope.names.lookup y=some .free:=by
  intro y hy
  rcases hy with hy | hy
  ·rcases K9 hy with q | ⟨q,_⟩
   ·exact absurd rfl (hc.cell _ (z5 q))
   ·exact q
  ·rcases K9 hy with q | ⟨q,z⟩
   ·exact q
   ·cases z
 refine⟨⟨I.ok.mod,?_,I.ok.glob,I.ok.blt,d9 _,fun y z c h1 h2=>?_,fun y hy=>?_,fun y c h=>?_,I.ok.hd,I.ok.frames,.inl rfl,fun b hb=>⟨?_,fun y c e z=>?_⟩,fun b o e=>I.bs b o e,C2 I.ok.bsz I.sz,fun b o e hb=>?_,fun b hb hf=>?_,I.stack,I.stkFree⟩,
  rfl,I.bare,Un.kept k,⟨_,hn,fun i y v h1 h2 h3=>?_⟩,fun y c e=>?_,I.fresh,fun y c e=>?_,fun p hp=>absurd (show p∈([]:List (Addr×Obj))from hp) (by simp),I.hok.kept k,?_⟩
 ·exact hc.kind
 ·exact I.ok.inj y z c (hcl _ _ h1) (hcl _ _ h2)
 ·have:=hcl2 y (z5 (kinds y hy))
  exact T4.mp this
 ·cases h
 ·exact u5 (fpl b hb)
 ·exact(fpo b hb).2.2.2.2.1 y c (hcl y c e) z
 ·rcases(fpo b hb).2.2.2.1 with q | q
  ·exact I.ok.noex b o e q
  ·exact absurd (v6 (g8 (I.ok.bs b o e).1) q) (E4 _)
 ·rcases c8.mp (I.stkSub b hf)with e | e
  ·exact(fpo b hb).2.1 e
  ·exact(fpo b hb).2.2.1 e
 ·-- the names
  have h1:(x::hid x X.N)[i]? = some y:=h1
  cases i with
  | zero=>cases h2
  | succ i=>
   have h1:(hid x X.N)[i]? = some y:=h1
   have h2:σ[i]? = some (some v):=h2
   have my:y∈hid x X.N:=T6 h1
   have h3:(a5I scope X.env).names.lookup y=some .local\/(a5I scope X.env).names.lookup y=some .cell\/(a5I scope X.env).names.lookup y=some .free:=h3
   have hf:scope.names.lookup y=some .free:=by
    rcases h3 with q | q
    ·rcases K9 q with q | ⟨_,z⟩
     ·exact absurd q (hc.see y my)
     ·cases z
    ·exact kinds y q
   have hy:X.N[i]? = some y:=by
    unfold hid at h1
    rw[b8]at h1
    cases e:X.N[i]? with
    | none=>rw[e]at h1;cases h1
    | some z=>
     rw[e]at h1
     by_cases ez:z=x
     ·rw[a3L,if_pos ez]at h1
      have h1:=Option.some.inj h1
      subst h1
      rw[hc.dot]at hf
      cases hf
     ·rw[a3L,if_neg ez]at h1
      exact h1
   obtain⟨m,_,hl⟩:=I.loc
   obtain⟨c,hcc⟩:=T4.mp (hcl2 y (z5 hf))
   have vis:Vis X.env.scope y:=by
    rcases hc.fr _ (z5 hf) rfl with q | q
    ·exact .inr (.inl q)
    ·exact .inr (.inr q)
   obtain⟨u,ru,lk⟩:=hl i y v hy h2 vis
   refine⟨u,ru,.inr ⟨?_,c,hcc,?_⟩⟩
   ·rcases h3 with q | q
    ·rcases K9 q with q | ⟨_,z⟩
     ·exact absurd q (hc.see y my)
     ·cases z
    ·exact q
   ·have hce:=hcl y c hcc
    rcases lk with ⟨q,_⟩ | ⟨_,c',e',z⟩
    ·rcases hc.fr _ (z5 hf) rfl with q' | q'
     ·have q:X.env.scope.names.lookup y=some .local:=q
      rw[show X.env.scope.names.lookup y=some NameKind.cell from q']at q
      cases q
     ·have q:X.env.scope.names.lookup y=some .local:=q
      rw[show X.env.scope.names.lookup y=some NameKind.free from q']at q
      cases q
    ·rw[e']at hce
     cases hce
     obtain⟨o,ho,hd⟩:=z
     exact⟨o,k _ _ ho,hd⟩
 ·obtain⟨v,o,ho,hd⟩:=I.cell y c (hcl y c e)
  exact⟨v,o,k _ _ ho,hd⟩
 ·exact I.freeC y c (hcl y c e)
 ·show(none::σ).length=(x::hid x X.N).length
  have:=I.len
  simp[hid,this]
theorem a8k{H1:Hp}{s2:g7}{it:Addr}{tn:Nat->Heap->Prop}{J:It}{Q:VK}{E:Value->g7->Prop}
  {RR:Value->Addr->c3K->g7->Prop} (hc:M9 X.N X.env.scope scope x) (hcalm:X.calm=true)
  (hcl:∀y c,cl.lookup y=some c->X.env.cells.lookup y=some c) (hcl2:∀y,(y,NameKind.free)∈scope.names->(cl.lookup y).isSome=true)
  (ht:∀C fp s3 H3,PTs (Q2 X scope cl C x fp s3 H3) ifs tt) (he:∀C fp s3 H3,PE (Q2 X scope cl C x fp s3 H3) elt te)
  (I:Inv X pins σ H1 s2) (T:b0O X.prog X.w X.K (.Name x px) J fp it tn) (st:tn 0 s2.heap) (fpo:∀b∈fp,a4c X pins H1 b)
  (h:∀D,H1 D=none->∃W:Nat->Nat->List V->Hp->Prop,
   (∃m,W 0 m [] (upd H1 D (.lst [])))/\∀i m ys H2,W i m ys H2->H2 D=some (.lst ys) /\
   ((J.stop i H2 /\ Q (.ref D) H2) \/ (J.go i H2 /\ ∀ x H3,J.yld i H2 x H3 -> tt (some x :: σ) H3 fun ok H4 => if ok = true then
     te (some x::σ) H4 (fun y H5=>H5 D=some (.lst ys)/\ys.length<j9/\∃m',m'<m/\W (i+1) m' (ys++[y]) (upd H5 D (.lst (ys++[y]))))
     else ∃m',m'<m/\W (i+1) m' ys H4)))
  (hRR:∀D C s' H' m,Inv X pins σ H' s'->s'.heap.Ns C m->H' C=none->C≠X.env.locals->X.s₀.heap.objs.size<=C->(∀y c,X.env.cells.lookup y=some c->c≠C)->(∀p∈X.pn++pins,p.1≠C)->Q (.ref D) H'->RR (.ref D) C (.ok .next) s') :
  wpAny (model X.prog X.w) X.A (newList []) (fun acc s₃=>wpAny (model X.prog X.w) X.A (newFunctionEnv scope X.env.globals cl [] X.env.qual none .none (some X.env)) (fun cenv s₄=>
   a5J (model X.prog X.w) X.A (.compStart (.ListComp elt [⟨.Name x px,iter,ifs,0⟩] scope pos) 0 (.ref it) acc { cenv with scope:=a5I scope X.env }) (RR acc cenv.locals) s₄) E s₃) E s2:=by
 refine O2 (hd:=by size_fits) ?_
 have I3:=I.lnew (ys:=[]) (its:=[]) (t':=s2.toks) .nil (by show 0<=j9;exact L9 _)
 obtain⟨W,⟨m0,w0⟩,turn⟩:=h _ I.fresh
 generalize hD:s2.heap.objs.size=D at I3 w0 turn ⊢
 generalize hs3:({ s2 with heap:=s2.heap.push { cls:=.type "list",data:=.seq ([]:List Value).toArray } }:g7)=s3
 have hs3':({ s2 with heap:=s2.heap.push { cls:=.type "list",data:=.seq ([]:List Value).toArray },toks:=s2.toks }:g7)=s3:=hs3
 rw[hs3']at I3
 have keep3:∀b o,s2.heap.get? b=some o->s3.heap.get? b=some o:=fun b o e=>by rw[<-hs3];exact g9 _ e
 have fpl:∀b∈fp,b<s3.heap.objs.size:=fun b hb=>by
  obtain⟨o,e,_⟩:=T.obj _ _ st b hb
  exact g8 (keep3 b o e)
 have fpD:∀b∈fp,b≠D:=fun b hb z=>by
  obtain⟨o,e,_⟩:=T.obj _ _ st b hb
  exact absurd (g8 e) (by rw[z,hD];exact E4 _)
 have fpo3:∀b∈fp,a4c X pins (upd H1 D (.lst [])) b:=fun b hb=>⟨by rw[c9 (fpD b hb)];exact(fpo b hb).1,(fpo b hb).2⟩
 show wpAny _ _ _ _ _ s3
 refine c4P hc.cell (by intro y hy;simp at hy) (fun h₁ hns₁ hsb₁=>?_) hc.kind
 dsimp only[newEnv]at hns₁ hsb₁ ⊢
 have keep4:∀b o,s3.heap.get? b=some o->h₁.get? b=some o:=fun b o e=>hsb₁.extBut b o (u5 (g8 e)) (g9 _ e)
 have I4:=b8a (tk:=s3.toks+([]:List (Str×Value)).length) hc I3 hcl hcl2 fpo3 fpl hns₁ keep4
 have st4:tn 0 h₁:=T.keep _ _ _ st fun b hb o e=>keep4 b o (keep3 b o e)
 have loop:∀s₄:g7,s₄={ s3 with heap:=h₁,toks:=s3.toks+([]:List (Str×Value)).length } ->
   a5J (model X.prog X.w) X.A (.compLoop (.ListComp elt [⟨.Name x px,iter,ifs,0⟩] scope pos) 0 (.ref it) (.ref D) (b5W scope cl s3.heap.objs.size X.env)) (RR (.ref D) s3.heap.objs.size) s₄:=by
  rintro s₄ rfl
  have stat:∀ {H':Hp},(∀b∈fp,H' b=none)->∀b∈fp,a4c (Q2 X scope cl s3.heap.objs.size x fp s3 (upd H1 D (.lst []))) [] H' b:=fun hn b hb=>
   ⟨hn b hb,u5 (fpl b hb),fun hf=>by
    rcases c8.mp (I3.stkSub b hf)with e | e
    ·exact(fpo b hb).2.1 e
    ·exact(fpo b hb).2.2.1 e,.inl hb,fun y c e=>(fpo b hb).2.2.2.2.1 y c (hcl y c e),fun p hp=>absurd (show p∈([]:List (Addr×Obj))from hp) (by simp)⟩
  refine a9z (env:=b5W scope cl s3.heap.objs.size X.env) (fun n s'=>∃i ys H',Inv (Q2 X scope cl s3.heap.objs.size x fp s3 (upd H1 D (.lst []))) [] (none::σ) H' s'/\tn i s'.heap/\(∀b∈fp,H' b=none)/\W i n ys H') ?_ m0
   ⟨0,[],_,I4,st4,fun b hb=>(fpo3 b hb).1,w0⟩
  rintro n s5 ⟨i,ys,H5,I5,st5,fr5,w5⟩
  obtain⟨hDy,alt⟩:=turn i n ys H5 w5
  rcases alt with ⟨stop,q⟩ | ⟨go,step⟩
  ·refine U8 (T.done (Q2 X scope cl s3.heap.objs.size x fp s3 (upd H1 D (.lst []))) rfl rfl rfl hcalm i [] s5 _ H5 (fun _ _=>False) I5 (stat fr5) st5 stop) (fun r s6 ⟨hr,I6⟩=>?_) fun _ _ f=>f
   subst hr
   obtain⟨m6,n6,_⟩:=I6.loc
   have J6:Inv X pins σ H5 s6:=by
    refine I3.call' (ch:=fp) I6.os I6.base I6.hok I6.bare fun b hb=>?_
    obtain⟨_,f1,f2,f3,f4,f5⟩:=fpo3 b hb
    exact⟨f3,f1,f4,f5⟩
   refine hRR D _ s6 H5 m6 J6 n6 I6.free (b5R I3.lt) I3.sz (fun y c e z=>?_) (fun p hp z=>?_) q
   ·obtain⟨v,q⟩:=I3.cell y c e
    exact absurd q.lt (by rw[z];exact E4 _)
   ·exact absurd (g8 (I3.pin p hp).1) (by rw[z];exact E4 _)
  ·refine U8 (T.item (Q2 X scope cl s3.heap.objs.size x fp s3 (upd H1 D (.lst []))) rfl rfl rfl hcalm i [] s5 _ H5 (fun _ _=>False) I5 (stat fr5) st5 go) (fun r s6 ⟨u,hr,h6⟩=>?_) fun _ _ f=>f
   subst hr
   refine thn h6 fun _ s6 ⟨xv,H6,I6,r6,y6,st6,fr6⟩=>?_
   have I6':=I6.pinned (stat fr6) (T.obj _ _ st6)
   refine b2D (a4Z (i:=0) I6' ?nd rfl (.inl ?loc) r6 (fun s7 I7=>?_) (.inr ?loc))
   case nd=>exact hc.nd
   case loc=>exact a0r hc.own
   have I7:Inv (Q2 X scope cl s3.heap.objs.size x fp s3 (upd H1 D (.lst []))) ([]++a4C fp s6.heap) (some xv::σ) H6 s7:=I7
   have again:∀ {s8:g7} {H8:Hp} {ys8:List V},Inv (Q2 X scope cl s3.heap.objs.size x fp s3 (upd H1 D (.lst []))) ([]++a4C fp s6.heap) (some xv::σ) H8 s8->(∃m',m'<n/\W (i+1) m' ys8 H8) ->
     ∃m,m<n/\∃i ys H',Inv (Q2 X scope cl s3.heap.objs.size x fp s3 (upd H1 D (.lst []))) [] (none::σ) H' s8/\tn i s8.heap/\(∀b∈fp,H' b=none)/\W i m ys H':=by
    rintro s8 H8 ys8 I8 ⟨m',hm,w8⟩
    refine⟨m',hm,i+1,ys8,H8,(I8.unpinned (pins:=[])).weak rfl (fun j v e=>?_),T.keep _ _ _ st6 fun b hb o e=>(I8.pin (b,o) (t6 _ (t6 _ (a0u hb e)))).1,fun b hb=>?_,w8⟩
    ·cases j with
     | zero=>cases e
     | succ j=>exact e
    ·obtain⟨o,e,d⟩:=T.obj _ _ st6 b hb
     exact(I8.pin (b,o) (t6 _ (t6 _ (a0u hb e)))).2.1
   refine thn (ht _ fp s3 _ _ s7 _ H6 _ I7 (step xv H6 y6)) (fun ok s8 ⟨H8,I8,q8⟩=>?_)
   cases ok with
   | false=>exact again I8 (by simpa using q8)
   | true=>
    rw[if_pos rfl]at q8
    rw[if_pos rfl]
    refine thn (he _ fp s3 _ _ s8 _ H8 _ I8 q8) (fun v s9 ⟨y,H9,I9,r9,hD9,hz9,w9⟩=>?_)
    refine U8 (a6i (X:=Q2 X scope cl s3.heap.objs.size x fp s3 (upd H1 D (.lst []))) _ s9 _ H9 (.ref D) [y] (.ref D) [v] (fun _ H'=>H'=upd H9 D (.lst (ys++[y]))) I9 rfl (.cons r9 .nil) ⟨D,ys,y,rfl,rfl,hD9,hz9,rfl⟩) (fun _ s10 ⟨_,H10,I10,_,e10⟩=>?_) fun _ _ f=>f
    subst e10
    exact again I10 w9
 exact c3B (loop _ rfl) (T.self X.A 0 _ _ _ st4 (loop _ rfl))
theorem a8j(hc:M9 X.N X.env.scope scope x)(I:Inv X pins σ H s):∀y∈scope.names,y.2=.free->∃c,X.env.cells.lookup y.1=some c:=by
 intro y hy e
 rcases hc.fr y hy e with q | q
 ·exact I.ok.has y.1 (.inl q)
 ·exact I.ok.has y.1 (.inr q)
theorem b9x{wi:TI}(hc:M9 X.N X.env.scope scope x)(hcalm:X.calm=true)(hi:PI X (.Name x px) iter wi)
  (ht:∀cl C fp s3 H3,PTs (Q2 X scope cl C x fp s3 H3) ifs tt) (he:∀cl C fp s3 H3,PE (Q2 X scope cl C x fp s3 H3) elt te)
  (hs:∀x,L1 iter X.env x=pure x:=by intro _;rfl) :
  PE X (.ListComp elt [⟨.Name x px,iter,ifs,0⟩] scope pos) (U1 wi tt te):=by
 intro pins s σ H Q I h
 obtain⟨cl,hclos,hcl,hcl2⟩:=a4N (a8j hc I)
 rw[eval_ListComp]
 refine a4S (use:=none) rfl hs hclos hc.kind hc.names (thn (hi pins s σ H _ I h) fun v s1 h1=>thn h1 fun itv s2 ⟨it,fp,tn,J,H2,e,I2,T,st,fpo,R⟩=>?_)
 subst e
 refine a8k (RR:=fun acc C=>compPost (model X.prog X.w) X.A X.xe none (EP X pins σ Q) acc C) (Q:=Q) hc hcalm hcl hcl2 (ht cl) (he cl) I2 T st fpo R ?_
 intro D C s' H' m I' n f1 f2 f3 f4 f5 q
 exact⟨m,n,fun h' sb=>⟨.ref D,H',I'.turned (t':=s'.toks) (fun b o hb e=>(sb.2 b hb).trans e) f1 f2 (.inr f3) f4 f5,rfl,q⟩⟩
theorem b3j{wi:TI}{i:Nat}{y:Str}{py spos:Pos}(hN:X.N.Nodup)(hiy:X.N[i]? = some y)(hy:X.env.scope.names.lookup y=some .local)(hc:M9 X.N X.env.scope scope x)(hcalm:X.calm=true)(hi:PI X (.Name x px) iter wi)
  (ht:∀cl C fp s3 H3,PTs (Q2 X scope cl C x fp s3 H3) ifs tt) (he:∀cl C fp s3 H3,PE (Q2 X scope cl C x fp s3 H3) elt te)
  (hsw:a1i (.ListComp elt [⟨.Name x px,iter,ifs,0⟩] scope pos) (some (.Name y py)) spos.line X.env=pure true:=by rfl)
  (hs:∀x,L1 iter X.env x=pure x:=by intro _;rfl) :
  PS X (.Assign [.Name y py] (.ListComp elt [⟨.Name x px,iter,ifs,0⟩] scope pos) spos) (fun D σ H=>U1 wi tt te σ H fun v H1=>D.nx (σ.set i (some v)) H1):=by
 intro pins s σ H D I h
 obtain⟨cl,hclos,hcl,hcl2⟩:=a4N (a8j hc I)
 rw[exec_Assign_Name_used _ _ _ _ hsw]
 refine c5 (c1h (c5 ?_))
 show wpAny _ X.A (do let _ <-comprehension (.ListComp elt [⟨.Name x px,iter,ifs,0⟩] scope pos) scope X.env _ (newList []) false (eval iter X.env) (some (a8Z (.Name y py) X.env))) _ _ s
 refine c5 (U8 (a4S (use:=some (a8Z (.Name y py) X.env)) (Q:=fun _ s'=>SP X pins D .next s') rfl hs hclos hc.kind hc.names
  (thn (hi pins s σ H _ I h) fun v s1 h1=>thn h1 fun itv s2 ⟨it,fp,tn,J,H2,e,I2,T,st,fpo,R⟩=>?_)) (fun _ s' hq=>l5 (l5 hq)) fun _ _ e=>e)
 subst e
 refine a8k (RR:=fun acc C=>compPost (model X.prog X.w) X.A X.xe (some (a8Z (.Name y py) X.env)) (fun _ s'=>SP X pins D .next s') acc C) (Q:=fun v H1=>D.nx (σ.set i (some v)) H1) hc hcalm hcl hcl2 (ht cl) (he cl) I2 T st fpo R ?_
 intro E C s' H' m I' n f1 f2 f3 f4 f5 q
 show wpAny _ _ (a8Z (.Name y py) X.env (.ref E)) _ _ _
 refine b2D (a9n (v:=.ref E) I' hN hiy (.inl hy) rfl (fun s'' I'' ch=>?_) (.inr hy))
 obtain⟨a,sb,ha⟩:=ch
 have hCa:C≠a:=by
  rcases ha with e | e
  ·rw[e];exact f2
  ·exact fun z=>f4 y a e z.symm
 exact⟨m,n.sameBut sb hCa,fun h' sb'=>⟨_,_,I''.turned (t':=s''.toks) (fun b o hb e=>(sb'.2 b hb).trans e) f1 f2 (.inr f3) f4 f5,q⟩⟩
end
section
theorem OpR.imp{f:Value->Value->Sem Value}{r r':R2}(h:OpR X f r)(i:∀x y H Q,r' x y H Q->r x y H Q):OpR X f r':=fun pins s σ H x y u v Q I rx ry q=>h pins s σ H x y u v Q I rx ry (i _ _ _ _ q)
theorem U3.imp{f:Value}{r r':List V->Hp->VK->Prop}(h:U3 X f r)(i:∀xs H Q,r' xs H Q->r xs H Q):U3 X f r':=fun pins s σ H xs us Q I rx q=>h pins s σ H xs us Q I rx (i _ _ _ q)
theorem IxR.imp{r r':R2}(h:IxR X r)(i:∀x y H Q,r' x y H Q->r x y H Q):IxR X r':=by
 intro value slice pins s σ H x y v u Q I rx ry q hs
 exact h value slice pins s σ H x y v u Q I rx ry (i _ _ _ _ q) hs
theorem SlR.imp{r r':V->Option Int->Option Int->Hp->VK->Prop}(h:SlR X r)(i:∀x lo hi H Q,r' x lo hi H Q->r x lo hi H Q):SlR X r':=fun pins s σ H x v vl vu lo hi sl Q I rx hs pl pu q=>h pins s σ H x v vl vu lo hi sl Q I rx hs pl pu (i _ _ _ _ _ q)
def a1R:R2:=fun x y H Q=>match x,y with
 | .int i,.int j=>Q (.int (i+j)) H
 | .str i,.str j=>i.length+j.length<=j9/\Q (.str (i++j)) H
 | .ref a,.ref b=>match H a,H b with
  | some (.lst xs),some (.lst ys)=>xs.length+ys.length<=j9/\∀p,H p=none->Q (.ref p) (upd H p (.lst (xs++ys)))
  | _,_=>False
 | _,_=>False
theorem b9M:OpR X (W2 .Add) a1R:=by
 refine(c2F.or (b3r.or c2E)).imp fun x y H Q h=>?_
 unfold a1R at h
 split at h
 ·exact .inl ⟨_,_,rfl,rfl,h⟩
 ·exact .inr (.inl ⟨_,_,rfl,rfl,h.1,h.2⟩)
 ·split at h
  ·exact .inr (.inr ⟨_,_,_,_,rfl,rfl,by assumption,by assumption,h.1,h.2⟩)
  ·exact h.elim
 ·exact h.elim
def q2I(C:Int->Int->Prop)(g:Int->Int->V):R2:=fun x y H Q=>match x,y with
 | .int i,.int j=>C i j/\Q (g i j) H
 | _,_=>False
def b1I(g:Int->Int->V):R2:=fun x y H Q=>match x,y with
 | .int i,.int j=>Q (g i j) H
 | _,_=>False
theorem b3i{f:Value->Value->Sem Value}{C:Int->Int->Prop}{g:Int->Int->V}(h:OpR X f (rI C g)):OpR X f (q2I C g):=h.imp fun x y H Q q=>by
 unfold q2I at q
 split at q
 ·exact⟨_,_,rfl,rfl,q.1,q.2⟩
 ·exact q.elim
theorem a5k{f:Value->Value->Sem Value}{g:Int->Int->V}(h:OpR X f (rI0 g)):OpR X f (b1I g):=h.imp fun x y H Q q=>by
 unfold b1I at q
 split at q
 ·exact⟨_,_,rfl,rfl,q⟩
 ·exact q.elim
abbrev b7a:R2:=b1I fun i j=>.int (i - j)
abbrev b3f:R2:=q2I b8n fun i j=>.int (i * j)
abbrev a7O:R2:=q2I (fun _ j=>0<j) fun i j=>.int (i % j)
abbrev b8Z:R2:=q2I (fun _ j=>0<j/\j<2 ^ 64) fun i j=>.int (i / j)
abbrev qLt:R2:=b1I fun i j=>.bl (decide (i<j))
abbrev qLe:R2:=b1I fun i j=>.bl (decide (i<=j))
abbrev qGt:R2:=b1I fun i j=>.bl (decide (j<i))
abbrev qGe:R2:=b1I fun i j=>.bl (decide (j<=i))
theorem b9C:OpR X (W2 .Sub) b7a:=a5k c2s
theorem b9F:OpR X (W2 .Mult) b3f:=b3i c2B
theorem b9G:OpR X (W2 .Mod) a7O:=b3i c2C
theorem b9L:OpR X (W2 .FloorDiv) b8Z:=b3i (opI fun i j _ _ _ _ _ hc q=>by
 have hl:j.natAbs.log2<9000:=by
  have:j.natAbs<2 ^ 64:=by have:=hc.1;have:=hc.2;omega
  by_cases h0:j.natAbs=0
  ·rw[h0];decide +kernel
  ·exact b5S ((Nat.log2_lt h0).mpr this) (by decide)
 refine floordiv_int (by omega) ?_ (.inl (PyProof.noPylong_of_log2 hl))
 rw[Int.fdiv_eq_ediv_of_nonneg _ (by omega)]
 exact q)
theorem c2u:OpR X (o6 .Lt) qLt:=a5k c4v
theorem c2v:OpR X (o6 .LtE) qLe:=a5k c4w
theorem c2y:OpR X (o6 .Gt) qGt:=a5k c4x
theorem c2z:OpR X (o6 .GtE) qGe:=a5k c4y
def qIx:R2:=fun x y H Q=>match x,y with
 | .ref p,.int i=>match H p with
  | some (.lst xs)=>∃v,atI xs i=some v/\Q v H
  | some (.tup xs)=>∃v,atI xs i=some v/\Q v H
  | _=>False
 | .str z,.int i=>z.length<=j9/\∃c,atI z.cps.toList i=some c/\Q (.str ⟨#[c]⟩) H
 | _,_=>False
theorem c5f:IxR X qIx:=c2Y.imp fun x y H Q h=>by
 unfold qIx at h
 split at h
 ·split at h
  ·obtain⟨v,e,q⟩:=h
   exact .inl ⟨_,_,_,v,rfl,rfl,SqL.of (by assumption),e,q⟩
  ·obtain⟨v,e,q⟩:=h
   exact .inr (.inl ⟨_,_,_,v,rfl,rfl,SqT.of (by assumption),e,q⟩)
  ·exact h.elim
 ·obtain⟨z,c,e,q⟩:=h
  exact .inr (.inr ⟨_,_,c,rfl,rfl,z,e,q⟩)
 ·exact h.elim
def qSl:V->Option Int->Option Int->Hp->VK->Prop:=fun x lo hi H Q=>match x with
 | .ref a=>match H a with
  | some (.lst xs)=>∀p,H p=none->Q (.ref p) (upd H p (.lst (a4M xs lo hi)))
  | some (.tup xs)=>¬(HT.sIx xs.length 0 lo=0/\HT.sIx xs.length xs.length hi=xs.length)/\∀p,H p=none->Q (.ref p) (upd H p (.tup (a4M xs lo hi)))
  | _=>False
 | _=>False
theorem c4U:SlR X qSl:=(b3Z.or c1n).imp fun x lo hi H Q h=>by
 unfold qSl at h
 split at h
 ·split at h
  ·exact .inl ⟨_,_,rfl,SqL.of (by assumption),h⟩
  ·exact .inr ⟨_,_,rfl,SqT.of (by assumption),h.1,h.2⟩
  ·exact h.elim
 ·exact h.elim
def Q1:List V->Hp->VK->Prop:=fun xs H Q=>match xs with
 | [.ref p]=>match H p with
  | some (.lst ys)=>Q (.int ys.length) H
  | some (.tup ys)=>Q (.int ys.length) H
  | _=>False
 | [.str z]=>z.length<=j9/\Q (.int z.length) H
 | _=>False
theorem b5I:U3 X (.builtin "len") Q1:=(b0E.or b0D).imp fun xs H Q h=>by
 unfold Q1 at h
 split at h
 ·split at h
  ·exact .inl ⟨_,_,rfl,.inl (SqL.of (by assumption)),h⟩
  ·exact .inl ⟨_,_,rfl,.inr (SqT.of (by assumption)),h⟩
  ·exact h.elim
 ·exact .inr ⟨_,rfl,h.1,h.2⟩
 ·exact h.elim
def b7c:List V->Hp->VK->Prop:=fun xs H Q=>match xs with
 | [.int i]=>Q (.int (if i<0 then -i else i)) H
 | _=>False
theorem b5M:U3 X (.builtin "abs") b7c:=b8d.imp fun xs H Q h=>by
 unfold b7c at h
 split at h
 ·exact⟨_,rfl,h⟩
 ·exact h.elim
def a6Q:V->V->V->Hp->(Hp->Prop)->Prop:=fun o i v H Q=>match o,i with
 | .ref p,.int k=>match H p with
  | some (.lst xs)=>∃j,ixN xs.length k=some j/\Q (upd H p (.lst (xs.set j v)))
  | _=>False
 | _,_=>False
theorem c3M:b8h X a6Q:=by
 intro pins s σ H o i v u1 u2 u3 Q I r1 r2 r3 h
 refine b6H pins s σ H o i v u1 u2 u3 Q I r1 r2 r3 ?_
 unfold a6Q at h
 split at h
 ·split at h
  ·obtain⟨j,e,q⟩:=h
   exact⟨_,_,_,j,rfl,rfl,by assumption,e,q⟩
  ·exact h.elim
 ·exact h.elim
def a0v(xs ys:List V):Bool:=(w4 (min xs.length ys.length)).all (fun j=>eqV (xs.getD j .non) (ys.getD j .non))&&xs.length == ys.length
def eqO(x y:V)(H:Hp):Option Bool:=if a9S x y=true then some (decide (x=y))else match x,y with
 | .ref a,.ref b=>match H a,H b with
  | some (.tup xs),some (.tup ys)=>if xs.all F2=true/\ys.all F2=true then some (a0v xs ys)else none
  | some (.lst xs),some (.lst ys)=>if xs.all F2=true/\ys.all F2=true then some (a0v xs ys)else none
  | _,_=>none
 | .non,.ref a=>match H a with
  | some (.tup _)=>some false
  | _=>none
 | .ref a,.non=>match H a with
  | some (.tup _)=>some false
  | _=>none
 | _,_=>none
def qEq:R2:=fun x y H Q=>∃b,eqO x y H=some b/\Q (.bl b) H
def qNe:R2:=fun x y H Q=>∃b,eqO x y H=some b/\Q (.bl (!b)) H
theorem a5r{A:G8}{ys:List V}{ws:List Value}(rx:E2 xs us)(ry:E2 ys ws)(fx:xs.all F2=true)(fy:ys.all F2=true) :
  ∀j (h1:j<us.toArray.size) (h2:j<ws.toArray.size),SeqAt.EqAt A s us.toArray[j] ws.toArray[j] (eqV (xs.getD j .non) (ys.getD j .non)):=by
 intro j h1 h2
 have l1:=rx.length
 have l2:=ry.length
 have h1':j<us.length:=by simpa using h1
 have h2':j<ws.length:=by simpa using h2
 have e1:xs[j]? = some (xs[j]'(by omega)):=by simp
 have e2:ys[j]? = some (ys[j]'(by omega)):=by simp
 obtain⟨u,hu,ru⟩:=rx.get e1
 obtain⟨w,hw,rw'⟩:=ry.get e2
 have z1:us.toArray[j]=u:=by
  have:us[j]? = some us[j]:=by simp
  rw[this]at hu
  simpa using hu
 have z2:ws.toArray[j]=w:=by
  have:ws[j]? = some ws[j]:=by simp
  rw[this]at hw
  simpa using hw
 rw[z1,z2]
 have g1:xs.getD j .non=xs[j]'(by omega):=by simp[L4,e1]
 have g2:ys.getD j .non=ys[j]'(by omega):=by simp[L4,e2]
 rw[g1,g2]
 exact a8f ru rw' (N4.mp fx _ (D2 _)) (N4.mp fy _ (D2 _))
theorem c0U{x y:V}{v:Value}{k:Bool}(I:Inv X pins σ H s)(hu:X.A.units<cLine)(rx:C7 x v)(ry:C7 y u)(hs:¬a9S x y=true)(e:eqO x y H=some k) :
  SeqAt.RcAt X.A s v u k/\SeqAt.RcNeAt X.A s v u (!k):=by
 unfold eqO at e
 rw[if_neg hs]at e
 split at e
 ·rename_i a b
  cases rx
  cases ry
  split at e
  ·rename_i xs ys ha hb
   split at e
   ·rename_i hf
    cases e
    obtain⟨us,r1,t1,_⟩:=I.tuple (SqT.of ha)
    obtain⟨ws,r2,t2,_⟩:=I.tuple (SqT.of hb)
    have l1:=r1.length
    have l2:=r2.length
    have q1:=SeqAt.RcAt.tuples (A:=X.A) t1 t2 hu (a5r r1 r2 hf.1 hf.2)
    have q2:=SeqAt.RcNeAt.tuples (A:=X.A) t1 t2 hu (a5r r1 r2 hf.1 hf.2)
    simp only[j4,<-l1,<-l2]at q1 q2
    exact⟨q1,q2⟩
   ·cases e
  ·rename_i xs ys ha hb
   split at e
   ·rename_i hf
    cases e
    obtain⟨us,r1,t1,_⟩:=I.list (SqL.of ha)
    obtain⟨ws,r2,t2,_⟩:=I.list (SqL.of hb)
    have l1:=r1.length
    have l2:=r2.length
    by_cases hl:us.toArray.size=ws.toArray.size
    ·have q1:=SeqAt.RcAt.lists (A:=X.A) t1.isList t2.isList hl hu (a5r r1 r2 hf.1 hf.2)
     have q2:=SeqAt.RcNeAt.lists (A:=X.A) t1.isList t2.isList hl hu (a5r r1 r2 hf.1 hf.2)
     have hl':xs.length=ys.length:=by simpa[<-l1,<-l2]using hl
     have ef:a0v xs ys=(w4 us.toArray.size).all fun j=>eqV (xs.getD j .non) (ys.getD j .non):=by
      unfold a0v
      rw[hl',Nat.min_self,j4,<-l1,hl']
      simp
     rw[ef]
     exact⟨q1,q2⟩
    ·have hl2:(us.toArray.size != ws.toArray.size)=true:=by simpa using hl
     have q1:=SeqAt.RcAt.lists_lengths (A:=X.A) t1.isList t2.isList hl2 hu
     have q2:=SeqAt.RcNeAt.lists_lengths (A:=X.A) t1.isList t2.isList hl2 hu
     have ef:a0v xs ys=false:=by
      unfold a0v
      have:¬xs.length=ys.length:=by simpa[<-l1,<-l2]using hl
      simp[this]
     rw[ef]
     exact⟨q1,q2⟩
   ·cases e
  ·cases e
 ·cases rx
  cases ry
  split at e
  ·cases e
   obtain⟨us,_,t1,_⟩:=I.tuple (SqT.of (by assumption))
   exact⟨SeqAt.RcAt.none_tuple t1 hu,SeqAt.RcNeAt.none_tuple t1 hu⟩
  ·cases e
 ·cases rx
  cases ry
  split at e
  ·cases e
   obtain⟨us,_,t1,_⟩:=I.tuple (SqT.of (by assumption))
   exact⟨SeqAt.RcAt.tuple_none t1 hu,SeqAt.RcNeAt.tuple_none t1 hu⟩
  ·cases e
 ·cases e
theorem c2A(hu:X.A.units<cLine):OpR X (o6 .Eq) qEq:=by
 intro pins s σ H x y v u Q I rx ry h
 obtain⟨k,e,q⟩:=h
 by_cases hs:a9S x y=true
 ·unfold eqO at e
  rw[if_pos hs]at e
  cases e
  exact c4z pins s σ H x y v u Q I rx ry ⟨hs,q⟩
 ·exact(c0U I hu rx ry hs e).1 _ _ _ _ ⟨.bl k,H,I,rfl,q⟩
theorem c2t(hu:X.A.units<cLine):OpR X (o6 .NotEq) qNe:=by
 intro pins s σ H x y v u Q I rx ry h
 obtain⟨k,e,q⟩:=h
 by_cases hs:a9S x y=true
 ·unfold eqO at e
  rw[if_pos hs]at e
  cases e
  exact b4g pins s σ H x y v u Q I rx ry ⟨hs,q⟩
 ·exact(c0U I hu rx ry hs e).2 _ _ _ _ ⟨.bl (!k),H,I,rfl,q⟩
def qIn(neg:Bool):R2:=fun x y H Q=>match x,y with
 | .str i,.str j=>Q (.bl (if neg then !(!(Builtin.Str.occurrences j i 0 j.length 1).isEmpty)else !(Builtin.Str.occurrences j i 0 j.length 1).isEmpty)) H
 | x,.ref p=>match H p with
  | some (.lst xs)=>F2 x=true/\xs.all F2=true/\Q (.bl (if neg then !inV x xs else inV x xs)) H
  | some (.tup xs)=>F2 x=true/\xs.all F2=true/\Q (.bl (if neg then !inV x xs else inV x xs)) H
  | _=>False
 | _,_=>False
theorem c2x:OpR X (o6 .In) (qIn false):=(b5e.or a9q).imp fun x y H Q h=>by
 unfold qIn at h
 split at h
 ·exact .inl ⟨_,_,rfl,rfl,h⟩
 ·split at h
  ·exact .inr ⟨_,_,rfl,.inl (SqL.of (by assumption)),h.1,h.2.1,h.2.2⟩
  ·exact .inr ⟨_,_,rfl,.inr (SqT.of (by assumption)),h.1,h.2.1,h.2.2⟩
  ·exact h.elim
 ·exact h.elim
def a0y:V->List V->Hp->VK->Prop:=fun x vs H Q=>match x,vs with
 | .ref l,[y]=>match H l with
  | some (.lst xs)=>xs.length<j9/\Q .non (upd H l (.lst (xs++[y])))
  | _=>False
 | _,_=>False
theorem b3y:MtR X "list.append" a0y:=fun pins s σ H x xs v us Q I rx rv h=>by
 refine a6i pins s σ H x xs v us Q I rx rv ?_
 unfold a0y at h
 split at h
 ·split at h
  ·exact⟨_,_,_,rfl,rfl,by assumption,h.1,h.2⟩
  ·exact h.elim
 ·exact h.elim
def a3t:List V->Option (List Str)
 | []=>some []
 | .str s::r=>(a3t r).map (s :: ·)
 | _=>none
theorem b2P(ss:List Str):a3t (ss.map V.str)=some ss:=by
 induction ss with
 | nil=>rfl
 | cons s r ih=>simp[a3t,ih]
theorem a7B:∀ {xs:List V} {us:List Value} {ss:List Str},E2 xs us->a3t xs=some ss->StrsAre us ss
 | _,_,ss,.nil,e=>by cases e;exact .nil
 | x::xs,_,ss,.cons r t,e=>by
  cases x with
  | str s=>
   obtain⟨k,rfl⟩:=r
   cases e2:a3t xs with
   | none=>simp[a3t,e2]at e
   | some ss2=>
    simp[a3t,e2]at e
    subst e
    exact .cons _ _ (a7B t e2)
  | _=>simp[a3t]at e
def a2r(x:V)(H:Hp):Option String:=match x with
 | .non=>some "NoneType"
 | .bl _=>some "bool"
 | .int _=>some "int"
 | .str _=>some "str"
 | .ref a=>match H a with
  | some (.lst _)=>some "list"
  | some (.tup _)=>some "tuple"
  | some (.dK _)=>some "dict"
  | some (.dT _)=>some "dict"
  | _=>none
 | _=>none
def b3D(t c:String):Bool:=t == c||(t == "bool" && c == "int")
def a6k:List String:=["int","bool","str","list","tuple","dict"]
theorem c2R(K:Fg):∀t ∈ "NoneType" :: a6k,∀c∈a6k,c0E K (.type t) (.type c)=some (b3D t c):=by
 intro t ht c hc
 simp only[a6k,c8,l6,or_false]at ht hc
 rcases ht with rfl | rfl | rfl | rfl | rfl | rfl | rfl <;> rcases hc with rfl | rfl | rfl | rfl | rfl | rfl <;> kernel_rfl
theorem c3L{K:Fg}{x:V}{t:String}(h:a2r x H=some t):a6q K H x (.type t)/\t ∈ "NoneType" :: a6k:=by
 unfold a2r at h
 split at h
 ·cases h;exact⟨.non,by decide⟩
 ·cases h;exact⟨.bl _,by decide⟩
 ·cases h;exact⟨.int _,by decide⟩
 ·cases h;exact⟨.str _,by decide⟩
 ·split at h
  ·cases h;exact⟨.lst (by assumption),by decide⟩
  ·cases h;exact⟨.tup (by assumption),by decide⟩
  ·cases h;exact⟨.dK (by assumption),by decide⟩
  ·cases h;exact⟨.dT (by assumption),by decide⟩
  ·cases h
 ·cases h
def a2D:List V->Hp->VK->Prop:=fun xs H Q=>match xs with
 | [x,.ty c]=>∃t,a2r x H=some t/\c∈a6k/\Q (.bl (b3D t c)) H
 | _=>False
theorem b5J:U3 X (.builtin "isinstance") a2D:=fun pins s σ H xs us Q I r h=>by
 unfold a2D at h
 split at h
 ·obtain⟨t,e,hc,q⟩:=h
  obtain⟨u,u2,rfl,ru,ru2⟩:=c0L r
  cases ru2
  obtain⟨ty,ht⟩:=c3L (K:=X.K) e
  exact b5s I ru ty (c2R X.K t ht _ hc) fun tk=>⟨.bl _,H,I.tok _,rfl,q⟩
 ·exact h.elim
def b4Y:V->V->Hp->VK->Prop:=fun x y H Q=>match x,y with
 | .ref p,.int i=>match H p with
  | some (.lst xs)=>0<=i/\∃v,xs[i.toNat]? = some v/\Q v H
  | _=>False
 | _,_=>False
theorem c4B:c3m X b4Y:=fun pins s σ H o i ov iv Q I r1 r2 h=>by
 unfold b4Y at h
 split at h
 ·split at h
  ·obtain⟨h0,v,e,q⟩:=h
   cases r1
   obtain⟨t,rfl⟩:=r2
   obtain⟨its,r,pl,hz⟩:=I.list (SqL.of (by assumption))
   obtain⟨u,eu,ru⟩:=r.get e
   have hl:=(j8.mp e).1
   have hn:=a4L
   exact wpAny_getItem_list pl.isList h0 (by omega) (by simpa using eu) ⟨v,H,I,ru,q⟩
  ·exact h.elim
 ·exact h.elim
def qIs:R2:=fun x y H Q=>y=.non/\Q (.bl (decide (x=.non))) H
def a7P:R2:=fun x y H Q=>y=.non/\Q (.bl (!decide (x=.non))) H
theorem c2w:OpR X (o6 .Is) qIs:=c2D
theorem b5d:OpR X (o6 .IsNot) a7P:=b9N
structure D4(P:v8)(w:World)(K:Fg)(mg:Str->Option Value)(base:Heap)(k:Nat)(x:Str)(ps:List Str)(sp:Sp):Prop where
 ex:∃f fd,J9 P w K mg base CX0 k f fd ps sp/\mg x=some (.ref f)/\P7 K (.ref f)=true/\a3b K fd ps []
theorem c2g{k j:Nat}{x:Str}{e:Expr}{es:List Expr}{t:TA}{p:Pos}(C:D4 X.prog X.w X.K X.mg X.base k x ps sp)(hr:N8 j X.A)(hk:k<=j)(hg:Gl X x)(ha:PA X (e::es) t)
  (hdb:(x == ("__debug__" : Str))=false:=by decide) (he:d8 (e::es) X.env=(false,eval e X.env)::d8 es X.env:=by rfl) (hpl:(V0 pos (d8 es X.env)).any (·.1)=false:=by rfl) :
  PE X (.Call (.Name x p) (e::es) [] pos) (v4 sp [] E0 t):=by
 obtain⟨f,fd,F,hm,hkp,hb⟩:=C.ex
 exact b9z F (hr.mono hk) hg hm hkp hb .nil b7w ha hdb he hpl
theorem b5G{P:v8}{K:Fg}{mg:Str->Option Value}{base:Heap}{k:Nat}{x q:Str}{st:Stmt}{f:Addr}{fd:W3}(F:Fun K x q st f fd)(O:J9 P w K mg base CX0 k f fd ps sp)
  (hm:mg x=some (.ref f)) (hb:a3b K fd ps []):D4 P w K mg base k x ps sp:=⟨f,fd,O,hm,F.kp,hb⟩
def a1J:List V->Hp->VK->Prop:=fun xs H Q=>match xs with
 | [.ref p]=>match H p with
  | some (.lst ys)=>∀l,H l=none->Q (.ref l) (upd H l (.lst ys))
  | some (.tup ys)=>∀l,H l=none->Q (.ref l) (upd H l (.lst ys))
  | _=>False
 | _=>False
theorem b3N:U3 X (.type "list") a1J:=b0C.imp fun xs H Q h=>by
 unfold a1J at h
 split at h
 ·split at h
  ·exact⟨_,_,rfl,.inl (SqL.of (by assumption)),h⟩
  ·exact⟨_,_,rfl,.inr (SqT.of (by assumption)),h⟩
  ·exact h.elim
 ·exact h.elim
theorem b1p:∀ {kvs:List (Key×V)} {k:Key} {x:V},(kvs.map (·.1)).Nodup->(k,x)∈kvs->Y3 kvs k=some x
 | [],_,_,_,h=>by cases h
 | (k0,x0)::r,k,x,nd,h=>by
  have nd':k0∉r.map (·.1)/\(r.map (·.1)).Nodup:=L6.mp nd
  unfold Y3
  rw[T3]
  by_cases e:k0=k
  ·rw[show decide (((k0,x0):Key×V).1=k)=true from c6x e]
   rcases c8.mp h with z | z
   ·cases z;rfl
   ·exact absurd (p9.mpr ⟨_,z,e.symm⟩) nd'.1
  ·rw[show decide (((k0,x0):Key×V).1=k)=false from c6w e]
   rcases c8.mp h with z | z
   ·cases z;exact absurd rfl e
   ·exact b1p nd'.2 z
end
def Its(x:Str):It:=⟨fun i _=>i<x.length,fun i H v H'=>H'=H/\∃c,x.cps[i]? = some c/\v=.str ⟨#[c]⟩,fun i _=>x.length<=i⟩
theorem b6y{P:v8}{K:Fg}{tg:Expr}(x:Str)(t:Tok)(it:Addr):b0O P w K tg (Its x) [it] it (fun i h=>h.IsStrIter it (a1O x) x t i) where
 mem:=by simp
 obj:=fun i h st b hb=>by
  have e:b=it:=by simpa using hb
  subst e
  obtain⟨o,e,c,d⟩:=st
  exact⟨o,e,fun v z=>by rw[d]at z;cases z⟩
 keep:=fun i h h' st k=>let⟨o,ho,r⟩:=st; ⟨o,k it (by simp) o ho,r⟩
 item:=by
  intro X hP hw hK hc i pins s σ H E I hf st hg
  subst hP hw hK
  have hi:i<x.cps.size:=hg
  obtain⟨f0,f1,f2,f3,f4,f5⟩:=hf it (by simp)
  have hx:x.cps[i]? = some x.cps[i]:=by simp[hi]
  have fin:∀h',h'.IsStrIter it (a1O x) x t (i+1)->Heap.SameBut it s.heap h'->∃u,some (Value.str ⟨#[x.cps[i]]⟩ s.toks)=some u /\
    wpAny (model X.prog X.w) X.A (a3k tg (.ref it) u) (fun _ s2=>∃v H',Inv X pins σ H' s2/\C7 v u/\(Its x).yld i H v H'/\s2.heap.IsStrIter it (a1O x) x t (i+1)/\∀b∈[it],H' b=none) E { s with heap:=h',toks:=s.toks+1 }:=by
   intro h' st' sb
   have I1:Inv X pins σ H { s with heap:=h',toks:=s.toks+1 }:=I.turned (t':=s.toks+1) (fun b o hb e=>(sb.2 b hb).trans e) f0 f1 f3 f4 f5
   obtain⟨o,e,c,d⟩:=id st'
   refine⟨_,rfl,b4j (s:={ s with heap:=h',toks:=s.toks+1 }) e c d ?_ ⟨.str ⟨#[x.cps[i]]⟩,H,I1,⟨_,rfl⟩,⟨rfl,_,hx,rfl⟩,st',fun b hb=>(hf b hb).1⟩⟩
   unfold a1O
   split <;> decide
  unfold a1O at st fin ⊢
  split at st
  ·rename_i ha
   simp only[ha]at fin ⊢
   exact wpAny_pyNext_ascii_item st hx fun h' st' sb=>fin h' st' sb
  ·rename_i ha
   simp only[ha]at fin ⊢
   exact wpAny_pyNext_wide_item st hx fun h' st' sb=>fin h' st' sb
 done:=by
  intro X hP hw hK hc i pins s σ H E I hf st hg
  subst hP hw hK
  have hi:x.cps.size<=i:=hg
  obtain⟨f0,f1,f2,f3,f4,f5⟩:=hf it (by simp)
  have hx:x.cps[i]? = none:=by simp[hi]
  unfold a1O at st
  split at st
  ·exact wpAny_pyNext_ascii_end (I.ok.hd hc) st hx fun h' eb=>⟨rfl,I.turned (t':=s.toks) (fun b o hb e=>eb b o hb e) f0 f1 f3 f4 f5⟩
  ·exact wpAny_pyNext_wide_end (I.ok.hd hc) st hx fun h' eb=>⟨rfl,I.turned (t':=s.toks) (fun b o hb e=>eb b o hb e) f0 f1 f3 f4 f5⟩
 self:=fun _ _ _ _ _ st h=>by
  unfold a1O at st
  split at st
  ·exact wpAny_pyIter_striter_ascii st h
  ·exact wpAny_pyIter_striter_wide st h
def c0i(tl:TE):TI:=fun σ H R=>tl σ H fun v H1=>∃x,v=.str x/\R (Its x) H1
section
variable {tg:Expr}
theorem c2b{l:Expr}{tl:TE}(hl:PE X l tl):PI X tg l (c0i tl):=by
 intro pins s σ H R I h
 refine thn (hl pins s σ H _ I h) fun v s1 ⟨y,H1,I1,r1,x,e,q1⟩=>?_
 subst e
 obtain⟨t,rfl⟩:=r1
 refine wpAny_pyIter_strU ?_
 have k:∀b u,s1.heap.get? b=some u->(s1.heap.push { cls:=.type (a1O x),data:=.fields #[.str x t,.int 0 0] }).get? b=some u:=fun b u q=>g9 _ q
 refine⟨s1.heap.objs.size,[s1.heap.objs.size],_,Its x,H1,rfl,I1.kept (t':=s1.toks) k,b6y x t _,⟨_,t9 _ rfl,rfl,rfl⟩,fun b hb=>?_,q1⟩
 have e:b=s1.heap.objs.size:=by simpa using hb
 subst e
 exact I1.fpOk (d9 _) I1.fresh
def R1:List V->Option (List Bool)
 | []=>some []
 | .bl b::r=>(R1 r).map (b :: ·)
 | _=>none
theorem a6p:∀ {xs:List V} {bs:List Bool} {i:Nat} {x:V},R1 xs=some bs->xs[i]? = some x->∃b,bs[i]? = some b/\x=.bl b
 | [],_,_,_,_,h=>by simp at h
 | y::r,bs,i,x,e,h=>by
  cases y with
  | bl b=>
   cases e2:R1 r with
   | none=>simp[R1,e2]at e
   | some bs2=>
    simp[R1,e2]at e
    subst e
    cases i with
    | zero=>simp at h;exact⟨b,rfl,h.symm⟩
    | succ i=>
     obtain⟨b',h1,h2⟩:=a6p (i:=i) e2 (by simpa using h)
     exact⟨b',by simpa using h1,h2⟩
  | _=>simp[R1]at e
theorem a6o:∀ {xs:List V} {bs:List Bool},R1 xs=some bs->xs.length=bs.length
 | [],_,e=>by cases e;rfl
 | y::r,bs,e=>by
  cases y with
  | bl b=>
   cases e2:R1 r with
   | none=>simp[R1,e2]at e
   | some bs2=>
    simp[R1,e2]at e
    subst e
    simp[a6o e2]
  | _=>simp[R1]at e
theorem b5Q(bs:List Bool):((w4 bs.length).all fun i=>(bs[i]?).getD true)=bs.all id:=by
 rw[L7,N4,N4]
 constructor
 ·intro h b hb
  obtain⟨i,hi,rfl⟩:=List.mem_iff_getElem.mp hb
  have:=h i (by simpa using hi)
  simpa[hi]using this
 ·intro h i hi
  have hl:i<bs.length:=by simpa using hi
  have:=h bs[i] (D2 _)
  simpa[hl]using this
def b0d:List V->Hp->VK->Prop:=fun vs H Q=>match vs with
 | [.ref l]=>match H l with
  | some (.lst xs)=>∃bs,R1 xs=some bs/\Q (.bl (bs.all id)) H
  | _=>False
 | _=>False
theorem b5L(hc:X.calm=true):U3 X (.builtin "all") b0d:=fun pins s σ H xs us Q I r h=>by
 unfold b0d at h
 split at h
 ·split at h
  ·rename_i l _ ys hl
   obtain⟨bs,e,q⟩:=h
   obtain⟨u,rfl,ru⟩:=a4k r
   cases ru
   obtain⟨its,rv,pl,hz⟩:=I.list (SqL.of hl)
   have hlt:l<s.heap.objs.size:=by obtain⟨_,e,_⟩:=pl.isList;exact g8 e
   have hlen:=rv.length
   have hbl:=a6o e
   refine call_all_walk (b2B pl.isList ?_)
   refine⟨s.heap.objs.size,[s.heap.objs.size,l],[s.heap.objs.size],its.toArray.size,_,_,fun i=>(bs[i]?).getD true,rfl,Walks.list (A:=X.A.in1) (I.ok.hd hc) _ l (u5 hlt) its.toArray,
    ⟨⟨_,t9 _ rfl,rfl,rfl⟩,pl.isList.push _⟩,fun i v s' Q' E' hP hQ=>?_,fun h' tk hk=>?_⟩
   ·have hP:its[i]? = some v:=by simpa using hP
    have hi:i<ys.length:=by rw[hlen];exact(j8.mp hP).1
    have ey:ys[i]? = some ys[i]:=by simp[hi]
    obtain⟨b,eb,ez⟩:=a6p e ey
    obtain⟨u,eu,ru⟩:=rv.get ey
    rw[hP]at eu
    cases eu
    rw[ez]at ru
    cases ru
    simp only[eb,a3c]at hQ
    exact I0 hQ
   ·have e2:((w4 its.toArray.size).all fun i=>(bs[i]?).getD true)=bs.all id:=by
     rw[j4,<-hlen,hbl]
     exact b5Q bs
    rw[e2]
    exact⟨.bl _,H,I.kept (t':=tk) fun b x e=>hk b x (fun hm=>by rw[d3.mp hm]at e;exact E4 _ (g8 e)) (g9 _ e),rfl,q⟩
  ·exact h.elim
 ·exact h.elim
end
section
theorem Inv.turnedL{h':Heap}{t':Nat}(I:Inv X pins σ H s)(k:∀b o,b∉fp->s.heap.get? b=some o->h'.get? b=some o)(hf:∀b∈fp,a4c X pins H b) :
  Inv X pins σ H { s with heap:=h',toks:=t' }:=by
 have nit:∀b u,H b=some u->b∉fp:=fun b u e z=>by rw[(hf b z).1]at e;cases e
 refine I.step (g':=s.gens) (d':=s.drawn) (ch:=fp) (fun b hb=>?_) (fun b o _ _ hc e _=>k b o hc e) (fun b o _ _ hc e _=>⟨o.slots,k b o hc e⟩) (fun _ _ _ _ n=>n)
  (fun b o hc e=>⟨o,k b o hc e⟩) (fun _ _ e=>e) (fun _ _ _ e=>e) (fun b ps e=>⟨#[],by rw[e];simp⟩) (fun m hm=>?_) (fun b u e=>?_) I.bare
 ·obtain⟨_,f1,_,f3,f4,f5⟩:=hf b hb
  exact⟨f3,f1,f4,f5⟩
 ·obtain⟨o,es,ep,ho,r⟩:=hm
  exact⟨o,es,ep,k _ o (fun z=>(hf _ z).2.1 rfl) ho,r⟩
 ·refine(I.hok b u e).stay (fun c v hc q=>k c v ?_ q) (fun _ q=>q) fun _ _ q=>q
  rcases hc with z | z
  ·rw[z];exact nit b u e
  ·exact nit c _ z
theorem Inv.pairL{h':Heap}{t':Nat}{x y:V}{v:Value}(I:Inv X pins σ H s)(hf:∀b∈fp,a4c X pins H b)(fl:∀b∈fp,b≠s.heap.objs.size)
  (rx:C7 x u) (ry:C7 y v) (ht:h'.get? s.heap.objs.size=some { cls:=.type "tuple",data:=.seq #[u,v] }) (k:∀b o,b∉fp->s.heap.get? b=some o->h'.get? b=some o) :
  Inv X pins σ (upd H s.heap.objs.size (.tup [x,y])) { s with heap:=h',toks:=t' }:=by
 have I1:Inv X pins σ (upd H s.heap.objs.size (.tup [x,y])) { s with heap:=s.heap.push { cls:=.type "tuple",data:=.seq #[u,v] },toks:=s.toks }:=
  I.laid (fun b u e=>g9 _ e) (d9 _) ⟨by show 2<=j9;decide,[u,v],.cons rx (.cons ry .nil),⟨_,t9 _ rfl,rfl,_,rfl⟩⟩
 refine Inv.turnedL (s:={ s with heap:=s.heap.push { cls:=.type "tuple",data:=.seq #[u,v] },toks:=s.toks }) (fp:=fp) I1 (fun b o hb e=>?_) fun b hb=>⟨by rw[c9 (fl b hb)];exact(hf b hb).1,(hf b hb).2⟩
 by_cases hz:b=s.heap.objs.size
 ·subst hz
  have e2:=t9 s.heap (o:={ cls:=.type "tuple",data:=.seq #[u,v] }) rfl
  rw[show(s.heap.push { cls:=.type "tuple",data:=.seq #[u,v] }).get? s.heap.objs.size=some o from e]at e2
  cases e2
  exact ht
 ·refine k b o hb ?_
  have e:(s.heap.push { cls:=.type "tuple",data:=.seq #[u,v] }).get? b=some o:=e
  rwa [Heap.get?_push_ne _ _ _ hz]at e
def Ite(K:Fg)(a:Addr):It:=
 ⟨fun i H=>∃xs x,SqL K H a xs/\xs[i]? = some x,fun i H v H'=>∃p x,H p=none/\v=.ref p/\H'=upd H p (.tup [.int i,x])/\∀xs,SqL K H a xs->xs[i]? = some x,fun i H=>∃xs,SqL K H a xs/\xs.length<=i⟩
theorem b4N{P:v8}{K:Fg}{x1}(a e it:Addr)(hne:e≠it):b0O P w K (.Tuple elts x1 tp) (Ite K a) [e,it] e (fun i h=>(∃old,IsEnum h e it i old)/\h.IsListIter it a i) where
 mem:=by simp
 obj:=fun i h st b hb=>by
  obtain⟨⟨old,he⟩,o,e1,c,d⟩:=st
  rcases c8.mp hb with rfl | hb
  ·exact⟨_,he,fun v z=>by
    have z':Data.fields _=Data.cell v:=z
    cases z'⟩
  ·have:b=it:=by simpa using hb
   subst this
   exact⟨o,e1,fun v z=>by rw[d]at z;cases z⟩
 keep:=fun i h h' st k=>by
  obtain⟨⟨old,he⟩,hi⟩:=st
  exact⟨⟨old,k e (by simp) _ he⟩,hi.at fun o q=>k it (by simp) o q⟩
 item:=by
  intro X hP hw hK hc i pins s σ H E I hf st hg
  subst hP hw hK
  obtain⟨⟨old,he⟩,hit⟩:=st
  obtain⟨xs,x,hq,hx⟩:=hg
  obtain⟨its,rv,p,hz⟩:=I.list hq
  obtain⟨u,hu,ru⟩:=rv.get hx
  refine wpAny_pyNext_enum_item he hit p.isList (x:=u) (by simpa using hu) hne fun h1 ho hit1 hT hsz hk=>?_
  refine⟨_,rfl,?_⟩
  refine wpAny_letOwnedTupleGo_enum (s:={ s with heap:=h1,toks:=s.toks+1 }) ho fun h2 he2 hs2=>?_
  have hs2:Heap.SameBut e h1 h2:=hs2
  have le:e≠s.heap.objs.size:=u5 (g8 he)
  have li:it≠s.heap.objs.size:=by obtain⟨_,q,_⟩:=hit;exact u5 (g8 q)
  have fl:∀b∈[e,it],b≠s.heap.objs.size:=fun b hb=>by
   rcases c8.mp hb with rfl | hb
   ·exact le
   ·have:b=it:=by simpa using hb
    subst this;exact li
  have I2:=I.pairL (h':=h2) (t':=s.toks+1) (x:=.int i) (y:=x) (u:=.int i s.toks) (v:=u) hf fl ⟨_,rfl⟩ ru ((hs2.2 _ (Ne.symm le)).trans hT) fun b o hb q=>by
   have n1:b≠e:=fun z=>hb (by simp[z])
   have n2:b≠it:=fun z=>hb (by simp[z])
   exact(hs2.2 b n1).trans (hk b o n1 n2 q)
  refine⟨.ref s.heap.objs.size,_,I2,rfl,⟨_,x,I.fresh,rfl,rfl,fun ys hy=>by rw[I.list_inj hy hq];exact hx⟩,⟨⟨u,by simpa using he2⟩,hit1.at fun o q=>(hs2.2 it (Ne.symm hne)).trans q⟩,fun b hb=>?_⟩
  rw[c9 (fl b hb)];exact(hf b hb).1
 done:=by
  intro X hP hw hK hc i pins s σ H E I hf st hg
  subst hP hw hK
  obtain⟨⟨old,he⟩,hit⟩:=st
  obtain⟨xs,hq,hx⟩:=hg
  obtain⟨its,rv,p,hz⟩:=I.list hq
  obtain⟨f0,f1,f2,f3,f4,f5⟩:=hf it (by simp)
  have hl:=rv.length
  exact wpAny_pyNext_enum_end (I.ok.hd hc) he hit p.isList (by simp;omega) fun h' eb=>⟨rfl,I.turned (t':=s.toks) (fun b o hb e=>eb b o hb e) f0 f1 f3 f4 f5⟩
 self:=fun _ _ _ _ _ st h=>by
  obtain⟨⟨old,he⟩,_⟩:=st
  exact wpAny_pyIter_enum he h
def a6H(K:Fg)(ta:TA):TI:=fun σ H R=>ta σ H fun vs H1=>∃a,vs=[.ref a]/\(∃xs,SqL K H1 a xs)/\R (Ite K a) H1
theorem b9r{x1}{a:Expr}{ta:TA}(hg:Gl X "enumerate")(hm:X.mg "enumerate" = none)(ha:PA X [a] ta)(hs:d8 [a] X.env=[(false,eval a X.env)]:=by rfl) :
  PI X (.Tuple elts x1 tp) (.Call (.Name "enumerate" p) [a] [] pos) (a6H X.K ta):=by
 intro pins s σ H R I h
 refine Call_ (a6j I hg hm boot_enumerate (V3 (thn (ha pos pins s σ H _ I h) fun us s1 ⟨vs,H1,I1,r1,q1⟩=>?_) hs rfl))
 obtain⟨b,e,⟨xs,hq⟩,q⟩:=q1
 subst e
 cases r1 with
 | cons r rr=>
  cases rr
  cases r
  obtain⟨its,rv,pl,hz⟩:=I1.list hq
  refine call_enumerate_list pl.isList fun h' he hit hsz hk=>?_
  have I2:Inv X pins σ H1 { s1 with heap:=h' }:=I1.kept (t':=s1.toks) hk
  refine wpAny_pyIter_enum he ⟨_,[s1.heap.objs.size+1,s1.heap.objs.size],_,_,H1,rfl,I2,b4N b (s1.heap.objs.size+1) s1.heap.objs.size (Nat.succ_ne_self _),⟨⟨_,he⟩,hit⟩,fun c hc=>?_,q⟩
  rcases c8.mp hc with rfl | hc
  ·exact I1.fpOk (by omega) (I1.hok.fresh (by omega))
  ·have:c=s1.heap.objs.size:=by simpa using hc
   subst this
   exact I1.fpOk (d9 _) (I1.hok.fresh (d9 _))
def Itz(K:Fg)(a b:Addr):It:=
 ⟨fun i H=>∃xs ys x y,SqL K H a xs/\SqL K H b ys/\xs[i]? = some x/\ys[i]? = some y,fun i H v H'=>∃p x y,H p=none/\v=.ref p/\H'=upd H p (.tup [x,y])/\(∀xs,SqL K H a xs->xs[i]? = some x)/\∀ys,SqL K H b ys->ys[i]? = some y,
  fun i H=>∃xs ys,SqL K H a xs/\SqL K H b ys/\(xs.length<=i\/ys.length<=i)⟩
theorem O1{h:Heap}{a b:Addr}{o o':Obj}(h1:h.get? a=some o)(h2:h.get? b=some o')(hc:o.cls≠o'.cls):a≠b:=fun z=>by
 subst z;rw[h1]at h2;cases h2;exact hc rfl
theorem b6x{P:v8}{K:Fg}{x1}(a b z TI TO i1 i2:Addr)(n1:TI≠z)(n2:TO≠z)(n3:i1≠z)(n4:i2≠z)(n5:TI≠TO)(n6:TI≠i1)(n7:TI≠i2)(n8:TO≠i1)(n9:TO≠i2)(n10:i1≠i2) :
  b0O P w K (.Tuple elts x1 tp) (Itz K a b) [z,TI,TO,i1,i2] z (fun i h=>IsZip h z TI TO .none/\IsPair h TI (.ref i1) (.ref i2)/\(∃u v,IsPair h TO u v)/\h.IsListIter i1 a i/\h.IsListIter i2 b i) where
 mem:=by simp
 obj:=fun i h st c hb=>by
  obtain⟨hz,hTI,⟨u,v,hTO⟩,⟨o1,e1,c1,d1⟩,⟨o2,e2,c2,d2⟩⟩:=st
  simp only[c8,l6,or_false]at hb
  rcases hb with rfl | rfl | rfl | rfl | rfl
  ·exact⟨_,hz,fun v z=>by
    have z':Data.fields _=Data.cell v:=z
    cases z'⟩
  ·exact⟨_,hTI,fun v z=>by
    have z':Data.seq _ _=Data.cell v:=z
    cases z'⟩
  ·exact⟨_,hTO,fun v z=>by
    have z':Data.seq _ _=Data.cell v:=z
    cases z'⟩
  ·exact⟨o1,e1,fun v z=>by rw[d1]at z;cases z⟩
  ·exact⟨o2,e2,fun v z=>by rw[d2]at z;cases z⟩
 keep:=fun i h h' st k=>by
  obtain⟨hz,hTI,⟨u,v,hTO⟩,h1,h2⟩:=st
  exact⟨k z (by simp) _ hz,k TI (by simp) _ hTI,⟨u,v,k TO (by simp) _ hTO⟩,h1.at fun o q=>k i1 (by simp) o q,h2.at fun o q=>k i2 (by simp) o q⟩
 item:=by
  intro X hP hw hK hc i pins s σ H E I hf st hg
  subst hP hw hK
  obtain⟨hz,hTI,⟨u,v,hTO⟩,h1,h2⟩:=st
  obtain⟨xs,ys,x,y,hqa,hqb,hx,hy⟩:=hg
  obtain⟨ia,ra,pa,za⟩:=I.list hqa
  obtain⟨ib,rb,pb,zb⟩:=I.list hqb
  obtain⟨ux,hux,rux⟩:=ra.get hx
  obtain⟨uy,huy,ruy⟩:=rb.get hy
  obtain⟨oa,la,ca,_⟩:=id pa.isList
  obtain⟨ob,lb,cb,_⟩:=id pb.isList
  obtain⟨o1,e1,c1,_⟩:=id h1
  obtain⟨o2,e2,c2,_⟩:=id h2
  have D:ZipApart z TI TO i1 i2 a b:=⟨n1,n2,n3,n4,n5,n6,n7,n8,n9,n10,
   O1 la hz (by rw[ca];intro z;injection z with z;revert z;decide),O1 la hTO (by rw[ca];intro z;injection z with z;revert z;decide),O1 la e1 (by rw[ca,c1];intro z;injection z with z;revert z;decide),O1 la e2 (by rw[ca,c2];intro z;injection z with z;revert z;decide),
   O1 lb hz (by rw[cb];intro z;injection z with z;revert z;decide),O1 lb hTO (by rw[cb];intro z;injection z with z;revert z;decide),O1 lb e1 (by rw[cb,c1];intro z;injection z with z;revert z;decide),O1 lb e2 (by rw[cb,c2];intro z;injection z with z;revert z;decide)⟩
  refine wpAny_pyNext_zip_item D hz hTI hTO h1 h2 pa.isList pb.isList (x:=ux) (y:=uy) (by simpa using hux) (by simpa using huy) fun h3 a1 a2 a3 a4 a5 a6 hk=>?_
  refine⟨_,rfl,?_⟩
  refine wpAny_letOwnedTupleGo_zip (s:={ s with heap:=h3 }) a1 fun h4 hz4 hs4=>?_
  have hs4:Heap.SameBut z h3 h4:=hs4
  have lz:z≠s.heap.objs.size:=u5 (g8 hz)
  have fl:∀c∈[z,TI,TO,i1,i2],c≠s.heap.objs.size:=fun c hc=>by
   simp only[c8,l6,or_false]at hc
   rcases hc with rfl | rfl | rfl | rfl | rfl
   ·exact lz
   ·exact u5 (g8 hTI)
   ·exact u5 (g8 hTO)
   ·exact u5 (g8 e1)
   ·exact u5 (g8 e2)
  have I2:=I.pairL (h':=h4) (t':=s.toks) (x:=x) (y:=y) (u:=ux) (v:=uy) hf fl rux ruy ((hs4.2 _ (Ne.symm lz)).trans a5) fun c o hc q=>by
   have m1:c≠z:=fun z=>hc (by simp[z])
   have m3:c≠TO:=fun z=>hc (by simp[z])
   have m4:c≠i1:=fun z=>hc (by simp[z])
   have m5:c≠i2:=fun z=>hc (by simp[z])
   exact(hs4.2 c m1).trans (hk c o m1 m3 m4 m5 q)
  refine⟨.ref s.heap.objs.size,_,I2,rfl,⟨_,x,y,I.fresh,rfl,rfl,fun zs hy=>by rw[I.list_inj hy hqa];exact hx,fun zs hy'=>by rw[I.list_inj hy' hqb];exact hy⟩,
   ⟨hz4,hs4.extBut _ _ n1 (hk _ _ n1 n5 n6 n7 hTI),⟨_,_,hs4.extBut _ _ n2 a2⟩,a3.extBut hs4.extBut n3,a4.extBut hs4.extBut n4⟩,fun c hc=>?_⟩
  rw[c9 (fl c hc)];exact(hf c hc).1
 done:=by
  intro X hP hw hK hc i pins s σ H E I hf st hg
  subst hP hw hK
  obtain⟨hz,hTI,⟨u,v,hTO⟩,h1,h2⟩:=st
  obtain⟨xs,ys,hqa,hqb,hx⟩:=hg
  obtain⟨ia,ra,pa,za⟩:=I.list hqa
  obtain⟨ib,rb,pb,zb⟩:=I.list hqb
  obtain⟨oa,la,ca,_⟩:=id pa.isList
  obtain⟨ob,lb,cb,_⟩:=id pb.isList
  obtain⟨o1,e1,c1,_⟩:=id h1
  obtain⟨o2,e2,c2,_⟩:=id h2
  have D:ZipApart z TI TO i1 i2 a b:=⟨n1,n2,n3,n4,n5,n6,n7,n8,n9,n10,
   O1 la hz (by rw[ca];intro z;injection z with z;revert z;decide),O1 la hTO (by rw[ca];intro z;injection z with z;revert z;decide),O1 la e1 (by rw[ca,c1];intro z;injection z with z;revert z;decide),O1 la e2 (by rw[ca,c2];intro z;injection z with z;revert z;decide),
   O1 lb hz (by rw[cb];intro z;injection z with z;revert z;decide),O1 lb hTO (by rw[cb];intro z;injection z with z;revert z;decide),O1 lb e1 (by rw[cb,c1];intro z;injection z with z;revert z;decide),O1 lb e2 (by rw[cb,c2];intro z;injection z with z;revert z;decide)⟩
  have la':=ra.length
  have lb':=rb.length
  have hend:ia.toArray[i]? = none\/ib.toArray[i]? = none:=by
   rcases hx with hx | hx
   ·left;simp;omega
   ·right;simp;omega
  refine wpAny_pyNext_zip_end (I.ok.hd hc) D hz hTI hTO h1 h2 pa.isList pb.isList hend fun h' hk=>⟨rfl,?_⟩
  refine I.turnedL (t':=s.toks) (fp:=[z,TI,TO,i1,i2]) (fun c o hc q=>?_) hf
  exact hk c o (fun z=>hc (by simp[z])) (fun z=>hc (by simp[z])) (fun z=>hc (by simp[z])) (fun z=>hc (by simp[z])) q
 self:=fun _ _ _ _ _ st h=>wpAny_pyIter_zip st.1 h
def c0h(K:Fg)(ta:TA):TI:=fun σ H R=>ta σ H fun vs H1=>∃a b,vs=[.ref a,.ref b]/\(∃xs,SqL K H1 a xs)/\(∃xs,SqL K H1 b xs)/\R (Itz K a b) H1
theorem c2a{x1}{a b:Expr}{ta:TA}(hg:Gl X "zip")(hm:X.mg "zip" = none)(ha:PA X [a,b] ta)(hs:d8 [a,b] X.env=[(false,eval a X.env),(false,eval b X.env)]:=by rfl)(hs2:d8 [b] X.env=[(false,eval b X.env)]:=by rfl) :
  PI X (.Tuple elts x1 tp) (.Call (.Name "zip" p) [a,b] [] pos) (c0h X.K ta):=by
 intro pins s σ H R I h
 refine Call_ (a6j I hg hm boot_zip (V3 (thn (ha pos pins s σ H _ I h) fun us s1 ⟨vs,H1,I1,r1,q1⟩=>?_) (by rw[hs,hs2]) (by rw[hs2];rfl)))
 obtain⟨c,d,e,⟨xs,hq⟩,⟨ys,hq'⟩,q⟩:=q1
 subst e
 cases r1 with
 | cons r rr=>
  cases rr with
  | cons r' rr=>
   cases rr
   cases r
   cases r'
   obtain⟨ia,ra,pa,za⟩:=I1.list hq
   obtain⟨ib,rb,pb,zb⟩:=I1.list hq'
   refine call_zip_2 pa.isList pb.isList fun h' hz hTI hTO h1 h2 hsz hk=>?_
   have I2:Inv X pins σ H1 { s1 with heap:=h' }:=I1.kept (t':=s1.toks) hk
   have N:∀n:Nat,n+2≠n+4/\n+3≠n+4/\n≠n+4/\n+1≠n+4/\n+2≠n+3/\n+2≠n/\n+2≠n+1/\n+3≠n/\n+3≠n+1/\n≠n+1:=fun n=>by omega
   obtain⟨m1,m2,m3,m4,m5,m6,m7,m8,m9,m10⟩:=N s1.heap.objs.size
   refine wpAny_pyIter_zip hz ⟨_,[s1.heap.objs.size+4,s1.heap.objs.size+2,s1.heap.objs.size+3,s1.heap.objs.size,s1.heap.objs.size+1],_,_,H1,rfl,I2,
    b6x c d (s1.heap.objs.size+4) (s1.heap.objs.size+2) (s1.heap.objs.size+3) s1.heap.objs.size (s1.heap.objs.size+1) m1 m2 m3 m4 m5 m6 m7 m8 m9 m10,⟨hz,hTI,⟨_,_,hTO⟩,h1,h2⟩,fun y hy=>?_,q⟩
   have:s1.heap.objs.size<=y:=by
    simp only[c8,l6,or_false]at hy
    rcases hy with rfl | rfl | rfl | rfl | rfl
    ·exact a3M _ _
    ·exact a3M _ _
    ·exact a3M _ _
    ·exact d9 _
    ·exact a3M _ _
   exact I1.fpOk this (I1.hok.fresh this)
end
def b0r(x y:Str)(N:List Str):List Str:=N.map fun z=>if z=x then ("." : Str)++x else if z=y then ("." : Str)++y else z
def O3(X:Cx)(scope:Scope)(cl:List (Str×Addr))(C:Addr)(x y:Str)(fp:List Addr)(s3:g7)(H3:Hp):Cx:=
 { X with N:=x::y::b0r x y X.N,s₀:=s3,H₀:=H3,env:=b5W scope cl C X.env,outer:=X.stack,stack:=X.stack,ex:=fp,fn:=fun _=>false,pn:=[],xe:=fun _ _=>False }
structure a2S(N:List Str)(osc sc:Scope)(x y:Str):Prop where
 kind:sc.kind=.function
 cell:∀y∈sc.names,y.2≠.cell
 names:∀y∈sc.names,y.2=.local->sc.names.lookup y.1=some .local
 own:sc.names.lookup x=some .local
 own2:sc.names.lookup y=some .local
 fr:∀y∈sc.names,y.2=.free->osc.names.lookup y.1=some .cell\/osc.names.lookup y.1=some .free
 see:∀z∈b0r x y N,sc.names.lookup z≠some .local
 dot:sc.names.lookup (("." : Str)++x)=none
 dot2:sc.names.lookup (("." : Str)++y)=none
 nd:(x::y::b0r x y N).Nodup
def a7z(K:Fg)(wi:TI)(tt:TT)(te:TE):TE:=fun σ H Q=>wi σ H fun J H1=>∀D,H1 D=none->∃W:Nat->Nat->List V->Hp->Prop,
 (∃m,W 0 m [] (upd H1 D (.lst [])))/\∀i m ys H2,W i m ys H2->H2 D=some (.lst ys) /\
  ((J.stop i H2 /\ Q (.ref D) H2) \/ (J.go i H2 /\ ∀ x H3,J.yld i H2 x H3 -> ∃ a u v,x = .ref a /\ SqT K H3 a [u,v] /\ tt (some u :: some v :: σ) H3 fun ok H4 => if ok = true then
    te (some u::some v::σ) H4 (fun y H5=>H5 D=some (.lst ys)/\ys.length<j9/\∃m',m'<m/\W (i+1) m' (ys++[y]) (upd H5 D (.lst (ys++[y]))))
    else ∃m',m'<m/\W (i+1) m' ys H4))
section
variable {x x2:Str}{px py2 pt:Pos}{kt}
theorem b5B{s3:g7}{h4:Heap}{tk:Nat}(hc:a2S X.N X.env.scope scope x x2)(I:Inv X pins σ H s3)
  (hcl:∀y c,cl.lookup y=some c->X.env.cells.lookup y=some c) (hcl2:∀y,(y,NameKind.free)∈scope.names->(cl.lookup y).isSome=true)
  (fpo:∀b∈fp,a4c X pins H b) (fpl:∀b∈fp,b<s3.heap.objs.size)
  (hn:h4.Ns s3.heap.objs.size (fun _=>none)) (k:∀b o,s3.heap.get? b=some o->h4.get? b=some o) :
  Inv (O3 X scope cl s3.heap.objs.size x x2 fp s3 H) [] (none::none::σ) H { s3 with heap:=h4,toks:=tk }:=by
 have low:∀x y,(O3 X scope cl s3.heap.objs.size x x2 fp s3 H).env.cells.lookup y=cl.lookup y:=fun _ _=>rfl
 have below:∀y c,cl.lookup y=some c->c<s3.heap.objs.size:=fun y c e=>by
  obtain⟨v,q⟩:=I.cell y c (hcl y c e)
  exact q.lt
 have kinds:∀y,((O3 X scope cl s3.heap.objs.size x x2 fp s3 H).env.kindOf y=some .cell\/(O3 X scope cl s3.heap.objs.size x x2 fp s3 H).env.kindOf y=some .free)->scope.names.lookup y=some .free:=by
  intro y hy
  rcases hy with hy | hy
  ·rcases K9 hy with q | ⟨q,_⟩
   ·exact absurd rfl (hc.cell _ (z5 q))
   ·exact q
  ·rcases K9 hy with q | ⟨q,z⟩
   ·exact q
   ·cases z
 refine⟨⟨I.ok.mod,?_,I.ok.glob,I.ok.blt,d9 _,fun y z c h1 h2=>?_,fun y hy=>?_,fun y c h=>?_,I.ok.hd,I.ok.frames,.inl rfl,fun b hb=>⟨?_,fun y c e z=>?_⟩,fun b o e=>I.bs b o e,C2 I.ok.bsz I.sz,fun b o e hb=>?_,fun b hb hf=>?_,I.stack,I.stkFree⟩,
  rfl,I.bare,Un.kept k,⟨_,hn,fun i y v h1 h2 h3=>?_⟩,fun y c e=>?_,I.fresh,fun y c e=>?_,fun p hp=>absurd (show p∈([]:List (Addr×Obj))from hp) (by simp),I.hok.kept k,?_⟩
 ·exact hc.kind
 ·exact I.ok.inj y z c (hcl _ _ h1) (hcl _ _ h2)
 ·have:=hcl2 y (z5 (kinds y hy))
  exact T4.mp this
 ·cases h
 ·exact u5 (fpl b hb)
 ·exact(fpo b hb).2.2.2.2.1 y c (hcl y c e) z
 ·rcases(fpo b hb).2.2.2.1 with q | q
  ·exact I.ok.noex b o e q
  ·exact absurd (v6 (g8 (I.ok.bs b o e).1) q) (E4 _)
 ·rcases c8.mp (I.stkSub b hf)with e | e
  ·exact(fpo b hb).2.1 e
  ·exact(fpo b hb).2.2.1 e
 ·-- the names
  have h1:(x::x2::b0r x x2 X.N)[i]? = some y:=h1
  cases i with
  | zero=>cases h2
  | succ i=>
   cases i with
   | zero=>cases h2
   | succ i=>
   have h1:(b0r x x2 X.N)[i]? = some y:=h1
   have h2:σ[i]? = some (some v):=h2
   have my:y∈b0r x x2 X.N:=T6 h1
   have h3:(a5I scope X.env).names.lookup y=some .local\/(a5I scope X.env).names.lookup y=some .cell\/(a5I scope X.env).names.lookup y=some .free:=h3
   have hf:scope.names.lookup y=some .free:=by
    rcases h3 with q | q
    ·rcases K9 q with q | ⟨_,z⟩
     ·exact absurd q (hc.see y my)
     ·cases z
    ·exact kinds y q
   have hy:X.N[i]? = some y:=by
    unfold b0r at h1
    rw[b8]at h1
    cases e:X.N[i]? with
    | none=>rw[e]at h1;cases h1
    | some z=>
     rw[e]at h1
     by_cases ez:z=x
     ·rw[a3L,if_pos ez]at h1
      have h1:=Option.some.inj h1
      subst h1
      rw[hc.dot]at hf
      cases hf
     ·rw[a3L,if_neg ez]at h1
      by_cases ez2:z=x2
      ·rw[if_pos ez2]at h1
       have h1:=Option.some.inj h1
       subst h1
       rw[hc.dot2]at hf
       cases hf
      ·rw[if_neg ez2]at h1
       exact h1
   obtain⟨m,_,hl⟩:=I.loc
   obtain⟨c,hcc⟩:=T4.mp (hcl2 y (z5 hf))
   have vis:Vis X.env.scope y:=by
    rcases hc.fr _ (z5 hf) rfl with q | q
    ·exact .inr (.inl q)
    ·exact .inr (.inr q)
   obtain⟨u,ru,lk⟩:=hl i y v hy h2 vis
   refine⟨u,ru,.inr ⟨?_,c,hcc,?_⟩⟩
   ·rcases h3 with q | q
    ·rcases K9 q with q | ⟨_,z⟩
     ·exact absurd q (hc.see y my)
     ·cases z
    ·exact q
   ·have hce:=hcl y c hcc
    rcases lk with ⟨q,_⟩ | ⟨_,c',e',z⟩
    ·rcases hc.fr _ (z5 hf) rfl with q' | q'
     ·have q:X.env.scope.names.lookup y=some .local:=q
      rw[show X.env.scope.names.lookup y=some NameKind.cell from q']at q
      cases q
     ·have q:X.env.scope.names.lookup y=some .local:=q
      rw[show X.env.scope.names.lookup y=some NameKind.free from q']at q
      cases q
    ·rw[e']at hce
     cases hce
     obtain⟨o,ho,hd⟩:=z
     exact⟨o,k _ _ ho,hd⟩
 ·obtain⟨v,o,ho,hd⟩:=I.cell y c (hcl y c e)
  exact⟨v,o,k _ _ ho,hd⟩
 ·exact I.freeC y c (hcl y c e)
 ·show(none::none::σ).length=(x::x2::b0r x x2 X.N).length
  have:=I.len
  simp[b0r,this]
theorem b2i{H1:Hp}{s2:g7}{it:Addr}{tn:Nat->Heap->Prop}{J:It}{Q:VK}{E:Value->g7->Prop}
  {RR:Value->Addr->c3K->g7->Prop} (hc:a2S X.N X.env.scope scope x x2) (hcalm:X.calm=true)
  (hcl:∀y c,cl.lookup y=some c->X.env.cells.lookup y=some c) (hcl2:∀y,(y,NameKind.free)∈scope.names->(cl.lookup y).isSome=true)
  (ht:∀C fp s3 H3,PTs (O3 X scope cl C x x2 fp s3 H3) ifs tt) (he:∀C fp s3 H3,PE (O3 X scope cl C x x2 fp s3 H3) elt te)
  (I:Inv X pins σ H1 s2) (T:b0O X.prog X.w X.K (.Tuple [.Name x px,.Name x2 py2] kt pt) J fp it tn) (st:tn 0 s2.heap) (fpo:∀b∈fp,a4c X pins H1 b)
  (h:∀D,H1 D=none->∃W:Nat->Nat->List V->Hp->Prop,
   (∃m,W 0 m [] (upd H1 D (.lst [])))/\∀i m ys H2,W i m ys H2->H2 D=some (.lst ys) /\
   ((J.stop i H2 /\ Q (.ref D) H2) \/ (J.go i H2 /\ ∀ x H3,J.yld i H2 x H3 -> ∃ a u v,x = .ref a /\ SqT X.K H3 a [u,v] /\ tt (some u :: some v :: σ) H3 fun ok H4 => if ok = true then
     te (some u::some v::σ) H4 (fun y H5=>H5 D=some (.lst ys)/\ys.length<j9/\∃m',m'<m/\W (i+1) m' (ys++[y]) (upd H5 D (.lst (ys++[y]))))
     else ∃m',m'<m/\W (i+1) m' ys H4)))
  (hRR:∀D C s' H' m,Inv X pins σ H' s'->s'.heap.Ns C m->H' C=none->C≠X.env.locals->X.s₀.heap.objs.size<=C->(∀y c,X.env.cells.lookup y=some c->c≠C)->(∀p∈X.pn++pins,p.1≠C)->Q (.ref D) H'->RR (.ref D) C (.ok .next) s') :
  wpAny (model X.prog X.w) X.A (newList []) (fun acc s₃=>wpAny (model X.prog X.w) X.A (newFunctionEnv scope X.env.globals cl [] X.env.qual none .none (some X.env)) (fun cenv s₄=>
   a5J (model X.prog X.w) X.A (.compStart (.ListComp elt [⟨.Tuple [.Name x px,.Name x2 py2] kt pt,iter,ifs,0⟩] scope pos) 0 (.ref it) acc { cenv with scope:=a5I scope X.env }) (RR acc cenv.locals) s₄) E s₃) E s2:=by
 refine O2 (hd:=by size_fits) ?_
 have I3:=I.lnew (ys:=[]) (its:=[]) (t':=s2.toks) .nil (by show 0<=j9;exact L9 _)
 obtain⟨W,⟨m0,w0⟩,turn⟩:=h _ I.fresh
 generalize hD:s2.heap.objs.size=D at I3 w0 turn ⊢
 generalize hs3:({ s2 with heap:=s2.heap.push { cls:=.type "list",data:=.seq ([]:List Value).toArray } }:g7)=s3
 have hs3':({ s2 with heap:=s2.heap.push { cls:=.type "list",data:=.seq ([]:List Value).toArray },toks:=s2.toks }:g7)=s3:=hs3
 rw[hs3']at I3
 have keep3:∀b o,s2.heap.get? b=some o->s3.heap.get? b=some o:=fun b o e=>by rw[<-hs3];exact g9 _ e
 have fpl:∀b∈fp,b<s3.heap.objs.size:=fun b hb=>by
  obtain⟨o,e,_⟩:=T.obj _ _ st b hb
  exact g8 (keep3 b o e)
 have fpD:∀b∈fp,b≠D:=fun b hb z=>by
  obtain⟨o,e,_⟩:=T.obj _ _ st b hb
  exact absurd (g8 e) (by rw[z,hD];exact E4 _)
 have fpo3:∀b∈fp,a4c X pins (upd H1 D (.lst [])) b:=fun b hb=>⟨by rw[c9 (fpD b hb)];exact(fpo b hb).1,(fpo b hb).2⟩
 show wpAny _ _ _ _ _ s3
 refine c4P hc.cell (by intro y hy;simp at hy) (fun h₁ hns₁ hsb₁=>?_) hc.kind
 dsimp only[newEnv]at hns₁ hsb₁ ⊢
 have keep4:∀b o,s3.heap.get? b=some o->h₁.get? b=some o:=fun b o e=>hsb₁.extBut b o (u5 (g8 e)) (g9 _ e)
 have I4:=b5B (tk:=s3.toks+([]:List (Str×Value)).length) hc I3 hcl hcl2 fpo3 fpl hns₁ keep4
 have st4:tn 0 h₁:=T.keep _ _ _ st fun b hb o e=>keep4 b o (keep3 b o e)
 have loop:∀s₄:g7,s₄={ s3 with heap:=h₁,toks:=s3.toks+([]:List (Str×Value)).length } ->
   a5J (model X.prog X.w) X.A (.compLoop (.ListComp elt [⟨.Tuple [.Name x px,.Name x2 py2] kt pt,iter,ifs,0⟩] scope pos) 0 (.ref it) (.ref D) (b5W scope cl s3.heap.objs.size X.env)) (RR (.ref D) s3.heap.objs.size) s₄:=by
  rintro s₄ rfl
  have stat:∀ {H':Hp},(∀b∈fp,H' b=none)->∀b∈fp,a4c (O3 X scope cl s3.heap.objs.size x x2 fp s3 (upd H1 D (.lst []))) [] H' b:=fun hn b hb=>
   ⟨hn b hb,u5 (fpl b hb),fun hf=>by
    rcases c8.mp (I3.stkSub b hf)with e | e
    ·exact(fpo b hb).2.1 e
    ·exact(fpo b hb).2.2.1 e,.inl hb,fun y c e=>(fpo b hb).2.2.2.2.1 y c (hcl y c e),fun p hp=>absurd (show p∈([]:List (Addr×Obj))from hp) (by simp)⟩
  refine a9z (env:=b5W scope cl s3.heap.objs.size X.env) (fun n s'=>∃i ys H',Inv (O3 X scope cl s3.heap.objs.size x x2 fp s3 (upd H1 D (.lst []))) [] (none::none::σ) H' s'/\tn i s'.heap/\(∀b∈fp,H' b=none)/\W i n ys H') ?_ m0
   ⟨0,[],_,I4,st4,fun b hb=>(fpo3 b hb).1,w0⟩
  rintro n s5 ⟨i,ys,H5,I5,st5,fr5,w5⟩
  obtain⟨hDy,alt⟩:=turn i n ys H5 w5
  rcases alt with ⟨stop,q⟩ | ⟨go,step⟩
  ·refine U8 (T.done (O3 X scope cl s3.heap.objs.size x x2 fp s3 (upd H1 D (.lst []))) rfl rfl rfl hcalm i [] s5 _ H5 (fun _ _=>False) I5 (stat fr5) st5 stop) (fun r s6 ⟨hr,I6⟩=>?_) fun _ _ f=>f
   subst hr
   obtain⟨m6,n6,_⟩:=I6.loc
   have J6:Inv X pins σ H5 s6:=by
    refine I3.call' (ch:=fp) I6.os I6.base I6.hok I6.bare fun b hb=>?_
    obtain⟨_,f1,f2,f3,f4,f5⟩:=fpo3 b hb
    exact⟨f3,f1,f4,f5⟩
   refine hRR D _ s6 H5 m6 J6 n6 I6.free (b5R I3.lt) I3.sz (fun y c e z=>?_) (fun p hp z=>?_) q
   ·obtain⟨v,q⟩:=I3.cell y c e
    exact absurd q.lt (by rw[z];exact E4 _)
   ·exact absurd (g8 (I3.pin p hp).1) (by rw[z];exact E4 _)
  ·refine U8 (T.item (O3 X scope cl s3.heap.objs.size x x2 fp s3 (upd H1 D (.lst []))) rfl rfl rfl hcalm i [] s5 _ H5 (fun _ _=>False) I5 (stat fr5) st5 go) (fun r s6 ⟨u,hr,h6⟩=>?_) fun _ _ f=>f
   subst hr
   refine thn h6 fun _ s6 ⟨xv,H6,I6,r6,y6,st6,fr6⟩=>?_
   have I6':=I6.pinned (stat fr6) (T.obj _ _ st6)
   obtain⟨pa,u1,u2,rfl,hsq,step⟩:=step xv H6 y6
   have hpg:PG (O3 X scope cl s3.heap.objs.size x x2 fp s3 (upd H1 D (.lst []))) (.Tuple [.Name x px,.Name x2 py2] kt pt) (b0s X.K 2 (a0V (o0 0) (a0V (o0 1) b0u))):=
    b7m (X:=O3 X scope cl s3.heap.objs.size x x2 fp s3 (upd H1 D (.lst []))) hcalm (a7Q (b0f (i:=0) hc.nd rfl (.inl (a0r hc.own)) (.inr (a0r hc.own))) (a7Q (b0f (i:=1) hc.nd rfl (.inl (a0r hc.own2)) (.inr (a0r hc.own2))) b4f))
   refine thn (hpg _ s6 (none::none::σ) H6 (.ref pa) u (fun σ' H'=>σ'=some u1::some u2::σ/\H'=H6) I6' r6 ⟨pa,[u1,u2],rfl,hsq,rfl,_,_,rfl,_,_,rfl,rfl,rfl,rfl⟩) fun _ s7 ⟨σ7,H7,I7,e7,e7'⟩=>?_
   subst e7 e7'
   have again:∀ {s8:g7} {H8:Hp} {ys8:List V},Inv (O3 X scope cl s3.heap.objs.size x x2 fp s3 (upd H1 D (.lst []))) ([]++a4C fp s6.heap) (some u1::some u2::σ) H8 s8->(∃m',m'<n/\W (i+1) m' ys8 H8) ->
     ∃m,m<n/\∃i ys H',Inv (O3 X scope cl s3.heap.objs.size x x2 fp s3 (upd H1 D (.lst []))) [] (none::none::σ) H' s8/\tn i s8.heap/\(∀b∈fp,H' b=none)/\W i m ys H':=by
    rintro s8 H8 ys8 I8 ⟨m',hm,w8⟩
    refine⟨m',hm,i+1,ys8,H8,(I8.unpinned (pins:=[])).weak rfl (fun j v e=>?_),T.keep _ _ _ st6 fun b hb o e=>(I8.pin (b,o) (t6 _ (t6 _ (a0u hb e)))).1,fun b hb=>?_,w8⟩
    ·cases j with
     | zero=>cases e
     | succ j=>
      cases j with
      | zero=>cases e
      | succ j=>exact e
    ·obtain⟨o,e,d⟩:=T.obj _ _ st6 b hb
     exact(I8.pin (b,o) (t6 _ (t6 _ (a0u hb e)))).2.1
   refine thn (ht _ fp s3 _ _ s7 _ _ _ I7 step) (fun ok s8 ⟨H8,I8,q8⟩=>?_)
   cases ok with
   | false=>exact again I8 (by simpa using q8)
   | true=>
    rw[if_pos rfl]at q8
    rw[if_pos rfl]
    refine thn (he _ fp s3 _ _ s8 _ H8 _ I8 q8) (fun v s9 ⟨y,H9,I9,r9,hD9,hz9,w9⟩=>?_)
    refine U8 (a6i (X:=O3 X scope cl s3.heap.objs.size x x2 fp s3 (upd H1 D (.lst []))) _ s9 _ H9 (.ref D) [y] (.ref D) [v] (fun _ H'=>H'=upd H9 D (.lst (ys++[y]))) I9 rfl (.cons r9 .nil) ⟨D,ys,y,rfl,rfl,hD9,hz9,rfl⟩) (fun _ s10 ⟨_,H10,I10,_,e10⟩=>?_) fun _ _ f=>f
    subst e10
    exact again I10 w9
 exact c3B (loop _ rfl) (T.self X.A 0 _ _ _ st4 (loop _ rfl))
theorem b2h(hc:a2S X.N X.env.scope scope x x2)(I:Inv X pins σ H s):∀y∈scope.names,y.2=.free->∃c,X.env.cells.lookup y.1=some c:=by
 intro y hy e
 rcases hc.fr y hy e with q | q
 ·exact I.ok.has y.1 (.inl q)
 ·exact I.ok.has y.1 (.inr q)
theorem b7s{wi:TI}(hc:a2S X.N X.env.scope scope x x2)(hcalm:X.calm=true)(hi:PI X (.Tuple [.Name x px,.Name x2 py2] kt pt) iter wi)
  (ht:∀cl C fp s3 H3,PTs (O3 X scope cl C x x2 fp s3 H3) ifs tt) (he:∀cl C fp s3 H3,PE (O3 X scope cl C x x2 fp s3 H3) elt te)
  (hs:∀x,L1 iter X.env x=pure x:=by intro _;rfl) :
  PE X (.ListComp elt [⟨.Tuple [.Name x px,.Name x2 py2] kt pt,iter,ifs,0⟩] scope pos) (a7z X.K wi tt te):=by
 intro pins s σ H Q I h
 obtain⟨cl,hclos,hcl,hcl2⟩:=a4N (b2h hc I)
 rw[eval_ListComp]
 refine a4S (use:=none) rfl hs hclos hc.kind hc.names (thn (hi pins s σ H _ I h) fun v s1 h1=>thn h1 fun itv s2 ⟨it,fp,tn,J,H2,e,I2,T,st,fpo,R⟩=>?_)
 subst e
 refine b2i (RR:=fun acc C=>compPost (model X.prog X.w) X.A X.xe none (EP X pins σ Q) acc C) (Q:=Q) hc hcalm hcl hcl2 (ht cl) (he cl) I2 T st fpo R ?_
 intro D C s' H' m I' n f1 f2 f3 f4 f5 q
 exact⟨m,n,fun h' sb=>⟨.ref D,H',I'.turned (t':=s'.toks) (fun b o hb e=>(sb.2 b hb).trans e) f1 f2 (.inr f3) f4 f5,rfl,q⟩⟩
end
section
variable {x x2:Str}{px py2 pt:Pos}{kt:Nat}
end
section
def b7b:List V->Hp->VK->Prop:=fun xs H Q=>match xs with
 | [.int i,.int j]=>Q (.int (if j<i then j else i)) H
 | _=>False
theorem b5H(hc:X.calm=true):U3 X (.builtin "min") b7b:=(b5N hc).imp fun xs H Q h=>by
 unfold b7b at h
 split at h
 ·exact⟨_,_,rfl,h⟩
 ·exact h.elim
theorem b5P:∀bs:List Bool,((w4 bs.length).any fun i=>(bs[i]?).getD false)=bs.any id:=by
 intro bs
 induction bs with
 | nil=>rfl
 | cons b r ih=>
  rw[v7,List.range_succ_eq_map,P8,List.any_map,P8]
  rw[<-ih]
  rfl
def b3h:List V->Hp->VK->Prop:=fun vs H Q=>match vs with
 | [.ref l]=>match H l with
  | some (.lst xs)=>∃bs,R1 xs=some bs/\Q (.bl (bs.any id)) H
  | _=>False
 | _=>False
theorem b5K(hc:X.calm=true):U3 X (.builtin "any") b3h:=fun pins s σ H xs us Q I r h=>by
 unfold b3h at h
 split at h
 ·split at h
  ·rename_i l _ ys hl
   obtain⟨bs,e,q⟩:=h
   obtain⟨u,rfl,ru⟩:=a4k r
   cases ru
   obtain⟨its,rv,pl,hz⟩:=I.list (SqL.of hl)
   have hlt:l<s.heap.objs.size:=by obtain⟨_,e,_⟩:=pl.isList;exact g8 e
   have hlen:=rv.length
   have hbl:=a6o e
   refine call_any_walk (b2B pl.isList ?_)
   refine⟨s.heap.objs.size,[s.heap.objs.size,l],[s.heap.objs.size],its.toArray.size,_,_,fun i=>(bs[i]?).getD false,rfl,Walks.list (A:=X.A.in1) (I.ok.hd hc) _ l (u5 hlt) its.toArray,
    ⟨⟨_,t9 _ rfl,rfl,rfl⟩,pl.isList.push _⟩,fun i v s' Q' E' hP hQ=>?_,fun h' tk hk=>?_⟩
   ·have hP:its[i]? = some v:=by simpa using hP
    have hi:i<ys.length:=by rw[hlen];exact(j8.mp hP).1
    have ey:ys[i]? = some ys[i]:=by simp[hi]
    obtain⟨b,eb,ez⟩:=a6p e ey
    obtain⟨u,eu,ru⟩:=rv.get ey
    rw[hP]at eu
    cases eu
    rw[ez]at ru
    cases ru
    simp only[eb,a3c]at hQ
    exact I0 hQ
   ·have e2:((w4 its.toArray.size).any fun i=>(bs[i]?).getD false)=bs.any id:=by
     rw[j4,<-hlen,hbl]
     exact b5P bs
    rw[e2]
    exact⟨.bl _,H,I.kept (t':=tk) fun b x e=>hk b x (fun hm=>by rw[d3.mp hm]at e;exact E4 _ (g8 e)) (g9 _ e),rfl,q⟩
  ·exact h.elim
 ·exact h.elim
def a0Q:List V->Option (List Int)
 | []=>some []
 | .int i::r=>(a0Q r).map (i :: ·)
 | _=>none
theorem a8e(ns:List Int):a0Q (ns.map V.int)=some ns:=by
 induction ns with
 | nil=>rfl
 | cons s r ih=>simp[a0Q,ih]
theorem a3G:∀ {xs:List V} {us:List Value} {ss:List Int},E2 xs us->a0Q xs=some ss->c1k us ss
 | _,_,ss,.nil,e=>by cases e;exact .nil
 | x::xs,_,ss,.cons r t,e=>by
  cases x with
  | int s=>
   obtain⟨k,rfl⟩:=r
   cases e2:a0Q xs with
   | none=>simp[a0Q,e2]at e
   | some ss2=>
    simp[a0Q,e2]at e
    subst e
    exact .cons _ _ (a3G t e2)
  | _=>simp[a0Q]at e
def a3V:List V->Hp->VK->Prop:=fun vs H Q=>match vs with
 | [.ref l]=>match H l with
  | some (.lst xs)=>∃ns,a0Q xs=some ns/\ns.length<64/\∀(p:Addr) (ms:List Int),ms.Perm ns->ms.Pairwise (· <= ·)->H p=none->Q (.ref p) (upd H p (.lst (ms.map V.int)))
  | _=>False
 | _=>False
theorem b0B:U3 X (.builtin "sorted") a3V:=fun pins s σ H xs us Q I r h=>by
 unfold a3V at h
 split at h
 ·split at h
  ·rename_i l _ ys hl
   obtain⟨ns,e,hn,q⟩:=h
   obtain⟨u,rfl,ru⟩:=a4k r
   cases ru
   obtain⟨its,rv,pl,hz⟩:=I.list (SqL.of hl)
   have hi:=a3G rv e
   have hil:=hi.length
   refine sorted_ints pl.isList hi (by omega) fun out ns' a1 a2 a3=>?_
   obtain⟨c,he⟩:=sortedAll_at s.heap its out
   have hl':=a2.length_eq
   refine⟨.ref _,_,I.laid (t':=s.toks) (a:=s.heap.objs.size+1) (o:=.lst (ns'.map V.int)) (fun b ob q=>sortedAll_old q) (a5C _) ?_,rfl,q _ ns' a2 a3 (I.hok.fresh (a5C _))⟩
   refine⟨by rw[a8,sizeLine_eq];omega,out.toList,c,a5M a1,?_⟩
   exact he
  ·exact h.elim
 ·exact h.elim
def a6a:V->List V->Hp->VK->Prop:=fun x vs H Q=>match x,vs with
 | .ref l,[.int k]=>match H l with
  | some (.lst xs)=>∃ns,a0Q xs=some ns/\ns.length<10000/\k∈ns/\Q (.int (ns.idxOf k:Nat)) H
  | _=>False
 | _,_=>False
theorem b5l:MtR X "list.index" a6a:=fun pins s σ H x xs v us Q I rx rv h=>by
 unfold a6a at h
 split at h
 ·split at h
  ·rename_i l k _ ys hl
   obtain⟨ns,e,hn,hk,q⟩:=h
   cases rx
   obtain⟨u,rfl,⟨t,rfl⟩⟩:=rv.one
   obtain⟨its,r,pl,hz⟩:=I.list (SqL.of hl)
   have hi:=a3G r e
   obtain⟨⟨cls,dd,data,sl⟩,ho,hc,n,hd⟩:=id pl.isList
   simp only at hc hd
   subst hc hd
   have hlen:=hi.length
   have hj:ns.idxOf k<ns.length:=b2z.mpr hk
   refine c0G b0Z ⟨_,ho,rfl⟩ PySem.F.entry_list_index (PySem.F.args_list_index_2 _ _)
    (PySem.SeqAt.list_indexAt l its.toArray n dd sl (.int k t) (isInt k) (ns.idxOf k) (by simpa[hlen]using hj) (by omega) ?_ ?_) ⟨ho,fun y hy=>(eq_isInt k t hi y (by simpa using hy)).at _ _,⟨.int _,H,I.tok _,⟨_,rfl⟩,q⟩⟩
   ·show isInt k its[ns.idxOf k]=true
    rw[isInt_at k hi _ (by omega) hj]
    simpa using List.getElem_idxOf hj
   ·intro j hjs hlt
    show isInt k its[j]=false
    rw[isInt_at k hi j (by simpa using hjs) (by omega)]
    exact ne_of_lt_idxOf hlt _
  ·exact h.elim
 ·exact h.elim
def a2E:V->List V->Hp->VK->Prop:=fun x vs H Q=>match x,vs with
 | .ref l,[.ref b]=>match H l,H b with
  | some (.lst xs),some (.lst zs)=>xs.length+zs.length<=j9/\Q .non (upd H l (.lst (xs++zs)))
  | _,_=>False
 | _,_=>False
theorem b3x:MtR X "list.extend" a2E:=fun pins s σ H x xs v us Q I rx rv h=>by
 refine b5m pins s σ H x xs v us Q I rx rv ?_
 unfold a2E at h
 split at h
 ·split at h
  ·exact⟨_,_,_,_,rfl,rfl,by assumption,by assumption,h.1,h.2⟩
  ·exact h.elim
 ·exact h.elim
def b4X:V->List V->Hp->VK->Prop:=fun x vs H Q=>match x,vs with
 | .ref l,[]=>match H l with
  | some (.lst xs)=>∃y,xs[xs.length - 1]? = some y/\Q y (upd H l (.lst xs.dropLast))
  | _=>False
 | _,_=>False
theorem b9X:MtR X "list.pop" b4X:=fun pins s σ H x xs v us Q I rx rv h=>by
 refine c2M pins s σ H x xs v us Q I rx rv ?_
 unfold b4X at h
 split at h
 ·split at h
  ·obtain⟨y,e,q⟩:=h
   exact⟨_,_,y,rfl,rfl,by assumption,e,q⟩
  ·exact h.elim
 ·exact h.elim
def a3x:List V->Hp->VK->Prop:=fun xs H Q=>match xs with
 | [.ref p]=>match H p with
  | some (.dK kvs)=>∀l,H l=none->Q (.ref l) (upd H l (.lst (kvs.map fun kv=>kV kv.1)))
  | _=>False
 | _=>False
theorem c1a{P:v8}{k:Key}(r:(M0 P w).is k u=true):C7 (kV k) u:=by
 rcases O5 (show a8c k u=true from r)with ⟨i,t,rfl,rfl⟩ | ⟨x,t,rfl,rfl⟩
 ·exact⟨t,rfl⟩
 ·exact⟨t,rfl⟩
theorem a9L:∀ {xs:List V} {us:List Value},xs.length=us.length->(∀(i:Nat) x u,xs[i]? = some x->us[i]? = some u->C7 x u)->E2 xs us
 | [],[],_,_=>.nil
 | x::xs,u::us,hl,h=>.cons (h 0 x u rfl rfl) (a9L (by simpa using hl) fun i y v a b=>h (i+1) y v (by simpa using a) (by simpa using b))
 | [],u::us,hl,_=>by cases hl
 | x::xs,[],hl,_=>by cases hl
theorem b7M:∀ {l:List (Key×V)} {la:List (Key×Value)} {i:Nat} {k:Key} {x:Value},KV l la->la[i]? = some (k,x)->∃y,l[i]? = some (k,y)
 | p::l,q::la,0,k,x,h,e=>by
  have h:Paired _ _ _:=h
  cases h with
  | cons h t=>
   cases e
   exact⟨p.2,by rw[a3i];rw[show k=p.1 from h.1.symm]⟩
 | p::l,q::la,i+1,k,x,h,e=>by
  have h:Paired _ _ _:=h
  cases h with
  | cons h t => 
   obtain⟨y,hy⟩:=b7M (i:=i) (show KV l la from t) (by simpa using e)
   exact⟨y,by simpa using hy⟩
 | [],la,i,k,x,h,e=>by
  have h:Paired _ _ _:=h
  cases h
  cases e
 | p::l,[],i,k,x,h,e=>by
  have h:Paired _ _ _:=h
  cases h
theorem b2r(hc:X.calm=true):U3 X (.type "list") a3x:=fun pins s σ H xs us Q I r h=>by
 unfold a3x at h
 split at h
 ·split at h
  ·rename_i p _ kvs hp
   obtain⟨u,rfl,ru⟩:=a4k r
   cases ru
   obtain⟨hz,hS,vs,rk,hD⟩:=a8i I.hok hp
   obtain⟨ep,hat⟩:=hD.dictAt
   have hl:=Paired.length rk
   refine b8q (PySem.W.kdl_dict (knd:=M0 X.prog X.w) (kvs:=vs) (ep:=ep) hS) (I.ok.hd hc) hat (by omega) fun h' tk acc c hk ha hit=>?_
   refine⟨.ref _,_,I.laid (t':=tk) (a:=s.heap.objs.size) (o:=.lst (kvs.map fun kv=>kV kv.1)) hk (d9 _) ?_,rfl,h _ (I.hok.fresh (d9 _))⟩
   refine⟨by rw[a8];exact hz,acc.toList,c,?_,by simpa using ha⟩
   refine a9L (by have:=hit.1;rw[a8];simp;omega) fun i x u a b=>?_
   obtain⟨k,y,e1,e2⟩:=hit.2 i u (by rw[<-M4];exact b)
   obtain⟨z,e3⟩:=b7M rk e1
   rw[b8,e3]at a
   cases a
   exact c1a e2
  ·exact h.elim
 ·exact h.elim
inductive Dq(K:Fg)(H:Hp):Nat->V->V->Prop
 | flat {n:Nat} {x:V}:F2 x=true->Dq K H n x x
 | tup {n:Nat} {a b:Addr} {xs ys:List V}:SqT K H a xs->SqT K H b ys->xs.length=ys.length->(∀(j:Nat) x y,xs[j]? = some x->ys[j]? = some y->Dq K H n x y)->Dq K H (n+1) (.ref a) (.ref b)
 | lst {n:Nat} {a b:Addr} {xs ys:List V}:SqL K H a xs->SqL K H b ys->xs.length=ys.length->(∀(j:Nat) x y,xs[j]? = some x->ys[j]? = some y->Dq K H n x y)->Dq K H (n+1) (.ref a) (.ref b)
theorem b2c{x:V}(h:F2 x=true):eqV x x=true:=by
 cases x with
 | non=>rfl
 | bl b=>simp[eqV]
 | int i=>simp[eqV]
 | str s=>simp[eqV]
 | byt b=>cases h
 | flt b=>cases h
 | ref a=>cases h
 | ty n=>cases h
theorem a5z{n:Nat}:(w4 n).all (fun _=>true)=true:=by simp
theorem Dq.both(I:Inv X pins σ H s){n:Nat}{x y:V}(d:Dq X.K H n x y):∀ {A:G8} {v u:Value},A.units+n<cLine->C7 x v->C7 y u ->
  SeqAt.EqAt A s v u true/\(∀a b,x=.ref a->y=.ref b->SeqAt.RcAt A s v u true/\SeqAt.RcNeAt A s v u false):=by
 induction d with
 | @flat n x hf=>
  intro A v u hu rv ru
  refine⟨?_,fun a b e=>by subst e;cases hf⟩
  have:=a8f (A:=A) (s:=s) rv ru hf hf
  rwa [b2c hf]at this
 | @tup n a b xs ys ha hb hl hq ih=>
  intro A v u hu rv ru
  cases rv
  cases ru
  obtain⟨us,r1,t1,_⟩:=I.tuple ha
  obtain⟨ws,r2,t2,_⟩:=I.tuple hb
  have l1:=r1.length
  have l2:=r2.length
  have el:∀j (h1:j<us.toArray.size) (h2:j<ws.toArray.size),SeqAt.EqAt A.in1 s us.toArray[j] ws.toArray[j] true:=by
   intro j h1 h2
   have h1':j<xs.length:=by simpa[l1]using h1
   have h2':j<ys.length:=by simpa[l2]using h2
   obtain⟨u1,e1,q1⟩:=r1.get (i:=j) (x:=xs[j]) (by simp)
   obtain⟨u2,e2,q2⟩:=r2.get (i:=j) (x:=ys[j]) (by simp)
   have z1:us.toArray[j]=u1:=by
    have:=(j8.mp e1).2
    simpa using this
   have z2:ws.toArray[j]=u2:=by
    have:=(j8.mp e2).2
    simpa using this
   rw[z1,z2]
   exact(ih j _ _ (by simp) (by simp) (A:=A.in1) (by show A.units+1+n<cLine;omega) q1 q2).1
  have c1:SeqAt.RcAt A s (.ref a) (.ref b) true:=by
   have q:=SeqAt.RcAt.tuples (A:=A) (e:=fun _=>true) t1 t2 (by omega) el
   have e:us.toArray.size=ws.toArray.size:=by simp[<-l1,<-l2,hl]
   rw[a5z,e,beq_self_eq_true]at q
   exact q
  have c2:SeqAt.RcNeAt A s (.ref a) (.ref b) false:=by
   have q:=SeqAt.RcNeAt.tuples (A:=A) (e:=fun _=>true) t1 t2 (by omega) el
   have e:us.toArray.size=ws.toArray.size:=by simp[<-l1,<-l2,hl]
   rw[a5z,e,beq_self_eq_true]at q
   exact q
  refine⟨?_,fun _ _ _ _=>⟨c1,c2⟩⟩
  by_cases e:a=b
  ·subst e;exact SeqAt.EqAt.same _
  ·exact SeqAt.EqAt.of_refs e c1
 | @lst n a b xs ys ha hb hl hq ih=>
  intro A v u hu rv ru
  cases rv
  cases ru
  obtain⟨us,r1,t1,_⟩:=I.list ha
  obtain⟨ws,r2,t2,_⟩:=I.list hb
  have l1:=r1.length
  have l2:=r2.length
  have el:∀j (h1:j<us.toArray.size) (h2:j<ws.toArray.size),SeqAt.EqAt A.in1 s us.toArray[j] ws.toArray[j] true:=by
   intro j h1 h2
   have h1':j<xs.length:=by simpa[l1]using h1
   have h2':j<ys.length:=by simpa[l2]using h2
   obtain⟨u1,e1,q1⟩:=r1.get (i:=j) (x:=xs[j]) (by simp)
   obtain⟨u2,e2,q2⟩:=r2.get (i:=j) (x:=ys[j]) (by simp)
   have z1:us.toArray[j]=u1:=by
    have:=(j8.mp e1).2
    simpa using this
   have z2:ws.toArray[j]=u2:=by
    have:=(j8.mp e2).2
    simpa using this
   rw[z1,z2]
   exact(ih j _ _ (by simp) (by simp) (A:=A.in1) (by show A.units+1+n<cLine;omega) q1 q2).1
  have e:us.toArray.size=ws.toArray.size:=by simp[<-l1,<-l2,hl]
  have c1:SeqAt.RcAt A s (.ref a) (.ref b) true:=by
   have q:=SeqAt.RcAt.lists (A:=A) (e:=fun _=>true) t1.isList t2.isList e (by omega) el
   rw[a5z]at q
   exact q
  have c2:SeqAt.RcNeAt A s (.ref a) (.ref b) false:=by
   have q:=SeqAt.RcNeAt.lists (A:=A) (e:=fun _=>true) t1.isList t2.isList e (by omega) el
   rw[a5z]at q
   exact q
  refine⟨?_,fun _ _ _ _=>⟨c1,c2⟩⟩
  by_cases e:a=b
  ·subst e;exact SeqAt.EqAt.same _
  ·exact SeqAt.EqAt.of_refs e c1
def b8Y(K:Fg):R2:=fun x y H Q=>∃a b n,x=.ref a/\y=.ref b/\n<=20/\Dq K H n x y/\Q (.bl true) H
theorem b9I{k:Nat}(hr:N8 k X.A):OpR X (o6 .Eq) (b8Y X.K):=by
 intro pins s σ H x y v u Q I rx ry ⟨a,b,n,e1,e2,hn,d,q⟩
 have hu:=hr.units
 exact((d.both I (A:=X.A) (by omega) rx ry).2 a b e1 e2).1 _ _ _ _ ⟨.bl true,H,I,rfl,q⟩
def c1Q(K:Fg):R2:=fun x y H Q=>∃a b xs ys,x=.ref a/\y=.ref b/\SqT K H a xs/\SqT K H b ys/\xs.all F2=true/\ys.all F2=true/\Q (.bl (a0v xs ys)) H
theorem b9K{k:Nat}(hr:N8 k X.A):OpR X (o6 .Eq) (c1Q X.K):=by
 intro pins s σ H x y v u Q I rx ry ⟨a,b,xs,ys,e1,e2,ha,hb,fx,fy,q⟩
 have hu:=hr.units
 subst e1 e2
 cases rx
 cases ry
 obtain⟨us,r1,t1,_⟩:=I.tuple ha
 obtain⟨ws,r2,t2,_⟩:=I.tuple hb
 have l1:=r1.length
 have l2:=r2.length
 have q1:=SeqAt.RcAt.tuples (A:=X.A) t1 t2 (by omega) (a5r r1 r2 fx fy)
 simp only[j4,<-l1,<-l2]at q1
 exact q1 _ _ _ _ ⟨.bl (a0v xs ys),H,I,rfl,q⟩
def c1O(K:Fg):R2:=fun x y H Q=>∃p xs,y=.ref p/\SqT K H p xs/\F2 x=true/\xs.all F2=true/\Q (.bl (inV x xs)) H
theorem b9H:OpR X (o6 .In) (c1O X.K):=a9q.imp fun x y H Q ⟨p,xs,e,h1,h2,h3,q⟩=>⟨p,xs,e,.inr h1,h2,h3,q⟩
theorem b7h{e c:Option Expr}:PS X (.Raise e c pos) (fun _ _ _=>False):=fun _ _ _ _ _ _ h=>h.elim
structure b2v(P:v8)(w:World)(K:Fg)(mg:Str->Option Value)(base:Heap)(k:Nat)(x:Str)(C:Addr)(ps:List Str)(sp:Sp):Prop where
 ex:∃f fd,J9 P w K mg base CX0 k f fd ps sp/\mg x=some (.ref C)/\Mk K C f/\a3b K fd ps []
theorem c4r{k j:Nat}{x:Str}{C:Addr}{e:Expr}{es:List Expr}{t:TA}{p:Pos}(M:b2v X.prog X.w X.K X.mg X.base k x C ps sp)(hr:N8 j X.A)(hk:k+1<=j)(hg:Gl X x)(ha:PA X (e::es) t)
  (hdb:(x == ("__debug__" : Str))=false:=by decide) (he:d8 (e::es) X.env=(false,eval e X.env)::d8 es X.env:=by rfl) (hpl:(V0 pos (d8 es X.env)).any (·.1)=false:=by rfl) :
  PE X (.Call (.Name x p) (e::es) [] pos) (a9m C sp [] E0 t):=by
 obtain⟨f,fd,F,hm,hM,hb⟩:=M.ex
 exact b9t hM F (hr.mono hk) hg hm hb .nil b7w ha hdb he hpl
structure a7e(P:v8)(w:World)(K:Fg)(mg:Str->Option Value)(base:Heap)(k:Nat)(m:Str)(C:Addr)(ps:List Str)(sp:Sp):Prop where
 ex:∃f fd,J9 P w K mg base CX0 k f fd ps sp/\Cls K C/\c3o K C m f/\a3b K fd ps []
theorem c2k{pl:Sem Bool}{k j:Nat}{m:Str}{C:Addr}{o e:Expr}{es:List Expr}{ta:TE}{t:TA}{apos:Pos}(M:a7e X.prog X.w X.K X.mg X.base k m C ps sp)(hr:N8 j X.A)(hk:k<=j)(ho:PE X o ta)(ha:PA X (e::es) t)
  (hst:d8 (e::es) X.env=(false,eval e X.env)::d8 es X.env:=by rfl) (hpl:(V0 pos (d8 es X.env)).any (·.1)=false:=by rfl)
  (ht:eval (.Call (.Attribute o m apos) (e::es) [] pos) X.env=(do
   let ov <-eval o X.env
   b6e apos.atName
   let(f,first) <-a3l [ov] (b6f ov m pl)
   callWith pos f first (V0 pos (d8 (e::es) X.env)) (a8w pos (a1P [] X.env))):=by rfl) :
  PE X (.Call (.Attribute o m apos) (e::es) [] pos) (b1v C m sp [] E0 ta t):=by
 obtain⟨f,fd,F,c,hm,hb⟩:=M.ex
 exact b9s (pl:=pl) ho c hm F (hr.mono hk) hb .nil b7w ha hst hpl ht
end
theorem a5h{env:Env}:∀ {names:List (Str×a4i)} {y:Str},names.lookup y=some .free ->
  (names.map fun(n,k)=>if(k == NameKind.free&&env.scope.kind == .function&&env.kindOf n == some .cell)then (n,NameKind.cell)else (n,k)).lookup y=some .cell \/
  (names.map fun(n,k)=>if(k == NameKind.free&&env.scope.kind == .function&&env.kindOf n == some .cell)then (n,NameKind.cell)else (n,k)).lookup y=some .free
 | [],_,h=>by cases h
 | (n,k0)::r,y,h=>by
  have ih := @a5h env r y
  rw[E1]at h
  rw[F7]
  dsimp only
  cases hx:y == n with
  | true=>
   rw[hx]at h
   cases h
   by_cases hc:(NameKind.free == NameKind.free&&env.scope.kind == .function&&env.kindOf n == some .cell)=true
   ·rw[if_pos hc,E1,hx];exact .inl rfl
   ·rw[if_neg hc,E1,hx];exact .inr rfl
  | false=>
   rw[hx]at h
   by_cases hc:(k0 == NameKind.free&&env.scope.kind == .function&&env.kindOf n == some .cell)=true
   ·rw[if_pos hc,E1,hx];exact ih h
   ·rw[if_neg hc,E1,hx];exact ih h
theorem b4k{sc1 sc:Scope}(h:∀y∈sc.names,y.2=.free->sc1.names.lookup y.1=some .free):∀y∈sc.names,y.2=.free->(a5I sc1 env).names.lookup y.1=some .cell\/(a5I sc1 env).names.lookup y.1=some .free:=
 fun y hy e=>a5h (h y hy e)
end L2
namespace PySem
open Sem (wp)
namespace F
end F
section
variable {prog:v8}{w:World}{A:G8}{E:Value->g7->Prop}{h:Heap}{g:Array GenState}{d:Drawn}{t:Nat}{os:OsState}{a:Addr}{xs:Array Value}{n:Nat}{sl:Array (Option Value)}
end
end PySem
namespace PySem
open Sem (wp)
namespace F
end F
section
variable {prog:v8}{w:World}{K:Type}[DecidableEq K]{knd:KeyKind prog w K}{A:G8}{s:g7}{R:c3K->g7->Prop}
end
section
variable {prog:v8}{w:World}{K:Type}[DecidableEq K]{knd:KeyKind prog w K}{A:G8}{E:Value->g7->Prop}{s:g7}
end
end PySem
namespace L2
open PySem PySem.Spec PyProof.Rows
section
variable {X:Cx}
end
section
variable {X:Cx}{tg:Expr}
end
section
variable {X:Cx}
end
section
variable {X:Cx}
end
structure IsC(K:Fg)(C:Addr):Prop where
 cl:Cls K C
 ha:C6 K (.ref C) "__class__" = some (some (.builtin "object.__class__"))
 hn:a6t K (.builtin "object.__class__") "__get__" = some (some (.builtin "getset_descriptor.__get__"))
 htk:b8u K (.builtin "object.__class__")=some true
 hm:c1e K C (.type "object")=some true
section
variable {P:v8}{w:World}{K:Type}[DecidableEq K]{knd:HeapKind P w K}{A:G8}{E:Value->g7->Prop}{s:g7}
end
section
variable {X:Cx}
theorem c0Z{H:Hp}:∀ {l:List (List Key×V)} {m:List (List Key×Addr×Value)} {i:Nat} {k:List Key} {p:Addr} {v:Value},KT H l m->m[i]? = some (k,p,v)->∃y,l[i]? = some (k,y)/\C7 y v/\H p=some (.tup (k.map kV))
 | c::l,d::m,0,k,p,v,h,e=>by
  have h:Paired _ _ _:=h
  cases h with
  | cons h t=>
   obtain⟨h1,h2,h3⟩:=h
   cases e
   have h1:c.1=k:=h1
   rw[h1]at h2
   exact⟨c.2,by rw[a3i,<-h1],h3,h2⟩
 | c::l,d::m,i+1,k,p,v,h,e=>by
  have h:Paired _ _ _:=h
  cases h with
  | cons h t=>exact c0Z (i:=i) (show KT H l m from t) e
 | [],m,i,k,p,v,h,e=>by
  have h:Paired _ _ _:=h
  cases h
  cases e
 | c::l,[],i,k,p,v,h,e=>by
  have h:Paired _ _ _:=h
  cases h
end
end L2
namespace PySem
open Sem (wp)
section
variable {prog:v8}{w:World}{A:G8}{E:Value->g7->Prop}{s:g7}
def Raw(h:Heap)(d:Addr)(es:Array a0c)(ep:Nat):Prop:=∃o,h.get? d=some o/\o.ExactDict/\o.data=.dict es ep
theorem Raw.at{h h':Heap}{d:Addr}{es:Array a0c}{ep:Nat}(x:Raw h d es ep)(e:∀o,h.get? d=some o->h'.get? d=some o):Raw h' d es ep:=let⟨o,h1,r⟩:=x; ⟨o,e _ h1,r⟩
theorem Raw.typeIs{d:Addr}{es:Array a0c}{ep:Nat}(x:Raw s.heap d es ep):s.TypeIs (.ref d) "dict" := let⟨o,h1,h2,_⟩:=x; ⟨o,h1,h2.1⟩
theorem iter_raw{d:Addr}{es:Array a0c}{ep:Nat}{Q:Value->g7->Prop}(hd:(d == T1)=false)(hm:Raw s.heap d es ep)
  (hQ:Q (.ref s.heap.objs.size) { s with heap:=s.heap.push { cls:=.type "dict_keyiterator",data:=.fields #[.ref d,.int 0 0,.int es.size 0,.int ep 0] } }):wpAny (model prog w) A (pyIter (.ref d)) Q E s:=by
 have hT:=hm.typeIs
 obtain⟨o,ho,hc,hdat⟩:=id hm
 refine wpAny_pyIter_slot hT F.slot_dict_iter (a2p F.slot_dict_iter hT F.entry_dict_iter ?_ (F.args_dict_iter_1 _))
 unfold Builtin.«dict.__iter__» Builtin.Dict.dictSlotNone
 refine c5 (c5 (c3E hT (l5 ?_)))
 show wpAny _ _ (Builtin.Dict.showsAll d >>= _) _ _ s
 unfold Builtin.Dict.showsAll
 simp only[hd,a6O,if_false]
 refine c5 (l5 (c5 (b2C ho hdat (c5 (b6c ho hdat (c5 (O2 (l5 ⟨_,rfl,"dict_keyiterator",_,⟨_,t9 _ rfl,rfl⟩,F.slot_dict_keyiterator_next.lookup,?_⟩))))))))
 simpa[rawInt]using hQ
theorem next_raw{it d:Addr}{i ep:Nat}{es:Array a0c}{Q:Option Value->g7->Prop}(hit:s.heap.IsKeyIter it d i es.size ep)(hm:Raw s.heap d es ep)(hi:i<es.size)
  (hQ:∀h',h'.IsKeyIter it d (i+1) es.size ep->Heap.SameBut it s.heap h'->Q (some es[i].key) { s with heap:=h' }):wpAny (model prog w) A (c3I (.ref it)) Q E s:=by
 have hT:=hit.typeIs
 obtain⟨o,ho,hc,hd⟩:=id hit
 obtain⟨od,hod,_,hdd⟩:=hm
 have own:Builtin.Dict_items.ownsTuple "dict_keyiterator" = false:=by decide
 unfold c3I
 refine c5 (wpAny_attempt (a5H (name:=Str.ofString "__next__") hT F.slot_dict_keyiterator_next (a2p F.slot_dict_keyiterator_next hT F.entry_dict_keyiterator_next ?_ (F.args_dict_keyiterator_next_1 _))))
 refine c5 (l5 (c5 (c5 (c5 (Y0 hT (l5 (c5 (wpAny_fieldsOf ho hd ?_))))))))
 simp only[own,a6O,if_false]
 show wpAny _ _ (if(Value.ref d == Value.none)=true then _ else _) _ _ s
 have nn:¬(Value.ref d == Value.none)=true:=(l3:¬false=true)
 rw[if_neg nn]
 refine c5 (l5 (c5 (b2C hod hdd ?_)))
 rw[if_neg (by simp)]
 refine c5 (l5 (c5 (b6c hod hdd ?_)))
 rw[if_neg (by simp)]
 refine l5 ?_
 simp only[show ¬((i:Int)<0) by omega,if_false,u8,a2n hi]
 refine c5 (c5 (Y0 hT (l5 (c5 (c3G hT ?_)))))
 show wpAny _ _ (setField (.ref it) 1 (rawInt ((i:Int)+1)) >>= _) _ _ s
 refine c5 (wpAny_setField ho hd (by simp) ?_)
 have hit':(s.heap.update it (Obj.mapFields (·.setIfInBounds 1 (rawInt ((i:Int)+1))))).IsKeyIter it d (i+1) es.size ep:=
  ⟨_,b5U _ ho (Obj.isFreed_of_fields (Obj.data_mapFields hd _)),(Obj.cls_mapFields ..).trans hc,by rw[Obj.data_mapFields hd];simp[rawInt]⟩
 refine c5 (a5G (c5 (c3G (s:={ s with heap:=s.heap.update it (Obj.mapFields (·.setIfInBounds 1 (rawInt ((i:Int)+1)))) }) hit'.typeIs ?_)))
 show wpAny _ _ (pure es[i].key) _ _ _
 exact l5 (l5 ⟨_,rfl,l5 (hQ _ hit' (b0W ..))⟩)
theorem end_raw{it d:Addr}{i ep:Nat}{es:Array a0c}{Q:Option Value->g7->Prop}(hh:A.handled=none)(hit:s.heap.IsKeyIter it d i es.size ep)(hm:Raw s.heap d es ep)(hi:es.size<=i)
  (hQ:∀h',Heap.ExtBut it s.heap h'->Q none { s with heap:=h' }):wpAny (model prog w) A (c3I (.ref it)) Q E s:=by
 have hT:=hit.typeIs
 obtain⟨o,ho,hc,hd⟩:=id hit
 obtain⟨od,hod,_,hdd⟩:=hm
 have own:Builtin.Dict_items.ownsTuple "dict_keyiterator" = false:=by decide
 unfold c3I
 refine c5 (wpAny_attempt (a5H (name:=Str.ofString "__next__") hT F.slot_dict_keyiterator_next (a2p F.slot_dict_keyiterator_next hT F.entry_dict_keyiterator_next ?_ (F.args_dict_keyiterator_next_1 _))))
 refine c5 (l5 (c5 (c5 (c5 (Y0 hT (l5 (c5 (wpAny_fieldsOf ho hd ?_))))))))
 simp only[own,a6O,if_false]
 show wpAny _ _ (if(Value.ref d == Value.none)=true then _ else _) _ _ s
 have nn:¬(Value.ref d == Value.none)=true:=(l3:¬false=true)
 rw[if_neg nn]
 refine c5 (l5 (c5 (b2C hod hdd ?_)))
 rw[if_neg (by simp)]
 refine c5 (l5 (c5 (b6c hod hdd ?_)))
 rw[if_neg (by simp)]
 refine l5 ?_
 simp only[show ¬((i:Int)<0) by omega,if_false,u8,Array.getElem?_eq_none hi]
 refine c5 (c5 (Y0 hT (l5 ?_)))
 show wpAny _ _ (setField (.ref it) 0 .none >>= _) _ _ s
 refine c5 (wpAny_setField ho hd (by simp) ?_)
 refine c5 ?_
 simp only[newExc,newTuple]
 refine c5 (O2 ?_ (by size_fits))
 refine c5 (m:=firstArgMember _ _) (wpAny_of_eq (a:=Value.none) (by simp only[firstArgMember];rfl) (O2 ?_ (by size_fits)))
 simp only[raiseNew]
 refine c5 (wpAny_handled ?_)
 rw[show A.in1.handled=none from hh]
 refine c5 (l5 (wpAny_throw ?_))
 refine c5 (wpAny_isInstance (T := "StopIteration") (b:=true) (show Shared.TypeIs _ (.ref _) _ from⟨_,t9 _ rfl,rfl⟩) isSubtype_stop (l5 (hQ _ ?_)))
 exact((b0W ..).extBut.push _).push _
theorem walks_raw(hh:A.handled=none)(I d:Addr)(hne:d≠I)(es:Array a0c)(ep:Nat) :
  Walks prog w A I [I,d] [I] es.size (fun i v=>∃e,es[i]? = some e/\v=e.key) (fun i h=>h.IsKeyIter I d i es.size ep/\Raw h d es ep) where
 sub:=fun b hb=>by simp at hb;simp[hb]
 frame:=fun _ _ _ st hk=>⟨st.1.at fun o e=>hk I (by simp) o e,st.2.at fun o e=>hk d (by simp) o e⟩
 item:=fun i s Q E hi st hQ=>next_raw st.1 st.2 hi fun h' hit' hs'=>hQ _ h' s.toks ⟨_,a2n hi,rfl⟩ ⟨hit',st.2.at fun o e=>hs'.extBut d o hne e⟩ fun b o hb e=>hs'.extBut b o (fun h=>hb (by simp[h])) e
 done:=fun s Q E st hQ=>end_raw hh st.1 st.2 (d9 _) fun h' he'=>hQ h' s.toks fun b o hb e=>he' b o (fun h=>hb (by simp[h])) e
 self:=fun _ _ _ _ st hQ=>wpAny_pyIter_keyiter st.1 hQ
theorem list_raw{d:Addr}{es:Array a0c}{ep:Nat}(lo:(d == T1)=false):PySem.W.KdlSrc prog w "dict" d d es.size (fun i v=>∃e,es[i]? = some e/\v=e.key) (fun h=>Raw h d es ep) where
 type:=fun s hm=>Raw.typeIs (s:=s) hm
 there:=fun _ ⟨_,h1,_⟩=>⟨g8 h1,g8 h1⟩
 keep:=fun _ _ hm hk=>hm.at fun o e=>hk d (.inl rfl) o e
 notList:=by decide
 notTuple:=by decide
 hint:=fun _ _ _ _ hm hq=>PySem.W.kdl_hint_dict (Raw.typeIs hm) hq
 iter:=fun _ _ hh hm=>⟨_,_,(fun _ _ hq=>iter_raw lo hm hq),walks_raw hh _ d (u5 (let⟨_,h1,_⟩:=hm;g8 h1)) es ep,⟨⟨_,t9 _ rfl,rfl,rfl⟩,hm.at fun _ e=>g9 _ e⟩⟩
end
end PySem
namespace L2
open PySem PySem.Spec PyProof.Rows
section
variable {X:Cx}
def b8i(H:Hp)(bs:List Addr)(ks:List (List Key)):Prop:=bs.length=ks.length/\∀(i:Nat) b k,bs[i]? = some b->ks[i]? = some k->H b=some (.tup (k.map kV))
def b3g:List V->Hp->VK->Prop:=fun xs H Q=>∃p kvs,xs=[.ref p]/\H p=some (.dT kvs)/\∀bs:List Addr,b8i H bs (kvs.map (·.1))->∀l,H l=none->Q (.ref l) (upd H l (.lst (bs.map V.ref)))
theorem c0e{H:Hp}{kvs:List (List Key×V)}{xs:List (List Key×Addr×Value)}(r:KT H kvs xs):b8i H (xs.map (·.2.1)) (kvs.map (·.1)):=by
 have hl:=Paired.length r
 refine⟨by rw[a8,a8,hl],fun i b k e1 e2=>?_⟩
 rw[b8]at e1 e2
 obtain⟨⟨k',p,v⟩,f1,g1⟩:=l7.mp e1
 obtain⟨⟨k2,y⟩,f2,g2⟩:=l7.mp e2
 obtain⟨y',f3,_,f4⟩:=c0Z r f1
 rw[f2]at f3
 cases f3
 cases g1
 cases g2
 exact f4
theorem c1G{P:v8}{w:World}{H:Hp}{h:Heap}{a:Addr}{kvs:List (List Key×V)}(ok:HOk P w H h)(e:H a=some (.dT kvs)):(a == T1)=false/\∃es ep xs,Raw h a es ep/\KT H kvs xs/\es.size=xs.length/\∀(i:Nat) en,es[i]? = some en->∃x,xs[i]? = some x/\en.key=.ref x.2.1:=by
 obtain⟨_,hd,xs,r,o,es,ep,h1,h2,h3,h4,_⟩:=b7U ok e
 refine⟨hd,es,ep,xs,⟨o,h1,h2,h3⟩,r,size_of_entries h4,fun i en he=>?_⟩
 rw[<-M4,h4,b8]at he
 obtain⟨x,hx,rfl⟩:=l7.mp he
 exact⟨x,hx,rfl⟩
theorem b2q(hc:X.calm=true):U3 X (.type "list") b3g:=fun pins s σ H xs us Q I r h=>by
 obtain⟨p,kvs,rfl,hp,q⟩:=h
 obtain⟨u,rfl,ru⟩:=a4k r
 cases ru
 obtain⟨hz,_,_⟩:=b7U I.hok hp
 obtain⟨hS,es,ep,ys,hR,rk,hs,hk⟩:=c1G I.hok hp
 have hl:=Paired.length rk
 refine b8q (list_raw (es:=es) (ep:=ep) hS) (I.ok.hd hc) hR (by omega) fun h' tk acc c hkp ha hit=>?_
 have ka:=c0e rk
 refine⟨.ref _,_,I.laid (t':=tk) (a:=s.heap.objs.size) (o:=.lst ((ys.map (·.2.1)).map V.ref)) hkp (d9 _) ?_,rfl,q _ ka _ (I.hok.fresh (d9 _))⟩
 refine⟨by rw[a8,a8];omega,acc.toList,c,?_,by simpa using ha⟩
 refine a9L (by have:=hit.1;rw[a8,a8];simp;omega) fun i x u a b=>?_
 obtain⟨en,e1,e2⟩:=hit.2 i u (by rw[<-M4];exact b)
 obtain⟨z,e3,e4⟩:=hk i en e1
 rw[b8,b8,e3]at a
 cases a
 rw[e2,e4]
 rfl
end
end L2
namespace PySem
open Sem (wp)
section
variable {prog:v8}{w:World}{K:Type}[DecidableEq K]{knd:HeapKind prog w K}{A:G8}{s:g7}{R:c3K->g7->Prop}
end
section
variable {prog:v8}{w:World}{K:Type}[DecidableEq K]{knd:HeapKind prog w K}{A:G8}{E:Value->g7->Prop}{s:g7}
end
end PySem
namespace L2
open PySem PySem.Spec PyProof.Rows
variable{X:Cx}{pins:List (Addr×Obj)}{σ:St}{H:Hp}{s:g7}{a:Addr}
section
end
section
end
abbrev XE:=List Key×Addr×V
section
variable {b:Addr}{xs:List XE}{k:List Key}
end
section
variable {i o:Expr}{ti to:TE}
end
section
end
section
theorem Inv.thawK{o:Obj}{kvs:List (Key×V)}(I:Inv X pins σ H s)(e:H a=some (.frz o (.dK kvs)))(nf:∀o u,X.H₀ a≠some (.frz o u)):Inv X pins σ (upd H a (.dK kvs)) s:=by
 have no:∀b,H b=none->(upd H a (.dK kvs)) b=none:=fun b q=>by rw[c9 (c7 e q).symm];exact q
 refine⟨I.ok,I.os,I.bare,⟨I.base.keep,I.base.slot,fun b o q n x=>no b (I.base.free b o q n x),I.base.there,fun b xs q=>?_,fun b o u q=>?_,fun b ps q=>?_⟩,I.loc,I.cell,no _ I.free,fun x c q=>no _ (I.freeC x c q),fun p hp=>?_,fun b u q=>?_,I.len⟩
 ·have:=I.base.tups b xs q
  rw[c9 (G5 this e (by intro z;cases z))];exact this
 ·have:b≠a:=fun z=>nf o u (z ▸ q)
  rw[c9 this];exact I.base.frzs b o u q
 ·obtain⟨m,r⟩:=I.base.tbls b ps q
  exact⟨m,by rw[c9 (G5 r e (by intro z;cases z))];exact r⟩
 ·obtain⟨h1,h2,r⟩:=I.pin p hp
  exact⟨h1,no _ h2,r⟩
 ·have st:∀ {c:Addr} {v:HO},R3 X.prog X.w H s.heap c v->R3 X.prog X.w (upd H a (.dK kvs)) s.heap c v:=fun {c v} x=>x.stay (fun _ _ _ r=>r) (fun d r=>by rw[c9 (G5 r e (by intro z;cases z))];exact r) fun d xs r=>by rw[c9 (G5 r e (by intro z;cases z))];exact r
  by_cases hb:b=a
  ·subst hb
   rw[c6]at q
   cases q
   exact st (I.hok b _ e).2
  ·rw[c9 hb]at q
   exact st (I.hok b u q)
theorem a9p{P:v8}{w:World}:∀ {es:List a0c} {kvs:List (Key×Value)},Pairs (M0 P w) es kvs->es.length=kvs.length/\∀(i:Nat) en,es[i]? = some en->∃k,kvs[i]? = some k/\(M0 P w).is k.1 en.key=true
 | _,_,.nil=>⟨rfl,fun i en h=>by cases h⟩
 | _,_,.cons h1 h2 r=>by
  obtain⟨l,g⟩:=a9p r
  refine⟨by rw[v7,v7,l],fun i en h=>?_⟩
  cases i with
  | zero=>cases h;exact⟨_,rfl,h1⟩
  | succ i=>exact g i en h
theorem c3Z{P:v8}{w:World}{h:Heap}{kvs:List (Key×V)}(ok:HOk P w H h)(e:H a=some (.dK kvs)):(a == T1)=false/\∃es ep,Raw h a es ep/\es.size=kvs.length/\∀(i:Nat) en,es[i]? = some en->∃k,kvs[i]? = some k/\C7 (kV k.1) en.key:=by
 obtain⟨_,hd,vs,r,o,es,ep,h1,h2,h3,h4,h5,_⟩:=a8i ok e
 obtain⟨l,g⟩:=a9p h5
 have hl:=Paired.length r
 refine⟨hd,es,ep,⟨o,h1,h2,h3⟩,by rw[<-Z5,l];exact hl.symm,fun i en he=>?_⟩
 obtain⟨k,q1,q2⟩:=g i en (by rw[M4];exact he)
 obtain⟨y,hy⟩:=b7M (k:=k.1) (x:=k.2) r q1
 exact⟨_,hy,c1a q2⟩
def Itk(ob:Obj)(a:Addr)(kvs:List (Key×V)):It:=
 ⟨fun i H=>i<kvs.length/\H a=some (.frz ob (.dK kvs)),fun i H x H'=>H'=H/\∃k,kvs[i]? = some k/\x=kV k.1,fun i H=>kvs.length<=i/\H a=some (.frz ob (.dK kvs))⟩
def b3E(P:Addr->Prop)(ta:TE):TI:=fun σ H R=>ta σ H fun x H1=>∃a kvs,x=.ref a/\H1 a=some (.dK kvs)/\(P a->∀ob,R (Itk ob a kvs) (upd H1 a (.frz ob (.dK kvs))))
theorem b2L{P:v8}{w:World}{K:Fg}{tg:Expr}{ob:Obj}{it:Addr}{kvs:List (Key×V)}{es:Array a0c}{ep:Nat}(h2:ob.ExactDict)(h3:ob.data=.dict es ep)(hl:es.size=kvs.length)(hk:∀(i:Nat) en,es[i]? = some en->∃k,kvs[i]? = some k/\C7 (kV k.1) en.key) :
  b0O P w K tg (Itk ob a kvs) [it] it (fun i h=>h.IsKeyIter it a i es.size ep) where
 mem:=by simp
 obj:=fun i h st b hb=>by
  have e:b=it:=by simpa using hb
  subst e
  obtain⟨o,e,c,d⟩:=st
  exact⟨o,e,fun v z=>by rw[d]at z;cases z⟩
 keep:=fun i h h' st k=>st.at fun o e=>k it (by simp) o e
 item:=by
  intro X hP hw hK hc i pins s σ H E I hf st hg
  subst hP hw hK
  obtain⟨hi,e⟩:=hg
  obtain⟨f0,f1,f2,f3,f4,f5⟩:=hf it (by simp)
  have hr:Raw s.heap a es ep:=⟨ob,(I.hok a _ e).1,h2,h3⟩
  have hi':i<es.size:=by omega
  obtain⟨k,hb,kb⟩:=hk i es[i] (a2n hi')
  refine next_raw st hr hi' fun h' st' sb=>?_
  have I1:Inv X pins σ H { s with heap:=h' }:=I.turned (t':=s.toks) (fun b o hb e=>(sb.2 b hb).trans e) f0 f1 f3 f4 f5
  obtain⟨o,e,c,d⟩:=id st'
  exact⟨_,rfl,b4j (s:={ s with heap:=h' }) e c d (by decide) ⟨kV k.1,H,I1,kb,⟨rfl,k,hb,rfl⟩,st',fun b hb=>(hf b hb).1⟩⟩
 done:=by
  intro X hP hw hK hc i pins s σ H E I hf st hg
  subst hP hw hK
  obtain⟨hi,e⟩:=hg
  obtain⟨f0,f1,f2,f3,f4,f5⟩:=hf it (by simp)
  exact end_raw (I.ok.hd hc) st ⟨ob,(I.hok a _ e).1,h2,h3⟩ (by omega) fun h' eb=>⟨rfl,I.turned (t':=s.toks) (fun b o hb e=>eb b o hb e) f0 f1 f3 f4 f5⟩
 self:=fun _ _ _ _ _ st h=>wpAny_pyIter_keyiter st h
theorem b7l{tg l:Expr}{tl:TE}(hl:PE X l tl):PI X tg l (b3E (fun a=>∀o u,X.H₀ a≠some (.frz o u)) tl):=by
 intro pins s σ H R I h
 refine thn (hl pins s σ H _ I h) fun v s1 ⟨x,H1,I1,r1,q1⟩=>?_
 obtain⟨a,kvs,e,hq,q⟩:=q1
 subst e
 cases r1
 obtain⟨hd,es,ep,⟨ob,o1,o2,o3⟩,hs,hk⟩:=c3Z I1.hok hq
 have nf:∀o u,X.H₀ a≠some (.frz o u):=fun o u z=>by
  have:=I1.base.frzs a o u z
  rw[hq]at this
  cases this
 refine iter_raw hd ⟨ob,o1,o2,o3⟩ ?_
 have nt:∀d ys,H1 d=some (.tup ys)->(upd H1 a (.frz ob (.dK kvs))) d=some (.tup ys):=fun d ys r=>by rw[c9 (G5 r hq (by intro z;cases z))];exact r
 have I2:Inv X pins σ (upd H1 a (.frz ob (.dK kvs))) s1:=I1.write (x:=a) (e:=a) (h':=s1.heap) (t':=s1.toks) (by rw[hq];exact True.intro) (.inl rfl) (fun _ _ _ e=>e) ⟨ob,o1⟩
  ⟨o1,(I1.hok a _ hq).stay (fun _ _ _ r=>r) (fun d r=>by rw[c9 (G5 r hq (by intro z;cases z))];exact r) nt⟩
 refine⟨s1.heap.objs.size,[s1.heap.objs.size],_,_,_,rfl,I2.kept (t':=s1.toks) fun b o e=>g9 _ e,b2L (es:=es) (ep:=ep) o2 o3 hs hk,⟨_,t9 _ rfl,rfl,rfl⟩,fun b hb=>?_,q nf ob⟩
 have e:b=s1.heap.objs.size:=by simpa using hb
 subst e
 exact I2.fpOk (d9 _) (I2.hok.fresh (d9 _))
end
section
def b5w(k2:List (Key×V)):List (Key×V)->Bool
 | []=>true
 | p::r=>match Y3 k2 p.1 with
  | none=>false
  | some y=>eqV p.2 y&&b5w k2 r
theorem b7Q{A:G8}{kb:List (Key×Value)}{k2:List (Key×V)}(r2:KV k2 kb)(f2:∀k y,Y3 k2 k=some y->F2 y=true):∀ {l:List (Key×V)} {la:List (Key×Value)},KV l la->l.all (fun p=>F2 p.2)=true->PySem.W.KeqHits A s kb la (b5w k2 l):=by
 intro l la r
 unfold KV at r
 induction r with
 | nil=>intro _;exact .nil
 | @cons p q l1 l2 h hr ih=>
  intro fl
  obtain⟨k,x⟩:=p
  obtain⟨k',v⟩:=q
  obtain⟨e,rv⟩:=h
  obtain rfl:k=k':=e
  rw[P9,Q0]at fl
  have rel:=r2.val k
  unfold b5w
  cases z:Y3 k2 k with
  | none=>
   rw[z]at rel
   simp only[z]
   refine .miss ?_
   cases w:b2E kb k with
   | none=>rfl
   | some y=>rw[w]at rel;exact rel.elim
  | some y=>
   rw[z]at rel
   obtain⟨u,hu,ru⟩:=rel.some_of
   simp only[z]
   exact .hit hu (a8f rv ru fl.1 (f2 k y z)) (ih fl.2)
theorem a4m:isSubtype (.type "NoneType") (.type "dict")=pure false:=by rw[isSubtype_type];kernel_rfl
def b8X:R2:=fun x y H Q=>(∃a kvs,x=.ref a/\y=.non/\H a=some (.dK kvs)/\Q (.bl true) H) \/
 ∃a b k1 k2,x=.ref a/\y=.ref b/\H a=some (.dK k1)/\H b=some (.dK k2)/\k1.all (fun p=>F2 p.2)=true/\(∀k y,Y3 k2 k=some y->F2 y=true)/\Q (.bl (!(k1.length == k2.length&&b5w k2 k1))) H
theorem b9E(hu:X.A.units<cLine):OpR X (o6 .NotEq) b8X:=by
 intro pins s σ H x y v u Q I rx ry h
 rcases h with ⟨a,kvs,rfl,rfl,h1,q⟩ | ⟨a,b,k1,k2,rfl,rfl,h1,h2,f1,f2,q⟩
 ·cases rx
  cases ry
  obtain⟨_,ha,va,r1,d1⟩:=a8i I.hok h1
  have ht:=d1.typeIs
  have one:∀Q':Value->g7->Prop,Q' .notImplemented s->wpAny (model X.prog X.w) X.A (call (.builtin "dict.__ne__") [.ref a,.none]) Q' X.xe s:=by
   intro Q' hq
   refine a2p b3T ht PySem.F.entry_dict_ne ?_ (PySem.F.args_dict_ne_2 _ _)
   show wpAny _ _ (Builtin.Dict.dictSlotArgs "__ne__" ⟨[.ref a,.none],[]⟩ >>= _) _ _ s
   refine c5 ?_
   unfold Builtin.Dict.dictSlotArgs
   refine c5 (c3E ht ?_)
   show wpAny _ _ (pure (Value.ref a,Value.none)) _ _ s
   refine l5 ?_
   refine c5 (wpAny_isInstance (T := "NoneType") rfl a4m ?_)
   simp only[b1c,if_true]
   refine c5 (wpAny_rule ?_)
   refine l5 ?_
   exact⟨_,rfl,hq⟩
  exact SeqAt.rc_ne_decline_or (k:=false) ht rfl (by decide) a4m b3T a7f one
   (fun _ z=>call_gives a7f rfl PySem.F.entry_NoneType_ne (PySem.F.args_NoneType_ne_2 _ _) (SeqAt.NoneType___ne___none_ref_0 a) z)
   (fun _ z=>wpAny_of_eq (rfl:isSame (.ref a) .none=pure false) z) (.inr hu) ⟨.bl true,H,I,rfl,q⟩
 ·cases rx
  cases ry
  obtain⟨_,ha,va,r1,d1⟩:=a8i I.hok h1
  obtain⟨_,hb,vb,r2,d2⟩:=a8i I.hok h2
  have l1:=Paired.length r1
  have l2:=Paired.length r2
  refine PySem.W.keq_ne ha hb d1 d2 hu (fun _=>b7Q r2 f2 r1 f1) ?_
  rw[<-l1,<-l2]
  exact⟨.bl _,H,I,rfl,q⟩
def c0z(H:Hp)(x:V):Prop:=F2 x=true\/∃a zs,x=.ref a/\H a=some (.tup zs)
def eqP(x y:V):Bool:=if F2 x=true then eqV x y else false
def a7L(xs ys:List V):Bool:=(w4 (min xs.length ys.length)).all (fun j=>eqP (xs.getD j .non) (ys.getD j .non))&&xs.length == ys.length
theorem b4e{xs ys:List V}{us ws:List Value}(I:Inv X pins σ H s)(hu:X.A.units+1<cLine)(rx:E2 xs us)(ry:E2 ys ws)(fx:∀z∈xs,c0z H z)(fy:ys.all F2=true) :
  ∀j (h1:j<us.toArray.size) (h2:j<ws.toArray.size),SeqAt.EqAt X.A.in1 s us.toArray[j] ws.toArray[j] (eqP (xs.getD j .non) (ys.getD j .non)):=by
 intro j h1 h2
 have l1:=rx.length
 have l2:=ry.length
 have g1:j<us.length:=by simpa using h1
 have g2:j<ws.length:=by simpa using h2
 have e1:xs[j]? = some (xs[j]'(by omega)):=by simp
 have e2:ys[j]? = some (ys[j]'(by omega)):=by simp
 obtain⟨u,hu',ru⟩:=rx.get e1
 obtain⟨w,hw,rw'⟩:=ry.get e2
 have z1:us.toArray[j]=u:=by
  rw[j6 g1]at hu'
  simpa using hu'
 have z2:ws.toArray[j]=w:=by
  rw[j6 g2]at hw
  simpa using hw
 have q1:xs.getD j .non=xs[j]'(by omega):=by simp[L4,e1]
 have q2:ys.getD j .non=ys[j]'(by omega):=by simp[L4,e2]
 rw[z1,z2,q1,q2]
 have fy':=N4.mp fy _ (D2 (show j<ys.length by omega))
 generalize xs[j]'(by omega)=x at ru e1
 generalize ys[j]'(by omega)=y at rw' fy'
 unfold eqP
 rcases fx x (T6 e1)with f | ⟨a,zs,rfl,ha⟩
 ·rw[if_pos f]
  exact a8f ru rw' f fy'
 ·rw[if_neg (by intro z;cases z)]
  obtain⟨its,_,tp,_⟩:=I.tuple (SqT.of ha)
  cases ru
  have hu2:X.A.in1.units<cLine:=hu
  cases y with
  | non=>cases rw';exact SeqAt.EqAt.tuple_none tp hu2
  | bl b=>cases rw';exact SeqAt.EqAt.tuple_bool b tp hu2
  | int i=>obtain⟨t,rfl⟩:=rw';exact SeqAt.EqAt.tuple_int i t tp hu2
  | str x=>obtain⟨t,rfl⟩:=rw';exact SeqAt.EqAt.tuple_str x t tp hu2
  | _=>cases fy'
def c1P:R2:=fun x y H Q=>∃a b xs ys,x=.ref a/\y=.ref b/\H a=some (.tup xs)/\H b=some (.tup ys)/\(∀z∈xs,c0z H z)/\ys.all F2=true/\Q (.bl (a7L xs ys)) H
def c1N:R2:=fun x y H Q=>∃a b xs ys,x=.ref a/\y=.ref b/\H a=some (.tup xs)/\H b=some (.tup ys)/\(∀z∈xs,c0z H z)/\ys.all F2=true/\Q (.bl (!a7L xs ys)) H
theorem b9J(hu:X.A.units+1<cLine):OpR X (o6 .Eq) c1P:=by
 intro pins s σ H x y v u Q I rx ry ⟨a,b,xs,ys,e1,e2,ha,hb,fx,fy,q⟩
 subst e1 e2
 cases rx
 cases ry
 obtain⟨us,r1,t1,_⟩:=I.tuple (SqT.of ha)
 obtain⟨ws,r2,t2,_⟩:=I.tuple (SqT.of hb)
 have l1:=r1.length
 have l2:=r2.length
 have z:=SeqAt.RcAt.tuples (A:=X.A) t1 t2 (by omega) (b4e I hu r1 r2 fx fy)
 simp only[j4,<-l1,<-l2]at z
 exact z _ _ _ _ ⟨.bl _,H,I,rfl,q⟩
theorem b9D(hu:X.A.units+1<cLine):OpR X (o6 .NotEq) c1N:=by
 intro pins s σ H x y v u Q I rx ry ⟨a,b,xs,ys,e1,e2,ha,hb,fx,fy,q⟩
 subst e1 e2
 cases rx
 cases ry
 obtain⟨us,r1,t1,_⟩:=I.tuple (SqT.of ha)
 obtain⟨ws,r2,t2,_⟩:=I.tuple (SqT.of hb)
 have l1:=r1.length
 have l2:=r2.length
 have z:=SeqAt.RcNeAt.tuples (A:=X.A) t1 t2 (by omega) (b4e I hu r1 r2 fx fy)
 simp only[j4,<-l1,<-l2]at z
 exact z _ _ _ _ ⟨.bl _,H,I,rfl,q⟩
theorem a9g:∀ {us:List Value} {ss:List Str},StrsAre us ss->E2 (ss.map V.str) us
 | _,_,.nil=>.nil
 | _,_,.cons _ _ h=>.cons ⟨_,rfl⟩ (a9g h)
def b3e:List V->Hp->VK->Prop:=fun vs H Q=>∃l ss,vs=[.ref l]/\H l=some (.lst (ss.map V.str))/\ss.length<64/\∀(p:Addr) (ts:List Str),ts.Perm ss->H p=none->Q (.ref p) (upd H p (.lst (ts.map V.str)))
theorem b2p:U3 X (.builtin "sorted") b3e:=fun pins s σ H xs us Q I r h=>by
 obtain⟨l,ss,rfl,hl,hn,q⟩:=h
 obtain⟨u,rfl,ru⟩:=a4k r
 cases ru
 obtain⟨its,rv,pl,hz⟩:=I.list (SqL.of hl)
 have hi:=a7B rv (b2P ss)
 have hil:=rv.length
 rw[a8]at hil
 refine sorted_strs pl.isList hi (by omega) fun out ts a1 a2 a3=>?_
 obtain⟨c,he⟩:=sortedAll_at s.heap its out
 have hl':=a2.length_eq
 have hv:=a9g a1
 refine⟨.ref _,_,I.laid (t':=s.toks) (a:=s.heap.objs.size+1) (o:=.lst (ts.map V.str)) (fun b ob q=>sortedAll_old q) (a5C _) ?_,rfl,q _ ts a2 (I.hok.fresh (a5C _))⟩
 refine⟨by rw[a8,sizeLine_eq];omega,out.toList,c,hv,?_⟩
 exact he
def b3X(ta:TE)(g:TG)(tb:TS):TS:=fun D σ H=>∀P:Addr->Prop,a0q (b3E P ta) g tb { D with nx:=fun σ H=>∃a o kvs,H a=some (.frz o (.dK kvs))/\P a/\D.nx σ (upd H a (.dK kvs)) } σ H
theorem b9h{tg iter:Expr}{body:List Stmt}{tl:TE}{g:TG}{tb:TS}{pos:Pos}(hp:b1f (model X.prog X.w) X.A X.env X.xe)(hc:X.calm=true)(hl:PE X iter tl)(hg:PG X tg g)(hb:PSs X body tb)
  (hs:∀x,L1 iter X.env x=pure x:=by intro _;rfl):PS X (.For tg iter body [] pos) (b3X tl g tb):=by
 intro pins s σ H D I h
 refine thn (b7i hp hc (b7l hl) hg hb hs pins s σ H _ I (h _)) fun f s' hf=>?_
 cases f with
 | next=>
  obtain⟨σ',H',I',a,o,kvs,e,nf,q⟩:=hf
  exact⟨σ',_,I'.thawK e nf,q⟩
 | brk=>exact hf
 | cont=>exact hf
 | ret u=>exact hf
end
end L2
namespace Y
open PySem PySem.Spec PyProof.Rows L2
structure y'E(X:Cx)(e:Expr)(t:TE):Prop where h:PE X e t
structure y'A(X:Cx)(e:List Expr)(t:TA):Prop where h:PA X e t
structure y'S(X:Cx)(e:Stmt)(t:TS):Prop where h:PS X e t
structure a7r(X:Cx)(e:List Stmt)(t:TS):Prop where h:PSs X e t
structure y'T(X:Cx)(e:Expr)(t:TT):Prop where h:PT X e t
structure y'W(X:Cx)(e:Expr)(t:TT):Prop where h:PW X e t
structure b6r(X:Cx)(e:List Expr)(t:TT):Prop where h:PTs X e t
structure a9K(X:Cx)(tg e:Expr)(t:TI):Prop where h:PI X tg e t
structure y'G(X:Cx)(e:Expr)(t:TG):Prop where h:PG X e t
structure b8B(X:Cx)(e:List Expr)(t:TGs):Prop where h:PGs X e t
structure y'O(X:Cx)(e:Option Expr)(t:TO):Prop where h:PO X e t
structure Q6(X:Cx)(f:Value->Value->Sem Value)(r:R2):Prop where h:OpR X f r
structure c5p(X:Cx)(f:Value->Sem Value)(r:V->Hp->VK->Prop):Prop where h:UnR X f r
structure X2(X:Cx)(f:Value)(r:List V->Hp->VK->Prop):Prop where h:U3 X f r
structure a9f(X:Cx)(id:String)(r:V->List V->Hp->VK->Prop):Prop where h:MtR X id r
structure c0K(X:Cx)(r:R2):Prop where h:IxR X r
structure b6s(X:Cx)(r:V->Option Int->Option Int->Hp->VK->Prop):Prop where h:SlR X r
structure b2H(X:Cx)(t:a8U):Prop where h:b8h X t
structure b6u(X:Cx)(t:V->V->Hp->VK->Prop):Prop where h:c3m X t
structure b6t(X:Cx)(op:a8x)(t:TIp):Prop where h:PIp X op t
section
variable {X:Cx}{st:Stmt}{a3Z:List Stmt}{t u:TS}{e a b c o i:Expr}{es more:List Expr}{te ta tb tc to ti:TE}{tt tu:TT}{tr:TA}{pos p pos':Pos}{x:Str}
theorem k9:a7r X [] D0:=⟨L2.b9g⟩
theorem b4(h1:y'S X st t)(h2:a7r X a3Z u):a7r X (st::a3Z) (u7 t u):=⟨L2.b7f h1.h h2.h⟩
theorem b9(h1:y'S X st t):a7r X [st] t:=⟨L2.b9f h1.h⟩
theorem b6i{n:Nat}(hN:X.N.Nodup)(hi:X.N[n]? = some x)(hx:Loc X.env.scope x)(he:y'E X e te)(hs:a1i e (some (.Name x pos')) pos.line X.env=pure false:=by rfl)(hf:X.fn x=true\/X.env.scope.names.lookup x=some .local:=by first | exact .inl rfl | exact .inr rfl) :
  y'S X (.Assign [.Name x pos'] e pos) (D8 te (o0 n)):=⟨L2.c1V hN hi hx he.h hs hf⟩
theorem a1X{tg:Expr}{g:TG}(he:y'E X e te)(hg:y'G X tg g)(hs:swapsWithSole [tg] e pos.line X.env=pure false:=by rfl)(hw:swappedStores [tg] e X.env=pure none:=by rfl)
  (h1:(a0p [tg] X.env).map (·.2)=[a8Z tg X.env]:=by rfl):y'S X (.Assign [tg] e pos) (D8 te g):=⟨L2.c1Z he.h hg.h hs hw h1⟩
theorem b4C{tget:V->V->Hp->VK->Prop}{tip:TIp}{tset:a8U}{op:a8x}(ho:y'E X o to)(hi:y'E X i ti)(hg:b6u X tget)(he:y'E X e te)(hp:b6t X op tip)(hs:b2H X tset)
  (ha:∀ov iv new,augStore i ov iv new=(do a3l [new,ov,iv] (c1j ov iv new);release [new,ov,iv] [];pure .next):=by intros;rfl):y'S X (.AugAssign (.Subscript o i p) op e pos) (b3Y to ti te tget tip tset):=⟨L2.b9k ho.h hi.h hg.h he.h hp.h hs.h ha⟩
theorem b6j{n:Nat}{op:a8x}{tip:TIp}(hN:X.N.Nodup)(hi:X.N[n]? = some x)(hx:Loc X.env.scope x)(he:y'E X e te)(ho:b6t X op tip)(hf:X.fn x=true\/X.env.scope.names.lookup x=some .local:=by first | exact .inl rfl | exact .inr rfl) :
  y'S X (.AugAssign (.Name x pos') op e pos) (b8I n te tip):=⟨L2.c1Y hN hi hx he.h ho.h hf⟩
theorem u9{la lb:List Stmt}(hc:y'T X c tt)(ha:a7r X la t)(hb:a7r X lb u):y'S X (.If c la lb pos) (J8 tt t u):=⟨L2.c4o hc.h ha.h hb.h⟩
theorem o5(he:y'E X e te):y'S X (.Return (some e) pos) (J7 te):=⟨L2.c1W he.h⟩
theorem O6(he:y'E X e te)(hs:a1i e none pos.line X.env=pure false:=by rfl):y'S X (.Expr e pos) (a0G te):=⟨L2.b9i he.h hs⟩
theorem F0{tg:Expr}{wi:TI}{g:TG}{body:List Stmt}(hp:b1f (model X.prog X.w) X.A X.env X.xe)(hc:X.calm=true)(hi:a9K X tg e wi)(hg:y'G X tg g)(hb:a7r X body t)
  (hs:∀x,L1 e X.env x=pure x:=by intro _;rfl):y'S X (.For tg e body [] pos) (a0q wi g t):=⟨L2.b7i hp hc hi.h hg.h hb.h hs⟩
theorem b4D{n:Nat}(hN:X.N.Nodup)(hi:X.N[n]? = some x)(hx:Loc X.env.scope x)(hf:X.fn x=true\/X.env.scope.names.lookup x=some .local:=by first | exact .inl rfl | exact .inr rfl):y'G X (.Name x pos) (o0 n):=⟨L2.b0f hN hi hx hf⟩
theorem a2b:b8B X [] b0u:=⟨L2.b4f⟩
theorem S0{g:TG}{gs:TGs}(h1:y'G X e g)(h2:b8B X es gs)(h:(a0p (e::es) X.env).map (·.2)=a8Z e X.env::(a0p es X.env).map (·.2):=by rfl):b8B X (e::es) (a0V g gs):=⟨L2.a7Q h1.h h2.h h⟩
theorem a3m{k n:Nat}{gs:TGs}(hc:X.calm=true)(h:b8B X es gs)(hn:(a0p es X.env).length=n:=by rfl)(hst:(a0p es X.env).findIdx? (·.1)=none:=by rfl):y'G X (.Tuple es k pos) (b0s X.K n gs):=⟨L2.b7m hc h.h hn hst⟩
theorem a3n{ts:a8U}(ho:y'E X o to)(hi:y'E X i ti)(hs:b2H X ts)
  (ha:∀v,a8Z (.Subscript o i pos) X.env v=(do
   let ov <-a3l [v] (eval o X.env)
   let iv <-a3l [v,ov] (eval i X.env)
   b6e pos
   a3l [v,ov,iv] (c1j ov iv v)
   release [v,ov,iv] []):=by intro _;rfl):y'G X (.Subscript o i pos) (b0t to ti ts):=⟨L2.c2c ho.h hi.h hs.h ha⟩
theorem F9{tg:Expr}(hg:Gl X "range")(hm:X.mg "range" = none)(ha:y'A X [a] tr)(hs:d8 [a] X.env=[(false,eval a X.env)]:=by rfl):a9K X tg (.Call (.Name "range" p) [a] [] pos) (a0I tr):=⟨L2.b5a hg hm ha.h hs⟩
theorem D7{tg:Expr}(h:y'E X e te):a9K X tg e (Q9 X.K te):=⟨L2.b9q h.h⟩
theorem Y2:y'A X [] j5:=⟨L2.c2r⟩
theorem E6(ha:y'E X e te)(hr:y'A X es tr)(hs:d8 (e::es) X.env=(false,eval e X.env)::d8 es X.env:=by rfl):y'A X (e::es) (a9 te tr):=⟨L2.b9B ha.h hr.h hs⟩
theorem E5:b6r X [] T8:=⟨L2.b9d⟩
theorem b4B(h:y'T X e tt):b6r X [e] tt:=⟨L2.b9c h.h⟩
theorem N5{elt iter:Expr}{px:Pos}{ifs:List Expr}{scope:Scope}{wi:TI}(hc:M9 X.N X.env.scope scope x)(hcalm:X.calm=true)(hi:a9K X (.Name x px) iter wi)
  (ht:∀cl C fp s3 H3,b6r (Q2 X scope cl C x fp s3 H3) ifs tt) (he:∀cl C fp s3 H3,y'E (Q2 X scope cl C x fp s3 H3) elt te)
  (hs:∀x,L1 iter X.env x=pure x:=by intro _;rfl):y'E X (.ListComp elt [⟨.Name x px,iter,ifs,0⟩] scope pos) (U1 wi tt te):=
 ⟨L2.b9x hc hcalm hi.h (fun cl C fp s3 H3=>(ht cl C fp s3 H3).h) (fun cl C fp s3 H3=>(he cl C fp s3 H3).h) hs⟩
theorem a0e{elt iter:Expr}{px py spos:Pos}{ifs:List Expr}{scope:Scope}{wi:TI}{n:Nat}{y:Str}(hN:X.N.Nodup)(hiy:X.N[n]? = some y)(hy:X.env.scope.names.lookup y=some .local)(hc:M9 X.N X.env.scope scope x)(hcalm:X.calm=true)(hi:a9K X (.Name x px) iter wi)
  (ht:∀cl C fp s3 H3,b6r (Q2 X scope cl C x fp s3 H3) ifs tt) (he:∀cl C fp s3 H3,y'E (Q2 X scope cl C x fp s3 H3) elt te)
  (hsw:a1i (.ListComp elt [⟨.Name x px,iter,ifs,0⟩] scope pos) (some (.Name y py)) spos.line X.env=pure true:=by rfl)
  (hs:∀x,L1 iter X.env x=pure x:=by intro _;rfl) :
  y'S X (.Assign [.Name y py] (.ListComp elt [⟨.Name x px,iter,ifs,0⟩] scope pos) spos) (fun D σ H=>U1 wi tt te σ H fun v H1=>D.nx (σ.set n (some v)) H1):=
 ⟨L2.b3j hN hiy hy hc hcalm hi.h (fun cl C fp s3 H3=>(ht cl C fp s3 H3).h) (fun cl C fp s3 H3=>(he cl C fp s3 H3).h) hsw hs⟩
theorem b7{n:Int}{j}:y'E X (.Constant (.int n) j pos) (tC (.int n)):=⟨L2.c2m⟩
theorem U4{v:Bool}{j}:y'E X (.Constant (.bool v) j pos) (tC (.bl v)):=⟨L2.c4u⟩
theorem a0E{j}:y'E X (.Constant .none j pos) (tC .non):=⟨L2.c2j⟩
theorem w6{j}:y'E X (.Constant (.str x) j pos) (tC (.str x)):=⟨L2.c2f⟩
theorem b6(n:Nat)(hN:X.N[n]? = some x:=by rfl)(hv:Vis X.env.scope x:=by first | exact Or.inl rfl | exact Or.inr (Or.inl rfl) | exact Or.inr (Or.inr rfl))(hd:(x == ("__debug__" : Str))=false:=by decide)
  (hcd:(x == ("__classdict__" : Str))=false:=by decide):y'E X (.Name x pos) (b5 n):=⟨L2.c2d hN hv hd hcd⟩
theorem O7{v:V}{u:Value}(hg:Gl X x)(hm:X.mg x=none)(hv:a0b x=some u)(r:C7 v u)(hn:x ≠ "__name__" := by decide)(hd:(x == ("__debug__" : Str))=false:=by decide):y'E X (.Name x pos) (tC v):=⟨L2.b9A hg hm hv r hn hd⟩
theorem S8{v:V}(hm:∃u,X.mg x=some u/\C7 v u)(hg:Gl X x)(hd:(x == ("__debug__" : Str))=false:=by decide):y'E X (.Name x pos) (tC v):=by
 obtain⟨u,h1,h2⟩:=hm
 exact⟨L2.b9u hg h1 h2 hd⟩
theorem D6{op:a8x}{r:R2}(ho:Q6 X (W2 op) r)(ha:y'E X a ta)(hb:y'E X b tb):y'E X (.BinOp a op b pos) (tOp r ta tb):=⟨L2.c4q ho.h ha.h hb.h⟩
theorem b1g(ha:y'E X a ta):y'E X (.UnaryOp .Not a pos) (a9l ta):=⟨L2.c2i ha.h⟩
theorem V4{op:CmpOp}{r:R2}(ho:Q6 X (o6 op) r)(ha:y'E X a ta)(hb:y'E X b tb)(hm:M7 op b=false):y'E X (.Compare a [op] [b] pos) (tOp r ta tb):=⟨L2.b9y ho.h ha.h hb.h hm⟩
theorem a1e{op:CmpOp}{r:R2}(ho:Q6 X (o6 op) r)(ha:y'E X a ta)(hb:y'E X b tb)(hm:M7 op b=false):y'T X (.Compare a [op] [b] pos) (C9 (tOp r ta tb)):=⟨L2.b9e ho.h ha.h hb.h hm⟩
theorem a7p{op op':CmpOp}{r r':R2}(ho:Q6 X (o6 op) r)(ho':Q6 X (o6 op') r')(ha:y'E X a ta)(hb:y'E X b tb)(hc:y'E X c tc)
  (hm:c3J [op,op'] [b,c]=false:=by with_unfolding_all rfl):y'E X (.Compare a [op,op'] [b,c] pos) (a3s r r' ta tb tc):=⟨L2.b7t ho.h ho'.h ha.h hb.h hc.h hm⟩
theorem b2F{op op':CmpOp}{r r':R2}(ho:Q6 X (o6 op) r)(ho':Q6 X (o6 op') r')(ha:y'E X a ta)(hb:y'E X b tb)(hc:y'E X c tc)
  (hm:c3J [op,op'] [b,c]=false:=by with_unfolding_all rfl):y'T X (.Compare a [op,op'] [b,c] pos) (C9 (a3s r r' ta tb tc)):=⟨L2.b7e ho.h ho'.h ha.h hb.h hc.h hm⟩
theorem O0{op}(h:y'E X a te):y'E X (.BoolOp op [a] pos) te:=⟨L2.c2h h.h⟩
theorem K6(ha:y'E X a ta)(hb:y'E X (.BoolOp .And (b::more) pos) tb):y'E X (.BoolOp .And (a::b::more) pos) (W6 ta tb):=⟨L2.c2q ha.h hb.h⟩
theorem b8w(ha:y'E X a ta)(hb:y'E X (.BoolOp .Or (b::more) pos) tb):y'E X (.BoolOp .Or (a::b::more) pos) (b8G ta tb):=⟨L2.c4p ha.h hb.h⟩
theorem a4u(hc:y'T X c tt)(ha:y'E X a ta)(hb:y'E X b tb):y'E X (.IfExp c a b pos) (tIf tt ta tb):=⟨L2.b7o hc.h ha.h hb.h⟩
theorem Q4{k}(h:y'A X es tr):y'E X (.Tuple es k pos) (a3e tr):=⟨L2.c2e h.h⟩
theorem F6(h:y'A X es tr):y'E X (.List es pos) (a0F tr):=⟨L2.c2l h.h⟩
theorem a1Z:y'O X none a1B:=⟨L2.b9o⟩
theorem a1Y(h:y'E X e te):y'O X (some e) (a6C te):=⟨L2.b9n h.h⟩
theorem a1l{lo hi:Option Expr}{tl th:TO}{r:V->Option Int->Option Int->Hp->VK->Prop}(hr:b6s X r)(he:y'E X e te)(hl:y'O X lo tl)(hu:y'O X hi th):y'E X (.Subscript e (.Slice lo hi none p) pos) (tSl r te tl th):=⟨L2.b7n hr.h he.h hl.h hu.h⟩
theorem b8y{r:R2}(hr:c0K X r)(ha:y'E X a ta)(hb:y'E X b tb)(hs:b0Q b):y'E X (.Subscript a b pos) (tOp r ta tb):=⟨L2.c4s hr.h ha.h hb.h hs⟩
theorem b6m{k j:Nat}{ps:List Str}{sp:Sp}(C:D4 X.prog X.w X.K X.mg X.base k x ps sp)(hr:N8 j X.A)(hk:k<=j)(hg:Gl X x)(ha:y'A X (e::es) tr)
  (hdb:(x == ("__debug__" : Str))=false:=by decide) (he:d8 (e::es) X.env=(false,eval e X.env)::d8 es X.env:=by rfl) (hpl:(V0 pos (d8 es X.env)).any (·.1)=false:=by rfl) :
  y'E X (.Call (.Name x p) (e::es) [] pos) (v4 sp [] E0 tr):=⟨L2.c2g C hr hk hg ha.h hdb he hpl⟩
theorem i9{id:String}{r:List V->Hp->VK->Prop}(hc:X2 X (.builtin id) r)(hg:Gl X x)(hm:X.mg x=none)(hv:a0b x=some (.builtin id))(ha:y'A X (e::es) tr)(hn:x ≠ "__name__" := by decide)(hdb:(x == ("__debug__" : Str))=false:=by decide)
  (he:d8 (e::es) X.env=(false,eval e X.env)::d8 es X.env:=by rfl) (hpl:(V0 pos (d8 es X.env)).any (·.1)=false:=by rfl):y'E X (.Call (.Name x p) (e::es) [] pos) (tCB r tr):=⟨L2.b7u hc.h hg hm hv ha.h hn hdb he hpl⟩
theorem Q5{id:String}{r:List V->Hp->VK->Prop}(hc:X2 X (.type id) r)(hg:Gl X x)(hm:X.mg x=none)(hv:a0b x=some (.type id))(ha:y'A X (e::es) tr)(hn:x ≠ "__name__" := by decide)(hdb:(x == ("__debug__" : Str))=false:=by decide)
  (he:d8 (e::es) X.env=(false,eval e X.env)::d8 es X.env:=by rfl) (hpl:(V0 pos (d8 es X.env)).any (·.1)=false:=by rfl):y'E X (.Call (.Name x p) (e::es) [] pos) (tCB r tr):=⟨L2.b5b hc.h hg hm hv ha.h hn hdb he hpl⟩
theorem a2q{ty id:String}{name:Str}{r:V->List V->Hp->VK->Prop}{apos:Pos}(pa:c0H ty)(slot:Slot ty name id)(hty:typeOf (.builtin id)=pure (.type "method_descriptor"))(hm:a9f X id r)(ho:y'E X o to)(ha:y'A X (e::es) tr)
  (hbase:V1 o name X.env (eval o X.env)=eval o X.env:=by rfl)
  (hfew:((V0 pos (d8 (e::es) X.env)).all (fun x => !x.1)&&(a8w pos (a1P [] X.env)).all (fun x=>x.1.isSome)
   && decide ((e::es).length+([]:List a5K).length+(if([]:List a5K).isEmpty then 0 else 1)<30))=true:=by rfl)
  (hline:(apos.endLine == pos.line)=true:=by rfl) (hs:d8 (e::es) X.env=(false,eval e X.env)::d8 es X.env:=by rfl) (hplain:(V0 pos (d8 es X.env)).any (·.1)=false:=by rfl) :
  y'E X (.Call (.Attribute o name apos) (e::es) [] pos) (tBM X.K ty r to tr):=⟨L2.c4t pa slot hty hm.h ho.h ha.h hbase hfew hline hs hplain⟩
theorem W5(ha:y'T X a tt):y'T X (.UnaryOp .Not a pos) (a4v tt):=⟨L2.c1U ha.h⟩
theorem Z6(ha:y'T X a tt):y'W X (.BoolOp .And [a] pos) tt:=⟨L2.b9a ha.h⟩
theorem a0d(ha:y'T X a tt):y'W X (.BoolOp .Or [a] pos) tt:=⟨L2.c1R ha.h⟩
theorem a0C(ha:y'T X a tt)(hb:y'W X (.BoolOp .And (b::more) pos) tu):y'W X (.BoolOp .And (a::b::more) pos) (a7A tt tu):=⟨L2.c1S ha.h hb.h⟩
theorem a0X(ha:y'T X a tt)(hb:y'W X (.BoolOp .Or (b::more) pos) tu):y'W X (.BoolOp .Or (a::b::more) pos) (tOr tt tu):=⟨L2.c4n ha.h hb.h⟩
theorem Q3(h:y'W X e tt):y'T X e tt:=⟨PW.pt h.h⟩
theorem N9(h:y'E X e te)(he:∀whole,isTrue e X.env whole=(do let v <-whole;b6e e.pos;a3l [v] (truthy v)):=by intro _;rfl):y'T X e (tB te):=⟨L2.c1T h.h he⟩
theorem N6:Q6 X (W2 .Add) a1R:=⟨L2.b9M⟩
theorem a5L:Q6 X (W2 .Sub) b7a:=⟨L2.b9C⟩
theorem a2e:Q6 X (W2 .Mult) b3f:=⟨L2.b9F⟩
theorem X0:Q6 X (W2 .Mod) a7O:=⟨L2.b9G⟩
theorem a9e:Q6 X (W2 .FloorDiv) b8Z:=⟨L2.b9L⟩
theorem C5{k:Nat}(hr:N8 k X.A):Q6 X (o6 .Eq) qEq:=⟨L2.c2A hr.units0⟩
theorem a2d{k:Nat}(hr:N8 k X.A):Q6 X (o6 .NotEq) qNe:=⟨L2.c2t hr.units0⟩
theorem X1:X2 X (.type "list") a1J:=⟨L2.b3N⟩
theorem a0f:Q6 X (o6 .Lt) qLt:=⟨L2.c2u⟩
theorem a4T:Q6 X (o6 .LtE) qLe:=⟨L2.c2v⟩
theorem a2f:Q6 X (o6 .Gt) qGt:=⟨L2.c2y⟩
theorem b6q:Q6 X (o6 .GtE) qGe:=⟨L2.c2z⟩
theorem a1m:Q6 X (o6 .In) (qIn false):=⟨L2.c2x⟩
theorem b1i:Q6 X (o6 .Is) qIs:=⟨L2.c2w⟩
theorem a6x:Q6 X (o6 .IsNot) a7P:=⟨L2.b5d⟩
theorem a0s:y'E X (.Dict [] [] pos) a2s:=⟨L2.b7q⟩
theorem a2c{k:Nat}(hr:N8 k X.A)(ho:y'E X o to)(hi:y'E X i ti)(hs:c3n i):y'E X (.Subscript o i pos) (a6D to ti):=⟨L2.b9w (a6I hr) ho.h hi.h hs⟩
theorem b6o{k:Nat}(hr:N8 k X.A)(hi:y'E X i ti)(ho:y'E X o to)(h1:M7 .In o=false):y'E X (.Compare i [.In] [o] pos) (a8C ti to):=⟨L2.c2o (L2.b7v (a6I hr) hi.h ho.h) h1⟩
theorem a7k{k:Nat}(hr:N8 k X.A)(hi:y'E X i ti)(ho:y'E X o to)(h1:M7 .In o=false):y'T X (.Compare i [.In] [o] pos) (tB (a8C ti to)):=⟨L2.b7d (L2.b7v (a6I hr) hi.h ho.h) h1⟩
theorem W9{k:Nat}(hr:N8 k X.A)(ho:y'E X o to)(hi:y'E X i ti)(hv:y'E X e te)(hs:a1i e (some (.Subscript o i pos')) pos.line X.env=pure false:=by rfl):y'S X (.Assign [.Subscript o i pos'] e pos) (a0T to ti te):=⟨L2.b9j (a6I hr) ho.h hi.h hv.h hs⟩
theorem b6l{tg:Expr}(h:y'E X e te):a9K X tg e (c0i te):=⟨L2.c2b h.h⟩
theorem a6y(hc:X.calm=true):X2 X (.builtin "all") b0d:=⟨L2.b5L hc⟩
theorem c1m:c0K X qIx:=⟨L2.c5f⟩
theorem a9J:b6s X qSl:=⟨L2.c4U⟩
theorem b4A:b6s X (c1H X.K):=⟨L2.b3Z⟩
theorem a3N:b2H X a6Q:=⟨L2.c3M⟩
theorem b8z:b6u X b4Y:=⟨L2.c4B⟩
theorem b1k:b6t X .Add (ipI fun i j=>i+j):=⟨L2.c3b⟩
theorem o4:X2 X (.builtin "len") Q1:=⟨L2.b5I⟩
theorem b1o:X2 X (.builtin "abs") b7c:=⟨L2.b5M⟩
theorem J3:X2 X (.builtin "isinstance") a2D:=⟨L2.b5J⟩
theorem a0Y:a9f X "list.append" a0y:=⟨L2.b3y⟩
end
theorem b1l{P:v8}{w:World}{K:Fg}{mg:Str->Option Value}{base:Heap}{x qual:Str}{st:Stmt}{f:Addr}{fd:W3}{N ps:List Str}{k:Nat}{sp:Sp}(F:Fun K x qual st f fd)(y'S:z8 N ps (i8 st))(len:∀vs H Q y'E,sp vs H Q y'E->vs.length=ps.length)
  (hbody:∀(cdv:Value) (y'A:G8) (outer:List Env) (s:g7) (H:Hp) (vs:List V) (Q:VK) (y'E:XK),N8 k (y'A.deeper (b1e qual (i8 st) s.heap.objs.size f cdv))->sp vs H Q y'E ->
   ∃t,a7r (b2g CX0 P w K mg base N qual (i8 st) f cdv y'A outer s H y'E).nox (a0j st) t/\t { nx:=fun _ H'=>Q .non H',rt:=Q } (a5a N vs) H):J9 P w K mg base CX0 (k+1) f fd ps sp:=
 F.ok y'S len fun cdv y'A outer s H vs Q y'E hr h=>let⟨t,a,b⟩:=hbody cdv y'A outer s H vs Q y'E hr h; ⟨t,a.h,b⟩
end Y
namespace Y
open PySem PySem.Spec PyProof.Rows L2
section
variable {X:Cx}{st:Stmt}{a3Z:List Stmt}{t u:TS}{e a b c o i:Expr}{es more:List Expr}{te ta tb tc to ti:TE}{tt tu:TT}{tr:TA}{pos p pos':Pos}{x y:Str}
theorem a2a{elts:List Expr}{x1}{tp:Pos}(hg:Gl X "enumerate")(hm:X.mg "enumerate" = none)(ha:y'A X [a] tr)(hs:d8 [a] X.env=[(false,eval a X.env)]:=by rfl) :
  a9K X (.Tuple elts x1 tp) (.Call (.Name "enumerate" p) [a] [] pos) (a6H X.K tr):=⟨L2.b9r hg hm ha.h hs⟩
theorem b6k{elts:List Expr}{x1}{tp:Pos}(hg:Gl X "zip")(hm:X.mg "zip" = none)(ha:y'A X [a,b] tr)(hs:d8 [a,b] X.env=[(false,eval a X.env),(false,eval b X.env)]:=by rfl)(hs2:d8 [b] X.env=[(false,eval b X.env)]:=by rfl) :
  a9K X (.Tuple elts x1 tp) (.Call (.Name "zip" p) [a,b] [] pos) (c0h X.K tr):=⟨L2.c2a hg hm ha.h hs hs2⟩
theorem a7o{elt iter:Expr}{px py pt:Pos}{kt}{ifs:List Expr}{scope:Scope}{wi:TI}(hc:a2S X.N X.env.scope scope x y)(hcalm:X.calm=true)(hi:a9K X (.Tuple [.Name x px,.Name y py] kt pt) iter wi)
  (ht:∀cl C fp s3 H3,b6r (O3 X scope cl C x y fp s3 H3) ifs tt) (he:∀cl C fp s3 H3,y'E (O3 X scope cl C x y fp s3 H3) elt te)
  (hs:∀x,L1 iter X.env x=pure x:=by intro _;rfl):y'E X (.ListComp elt [⟨.Tuple [.Name x px,.Name y py] kt pt,iter,ifs,0⟩] scope pos) (a7z X.K wi tt te):=
 ⟨L2.b7s hc hcalm hi.h (fun cl C fp s3 H3=>(ht cl C fp s3 H3).h) (fun cl C fp s3 H3=>(he cl C fp s3 H3).h) hs⟩
theorem a4t{body:List Stmt}(hp:b1f (model X.prog X.w) X.A X.env X.xe)(hc:y'T X c tt)(hb:a7r X body t):y'S X (.While c body [] pos) (a5P tt t):=⟨L2.b7g hp hc.h hb.h⟩
theorem a1k{e c:Option Expr}:y'S X (.Raise e c pos) (fun _ _ _=>False):=⟨L2.b7h⟩
theorem Y1{f:Str}(he:y'E X e te)(hb:V1 e f X.env (eval e X.env)=eval e X.env:=by rfl):y'E X (.Attribute e f pos) (a5Q X.K te f):=⟨L2.c2n he.h hb⟩
theorem a7l{f:Str}(ha:y'E X o to)(hv:y'E X e te)(hs:a1i e (some (.Attribute o f pos')) pos.line X.env=pure false:=by rfl):y'S X (.Assign [.Attribute o f pos'] e pos) (b4W X.K to te f):=⟨L2.c1X ha.h hv.h hs⟩
theorem b8x{k j:Nat}{C:Addr}{ps:List Str}{sp:Sp}(M:b2v X.prog X.w X.K X.mg X.base k x C ps sp)(hr:N8 j X.A)(hk:k+1<=j)(hg:Gl X x)(ha:y'A X (e::es) tr)
  (hdb:(x == ("__debug__" : Str))=false:=by decide) (he:d8 (e::es) X.env=(false,eval e X.env)::d8 es X.env:=by rfl) (hpl:(V0 pos (d8 es X.env)).any (·.1)=false:=by rfl) :
  y'E X (.Call (.Name x p) (e::es) [] pos) (a9m C sp [] E0 tr):=⟨L2.c4r M hr hk hg ha.h hdb he hpl⟩
theorem b6n{pl:Sem Bool}{k j:Nat}{m:Str}{C:Addr}{ps:List Str}{sp:Sp}{apos:Pos}(M:a7e X.prog X.w X.K X.mg X.base k m C ps sp)(hr:N8 j X.A)(hk:k<=j)(ho:y'E X o to)(ha:y'A X (e::es) tr)
  (hst:d8 (e::es) X.env=(false,eval e X.env)::d8 es X.env:=by rfl) (hpl:(V0 pos (d8 es X.env)).any (·.1)=false:=by rfl)
  (ht:eval (.Call (.Attribute o m apos) (e::es) [] pos) X.env=(do
   let ov <-eval o X.env
   b6e apos.atName
   let(f,first) <-a3l [ov] (b6f ov m pl)
   callWith pos f first (V0 pos (d8 (e::es) X.env)) (a8w pos (a1P [] X.env))):=by rfl) :
  y'E X (.Call (.Attribute o m apos) (e::es) [] pos) (b1v C m sp [] E0 to tr):=⟨L2.c2k (pl:=pl) M hr hk ho.h ha.h hst hpl ht⟩
theorem b6p{ty id:String}{name:Str}{r:V->List V->Hp->VK->Prop}{apos:Pos}(pa:c0H ty)(slot:Slot ty name id)(hty:typeOf (.builtin id)=pure (.type "method_descriptor"))(hm:a9f X id r)(ho:y'E X o to)
  (hbase:V1 o name X.env (eval o X.env)=eval o X.env:=by rfl) (hline:(apos.endLine == pos.line)=true:=by rfl):y'E X (.Call (.Attribute o name apos) [] [] pos) (b8H X.K ty r to):=⟨L2.c2p pa slot hty hm.h ho.h hbase hline⟩
structure b8A(X:Cx)(pos:Pos)(ks:List (Option Expr))(vs:List Expr)(trs:List (TE×TE)):Prop where h:PPs X pos ks vs trs
theorem a9b:b8A X pos [] [] []:=⟨L2.b9l⟩
theorem a7m{ks:List (Option Expr)}{vs:List Expr}{trs:List (TE×TE)}(hk:y'E X a ta)(hv:y'E X b tb)(hr:b8A X pos ks vs trs):b8A X pos (some a::ks) (b::vs) ((ta,tb)::trs):=⟨L2.b7j hk.h hv.h hr.h⟩
theorem a9c{keys:List (Option Expr)}{values:List Expr}{trs:List (TE×TE)}(h:b8A X pos keys values trs)(hall:keys.all (·.isSome)=true:=by rfl)(hl:keys.length=values.length:=by rfl)(h0:keys≠[]:=by intro z;cases z)
  (h15:keys.length<=15:=by decide):y'E X (.Dict keys values pos) (b1w trs):=⟨L2.b9v h.h hall hl h0 h15⟩
theorem a0D{k:Nat}(hr:N8 k X.A)(hi:y'E X i ti)(ho:y'E X o to)(h1:M7 .NotIn o=false):y'T X (.Compare i [.NotIn] [o] pos) (tB (a0Z ti to)):=⟨L2.b7d (L2.b5c (a6I hr) hi.h ho.h) h1⟩
theorem b1m(hc:X.calm=true):X2 X (.builtin "min") b7b:=⟨L2.b5H hc⟩
theorem b1n(hc:X.calm=true):X2 X (.builtin "any") b3h:=⟨L2.b5K hc⟩
theorem a7q:X2 X (.builtin "sorted") a3V:=⟨L2.b0B⟩
theorem a4j(hc:X.calm=true):X2 X (.type "list") a3x:=⟨L2.b2r hc⟩
theorem b1j:a9f X "list.index" a6a:=⟨L2.b5l⟩
theorem a4U:a9f X "list.extend" a2E:=⟨L2.b3x⟩
theorem b4J:a9f X "list.pop" b4X:=⟨L2.b9X⟩
theorem a9d{k:Nat}(hr:N8 k X.A):Q6 X (o6 .Eq) (b8Y X.K):=⟨L2.b9I hr⟩
theorem b4I{k:Nat}(hr:N8 k X.A):Q6 X (o6 .Eq) (c1Q X.K):=⟨L2.b9K hr⟩
theorem b4G:Q6 X (o6 .In) (c1O X.K):=⟨L2.b9H⟩
end
end Y
namespace Y
open PySem PySem.Spec PyProof.Rows L2
end Y
namespace Y
open PySem PySem.Spec PyProof.Rows L2
end Y
namespace Y
open PySem PySem.Spec PyProof.Rows L2
end Y
namespace Y
open PySem PySem.Spec PyProof.Rows L2
end Y
namespace Y
open PySem PySem.Spec PyProof.Rows L2
end Y
namespace Y
open PySem PySem.Spec PyProof.Rows L2
section
variable {X:Cx}{e0 e1 e2 e3 e4:Expr}{t0 t1 t2 t3 t4:TE}
theorem l9(h0:y'E X e0 t0)(s0:d8 [e0] X.env=(false,eval e0 X.env)::d8 [] X.env:=by rfl):y'A X [e0] (a9 t0 j5):=(E6 h0 Y2 s0)
theorem C1(h0:y'E X e0 t0)(h1:y'E X e1 t1)(s0:d8 [e0,e1] X.env=(false,eval e0 X.env)::d8 [e1] X.env:=by rfl)(s1:d8 [e1] X.env=(false,eval e1 X.env)::d8 [] X.env:=by rfl):y'A X [e0,e1] (a9 t0 (a9 t1 j5)):=(E6 h0 (E6 h1 Y2 s1) s0)
theorem a3o(h0:y'E X e0 t0)(h1:y'E X e1 t1)(h2:y'E X e2 t2)(s0:d8 [e0,e1,e2] X.env=(false,eval e0 X.env)::d8 [e1,e2] X.env:=by rfl)(s1:d8 [e1,e2] X.env=(false,eval e1 X.env)::d8 [e2] X.env:=by rfl)(s2:d8 [e2] X.env=(false,eval e2 X.env)::d8 [] X.env:=by rfl):y'A X [e0,e1,e2] (a9 t0 (a9 t1 (a9 t2 j5))):=(E6 h0 (E6 h1 (E6 h2 Y2 s2) s1) s0)
theorem b1h(h0:y'E X e0 t0)(h1:y'E X e1 t1)(h2:y'E X e2 t2)(h3:y'E X e3 t3)(s0:d8 [e0,e1,e2,e3] X.env=(false,eval e0 X.env)::d8 [e1,e2,e3] X.env:=by rfl)(s1:d8 [e1,e2,e3] X.env=(false,eval e1 X.env)::d8 [e2,e3] X.env:=by rfl)(s2:d8 [e2,e3] X.env=(false,eval e2 X.env)::d8 [e3] X.env:=by rfl)(s3:d8 [e3] X.env=(false,eval e3 X.env)::d8 [] X.env:=by rfl):y'A X [e0,e1,e2,e3] (a9 t0 (a9 t1 (a9 t2 (a9 t3 j5)))):=(E6 h0 (E6 h1 (E6 h2 (E6 h3 Y2 s3) s2) s1) s0)
theorem c0J(h0:y'E X e0 t0)(h1:y'E X e1 t1)(h2:y'E X e2 t2)(h3:y'E X e3 t3)(h4:y'E X e4 t4)(s0:d8 [e0,e1,e2,e3,e4] X.env=(false,eval e0 X.env)::d8 [e1,e2,e3,e4] X.env:=by rfl)(s1:d8 [e1,e2,e3,e4] X.env=(false,eval e1 X.env)::d8 [e2,e3,e4] X.env:=by rfl)(s2:d8 [e2,e3,e4] X.env=(false,eval e2 X.env)::d8 [e3,e4] X.env:=by rfl)(s3:d8 [e3,e4] X.env=(false,eval e3 X.env)::d8 [e4] X.env:=by rfl)(s4:d8 [e4] X.env=(false,eval e4 X.env)::d8 [] X.env:=by rfl):y'A X [e0,e1,e2,e3,e4] (a9 t0 (a9 t1 (a9 t2 (a9 t3 (a9 t4 j5))))):=(E6 h0 (E6 h1 (E6 h2 (E6 h3 (E6 h4 Y2 s4) s3) s2) s1) s0)
end
end Y
local macro_rules | `(tactic| walk_at "sc") => `(tactic| exact ⟨rfl, rfl, rfl, by decide +kernel, rfl, by decide +kernel, by decide +kernel⟩)
namespace Y
open PySem PySem.Spec PyProof.Rows L2
section
variable {X:Cx}{e a b o:Expr}{es:List Expr}{te ta tb to:TE}{tr:TA}{pos p pos':Pos}{x:Str}
theorem u6(n:Nat)(hN:X.N.Nodup)(he:y'E X e te)(hi:X.N[n]? = some x:=by rfl)(hx:Loc X.env.scope x:=by first | exact Or.inl rfl | exact Or.inr rfl)(hs:a1i e (some (.Name x pos')) pos.line X.env=pure false:=by rfl)(hf:X.fn x=true\/X.env.scope.names.lookup x=some .local:=by first | exact .inl rfl | exact .inr rfl) :
  y'S X (.Assign [.Name x pos'] e pos) (D8 te (o0 n)):=b6i hN hi hx he hs hf
theorem J0(n:Nat)(hN:X.N.Nodup)(hi:X.N[n]? = some x:=by rfl)(hx:Loc X.env.scope x:=by first | exact Or.inl rfl | exact Or.inr rfl)(hf:X.fn x=true\/X.env.scope.names.lookup x=some .local:=by first | exact .inl rfl | exact .inr rfl):y'G X (.Name x pos) (o0 n):=b4D hN hi hx hf
theorem q9{k j:Nat}{ps:List Str}{sp:Sp}(C:D4 X.prog X.w X.K X.mg X.base k x ps sp)(hr:N8 j X.A)(ha:y'A X (e::es) tr)(hk:k<=j:=by decide)(hg:Gl X x:=by rfl)
  (hdb:(x == ("__debug__" : Str))=false:=by decide) (he:d8 (e::es) X.env=(false,eval e X.env)::d8 es X.env:=by rfl) (hpl:(V0 pos (d8 es X.env)).any (·.1)=false:=by rfl) :
  y'E X (.Call (.Name x p) (e::es) [] pos) (v4 sp [] E0 tr):=b6m C hr hk hg ha hdb he hpl
theorem c1l{k j:Nat}{C:Addr}{ps:List Str}{sp:Sp}(M:b2v X.prog X.w X.K X.mg X.base k x C ps sp)(hr:N8 j X.A)(ha:y'A X (e::es) tr)(hk:k+1<=j:=by decide)(hg:Gl X x:=by rfl)
  (hdb:(x == ("__debug__" : Str))=false:=by decide) (he:d8 (e::es) X.env=(false,eval e X.env)::d8 es X.env:=by rfl) (hpl:(V0 pos (d8 es X.env)).any (·.1)=false:=by rfl) :
  y'E X (.Call (.Name x p) (e::es) [] pos) (a9m C sp [] E0 tr):=b8x M hr hk hg ha hdb he hpl
theorem o9(ha:y'E X a ta)(hb:y'E X b tb)(hs:b0Q b:=by exact fun _ _=>rfl):y'E X (.Subscript a b pos) (tOp qIx ta tb):=b8y c1m ha hb hs
theorem a1Q{op:CmpOp}{r:R2}(ho:Q6 X (o6 op) r)(ha:y'E X a ta)(hb:y'E X b tb)(hm:M7 op b=false:=by exact a3C _):y'E X (.Compare a [op] [b] pos) (tOp r ta tb):=V4 ho ha hb hm
theorem C8{op:CmpOp}{r:R2}(ho:Q6 X (o6 op) r)(ha:y'E X a ta)(hb:y'E X b tb)(hm:M7 op b=false:=by exact a3C _):y'T X (.Compare a [op] [b] pos) (C9 (tOp r ta tb)):=a1e ho ha hb hm
end
end Y
namespace Y
open PySem PySem.Spec PyProof.Rows L2
section
variable {X:Cx}{e o i:Expr}{te to ti:TE}{t:TS}{pos p:Pos}{k:Nat}
theorem b2G:y'E X (.Dict [] [] pos) b2O:=⟨L2.b7p⟩
theorem a8B(hc:X.calm=true):X2 X (.type "list") b3g:=⟨L2.b2q hc⟩
end
end Y
namespace Y
open PySem PySem.Spec PyProof.Rows L2
end Y
namespace Y
open PySem PySem.Spec PyProof.Rows L2
section
variable {X:Cx}{i o:Expr}{ti to:TE}{pos:Pos}{k:Nat}
end
end Y
namespace Y
open PySem PySem.Spec PyProof.Rows L2
section
variable {X:Cx}{k:Nat}
theorem b4F(hr:N8 k X.A):Q6 X (o6 .NotEq) b8X:=⟨L2.b9E hr.units0⟩
theorem b4H(hr:N8 k X.A):Q6 X (o6 .Eq) c1P:=⟨L2.b9J (a6I hr)⟩
theorem b4E(hr:N8 k X.A):Q6 X (o6 .NotEq) c1N:=⟨L2.b9D (a6I hr)⟩
theorem a8A:X2 X (.builtin "sorted") b3e:=⟨L2.b2p⟩
theorem a7n{o e:Expr}{to te:TE}{apos pos:Pos}(hr:N8 k X.A)(ho:y'E X o to)(he:y'E X e te)(m1:V1 o "get" X.env (eval o X.env)=eval o X.env:=by rfl)
  (m2:((V0 pos (d8 [e] X.env)).all (fun x => !x.1)&&(a8w pos (a1P [] X.env)).all (fun x=>x.1.isSome)
   && decide (([e]:List Expr).length+([]:List a5K).length+(if([]:List a5K).isEmpty then 0 else 1)<30))=true:=by rfl)
  (m3:(apos.endLine == pos.line)=true:=by rfl) (m4:V0 pos (d8 [e] X.env)=[(false,eval e X.env)]:=by rfl) :
  y'E X (.Call (.Attribute o "get" apos) [e] [] pos) (a5R to te):=⟨L2.b7r (a6I hr) ho.h he.h ⟨m1,m2,m3,m4⟩⟩
end
end Y
namespace Y
open PySem PySem.Spec PyProof.Rows L2
section
variable {X:Cx}{e o i:Expr}{te to ti:TE}{t:TS}{pos p:Pos}{k:Nat}
theorem a9a{tg:Expr}{g:TG}{body:List Stmt}(hp:b1f (model X.prog X.w) X.A X.env X.xe)(hc:X.calm=true)(hl:y'E X e te)(hg:y'G X tg g)(hb:a7r X body t)
  (hs:∀x,L1 e X.env x=pure x:=by intro _;rfl):y'S X (.For tg e body [] pos) (b3X te g t):=⟨L2.b9h hp hc hl.h hg.h hb.h hs⟩
end
end Y
namespace RD
open PySem PySem.Spec L2
variable{C a b c d dx na p ra:Addr}{H H' H0 H1:Hp}{o:HO}{vs xs ys:List V}{D:a6s}{σ:St}{ta te:TE}{tt:TT}{Q:VK}{v w:V}{z:Str}{ks l:List Nat}{QD:Hp->Prop}{R:It->Hp->Prop}{M N:Nt}{ns:List Int}{as rs:List Addr}{i m:Nat}{Do:Nat->Bool}{kvs:List (Key×V)}{RC:Nat->List V}{ss:List Str}
def D3(b:Addr)(H H':Hp):Prop:=(∀a o,H a=some o->a≠b->H' a=some o)/\∀o,H b=some o->∃o',H' b=some o'
theorem D3.refl(b:Addr)(H:Hp):D3 b H H:=⟨fun _ _ h _=>h,fun o h=>⟨o,h⟩⟩
theorem D3.trans{H2:Hp}(x:D3 b H H1)(y:D3 b H1 H2):D3 b H H2:=
 ⟨fun a o h n=>y.1 a o (x.1 a o h n) n,fun o h=>let⟨o',h'⟩:=x.2 o h;y.2 o' h'⟩
theorem D3.upd(b:Addr)(H:Hp)(o:HO):D3 b H (upd H b o):=⟨fun a u h n=>by rw[c9 n];exact h,fun _ _=>⟨o,c6⟩⟩
theorem D3.new(h:H p=none):D3 b H (L2.upd H p o):=
 ⟨fun a u e _=>by rw[c9 (c7 e h)];exact e,fun u e=>⟨u,by rw[c9 (c7 e h)];exact e⟩⟩
theorem D3.of_same(s:o7 H H'):D3 b H H':=⟨fun a o h _=>s a o h,fun o h=>⟨o,s _ _ h⟩⟩
theorem v0(h:H p=none):o7 H (L2.upd H p o):=fun a u e=>by rw[c9 (c7 e h)];exact e
theorem D3.none(k:D3 b H H')(h:H' p=Option.none):H p=Option.none:=by
 cases e:H p with
 | none=>rfl
 | some o=>
  by_cases z:p=b
  ·subst z
   obtain⟨o',h'⟩:=k.2 o e
   rw[h]at h'
   cases h'
  ·rw[k.1 p o e z]at h
   cases h
theorem D3.tup{b a:Addr}{H H':Hp}{xs ys:List V}(k:D3 b H H')(hb:H b=some (.lst ys))(h:H a=some (.tup xs)):H' a=some (.tup xs):=
 k.1 a _ h (G5 h hb (by intro z;cases z))
structure Bag(H:Hp)(b c:Addr):Prop where
 ex:∃(i0 i1 i2:Int) (ns:List Int),H b=some (.lst [.int i0,.int i1,.int i2,.ref c])/\H c=some (.lst (ns.map V.int))/\0<=i0/\0<=i1/\i1<2147483647/\0<=i2/\∀x∈ns,0<=x
theorem Bag.lst{H:Hp}{b c:Addr}(h:Bag H b c):∃xs,H b=some (.lst xs):=by
 obtain⟨i0,i1,i2,ns,h,_⟩:=h.ex
 exact⟨_,h⟩
theorem Bag.same(h:Bag H b c)(s:o7 H H'):Bag H' b c:=by
 obtain⟨i0,i1,i2,ns,h1,h2,r⟩:=h.ex
 exact⟨i0,i1,i2,ns,s _ _ h1,s _ _ h2,r⟩
theorem Bag.new(h:Bag H b c)(n:H p=none):Bag (L2.upd H p o) b c:=h.same (v0 n)
theorem Bag.put(h:Bag H b c)(n1:p≠b)(n2:p≠c):Bag (L2.upd H p o) b c:=by
 obtain⟨i0,i1,i2,ns,h1,h2,r⟩:=h.ex
 exact⟨i0,i1,i2,ns,by rw[c9 n1.symm];exact h1,by rw[c9 n2.symm];exact h2,r⟩
theorem Bag.nb(h:Bag H b c)(n:H p=none):p≠b/\p≠c:=by
 obtain⟨i0,i1,i2,ns,h1,h2,r⟩:=h.ex
 exact⟨(c7 h1 n).symm,(c7 h2 n).symm⟩
theorem D3.put(k:D3 b H H')(n:H p=Option.none):D3 b H (L2.upd H' p o):=
 ⟨fun a u e z=>by rw[c9 (c7 e n)];exact k.1 a u e z,fun u e=>by
  obtain⟨o',h⟩:=k.2 u e
  exact⟨o',by rw[c9 (c7 e n)];exact h⟩⟩
theorem a3f{α:Type}(a:α)(r:List α):atI (a::r) 0=some a:=by
 have := @M3 α (a::r) 0 a rfl
 simpa using this
theorem a2Q{α:Type}(a b:α)(r:List α):atI (a::b::r) 1=some b := @M3 α (a::b::r) 1 b rfl
theorem a8T{α:Type}(a b c:α)(r:List α):atI (a::b::c::r) 2=some c := @M3 α (a::b::c::r) 2 c rfl
theorem c4F{α:Type}(a b c d:α)(r:List α):atI (a::b::c::d::r) 3=some d := @M3 α (a::b::c::d::r) 3 d rfl
theorem a1T{α:Type}{xs:List α}{i:Int}(h0:0<=i)(h1:i<xs.length):∃v,atI xs i=some v/\xs[i.toNat]? = some v:=by
 have hl:i.toNat<xs.length:=by omega
 have e:xs[i.toNat]? = some (xs[i.toNat]'hl):=by simp[hl]
 refine⟨_,?_,e⟩
 have:=M3 e
 rwa [Int.toNat_of_nonneg h0]at this
section
variable {t u:TS}{tb tc to ti:TE}{tu:TT}{tr:TA}{QB:Bool->Hp->Prop}{QA:List V->Hp->Prop}{QO:Option Int->Hp->Prop}{x y:V}{i j:Int}{n:Nat}{r r':R2}{K:Fg}
theorem Q7(h:t { D with nx:=u D } σ H):u7 t u D σ H:=h
theorem a0S{P:St->Hp->Prop}(tail:∀σ H,P σ H->u D σ H)(main:∀nx:St->Hp->Prop,(∀σ H,P σ H->nx σ H)->t { D with nx:=nx } σ H):u7 t u D σ H:=main _ tail
theorem c0S{g:TG}(h:te σ H fun x H1=>g x σ H1 D.nx):D8 te g D σ H:=h
theorem a3U{QS:St->Hp->Prop}(h:QS (σ.set n (some v)) H):o0 n v σ H QS:=h
theorem c1z{QS:St->Hp->Prop}{ts:a8U}(h:to σ H fun o H1=>ti σ H1 fun i H2=>ts o i v H2 fun H3=>QS σ H3):b0t to ti ts v σ H QS:=h
theorem c0Q(h:te σ H D.rt):J7 te D σ H:=h
theorem b6P(h:te σ H fun _ H1=>D.nx σ H1):a0G te D σ H:=h
theorem c3V(h:tt σ H fun b H1=>if b=true then t D σ H1 else u D σ H1):J8 tt t u D σ H:=h
theorem b6N(h:D.nx σ H):D0 D σ H:=h
theorem c1s(h:te σ H fun x H'=>∃k,x=.bl k/\QB k H'):C9 te σ H QB:=h
theorem c3P(h:te σ H fun x H'=>∃k,x=.bl k/\QB k H'):tB te σ H QB:=h
theorem c3S(h:tt σ H fun c H1=>QB (!c) H1):a4v tt σ H QB:=h
theorem c3Y(h:tt σ H fun c H1=>if c=true then tu σ H1 QB else QB false H1):a7A tt tu σ H QB:=h
theorem c4W(h:tt σ H fun c H1=>if c=true then QB true H1 else tu σ H1 QB):tOr tt tu σ H QB:=h
theorem c1C(h:ta σ H fun x H1=>∃c,x=.bl c/\if c=true then tb σ H1 Q else Q (.bl false) H1):W6 ta tb σ H Q:=h
theorem c3Q(h:ta σ H fun x H1=>∃c,x=.bl c/\if c=true then Q (.bl true) H1 else tb σ H1 Q):b8G ta tb σ H Q:=h
theorem c1u(h:ta σ H fun x H1=>∃c,x=.bl c/\Q (.bl (!c)) H1):a9l ta σ H Q:=h
theorem c3U(h:tt σ H fun c H1=>if c=true then ta σ H1 Q else tb σ H1 Q):tIf tt ta tb σ H Q:=h
theorem c3R(h:ta σ H fun x H1=>tb σ H1 fun y H2=>r x y H2 Q):tOp r ta tb σ H Q:=h
theorem b8T(h:ta σ H fun x H1=>tb σ H1 fun y H2=>r x y H2 fun z H3=>∃k,z=.bl k/\(if k=true then tc σ H3 fun w' H4=>r' y w' H4 Q else Q (.bl false) H3)):a3s r r' ta tb tc σ H Q:=h
theorem a5e(e:σ[n]? = some (some v))(h:Q v H):b5 n σ H Q:=⟨v,e,h⟩
theorem s_c(h:Q v H):tC v σ H Q:=h
theorem b0b(h:te σ H fun x H1=>tr σ H1 fun xs H2=>QA (x::xs) H2):a9 te tr σ H QA:=h
theorem b6M(h:QA [] H):j5 σ H QA:=h
theorem c1A{sp:Sp}{E:XK}(h:tr σ H fun vs H1=>sp (vs++[]) H1 Q E):v4 sp [] E tr σ H Q:=h
theorem c4X{f:List V->Hp->VK->Prop}(h:tr σ H fun vs H1=>f vs H1 Q):tCB f tr σ H Q:=h
def New(o:HO)(n:Nat)(H:Hp)(Q:VK):Prop:=n<=j9/\∀p,H p=none->Q (.ref p) (upd H p o)
theorem J5(hl:n<=100000)(h:∀p H',H p=none->H' p=some o->o7 H H'->Q (.ref p) H'):New o n H Q:=
 ⟨C2 hl (by rw[a2o];decide),fun p hp=>h p _ hp c6 (v0 hp)⟩
theorem c0P(h:tr σ H fun xs H1=>New (.tup xs) xs.length H1 Q):a3e tr σ H Q:=h
theorem c3T(h:tr σ H fun xs H1=>New (.lst xs) xs.length H1 Q):a0F tr σ H Q:=h
theorem c4V{f:V->Option Int->Option Int->Hp->VK->Prop}{tl th:TO}(h:te σ H fun x H1=>tl σ H1 fun l H2=>th σ H2 fun u H3=>f x l u H3 Q):tSl f te tl th σ H Q:=h
theorem c1t(h:te σ H fun x H1=>∃i,x=.int i/\QO (some i) H1):a6C te σ H QO:=h
theorem b6L(h:QO none H):a1B σ H QO:=h
theorem b2Y(h:QB true H):T8 σ H QB:=h
theorem b3d{f:V->List V->Hp->VK->Prop}(h:to σ H fun x H1=>tyV K "list" x H1/\tr σ H1 fun xs H2=>f x xs H2 Q):tBM K "list" f to tr σ H Q:=h
theorem c1B{tget:V->V->Hp->VK->Prop}{tip:TIp}{tset:a8U}(h:to σ H fun o H1=>ti σ H1 fun i H2=>tget o i H2 fun x H3=>te σ H3 fun y H4=>tip x y H4 fun z H5=>tset o i z H5 fun H6=>D.nx σ H6):b3Y to ti te tget tip tset D σ H:=h
theorem c4l(h:Q (.int (i+j)) H):a1R (.int i) (.int j) H Q:=h
theorem c1M{a b:Str}(hl:a.length+b.length<=j9)(h:Q (.str (a++b)) H):a1R (.str a) (.str b) H Q:=⟨hl,h⟩
theorem b6Z(ha:H a=some (.lst xs))(hb:H b=some (.lst ys))(h:New (.lst (xs++ys)) (xs.length+ys.length) H Q):a1R (.ref a) (.ref b) H Q:=by
 unfold a1R
 simp only[ha,hb]
 exact h
theorem c1K{g:Int->Int->V}(h:Q (g i j) H):b1I g (.int i) (.int j) H Q:=h
theorem a1r{C:Int->Int->Prop}{g:Int->Int->V}(hc:C i j)(h:Q (g i j) H):q2I C g (.int i) (.int j) H Q:=⟨hc,h⟩
theorem c5c{f:Int->Int->Int}(h:Q (.int (f i j)) H):ipI f (.int i) (.int j) H Q:=⟨i,j,rfl,rfl,h⟩
theorem E7(hp:H p=some (.lst xs))(he:atI xs i=some v)(h:Q v H):qIx (.ref p) (.int i) H Q:=by
 unfold qIx
 simp only[hp]
 exact⟨v,he,h⟩
theorem L8(hp:H p=some (.tup xs))(he:atI xs i=some v)(h:Q v H):qIx (.ref p) (.int i) H Q:=by
 unfold qIx
 simp only[hp]
 exact⟨v,he,h⟩
theorem c4h{c:Nat}(hz:z.length<=j9)(he:atI z.cps.toList i=some c)(h:Q (.str ⟨#[c]⟩) H):qIx (.str z) (.int i) H Q:=⟨hz,c,he,h⟩
theorem a7N{QH:Hp->Prop}{k:Nat}(hp:H p=some (.lst xs))(he:ixN xs.length i=some k)(h:QH (upd H p (.lst (xs.set k v)))):a6Q (.ref p) (.int i) v H QH:=by
 unfold a6Q
 simp only[hp]
 exact⟨k,he,h⟩
theorem c4i(hp:H p=some (.lst xs))(h0:0<=i)(he:xs[i.toNat]? = some v)(h:Q v H):b4Y (.ref p) (.int i) H Q:=by
 unfold b4Y
 simp only[hp]
 exact⟨h0,v,he,h⟩
theorem K8(hp:H p=some (.lst xs))(h:Q (.int xs.length) H):Q1 [.ref p] H Q:=by
 unfold Q1
 simp only[hp]
 exact h
theorem a3w(hp:H p=some (.tup xs))(h:Q (.int xs.length) H):Q1 [.ref p] H Q:=by
 unfold Q1
 simp only[hp]
 exact h
theorem c1J(hz:z.length<=j9)(h:Q (.int z.length) H):Q1 [.str z] H Q:=⟨hz,h⟩
theorem c4m(h:Q (.int (if i<0 then -i else i)) H):b7c [.int i] H Q:=h
theorem c5d(hs:a9S x y=true)(h:Q (.bl (decide (x=y))) H):qEq x y H Q:=⟨_,if_pos hs,h⟩
theorem c5b(hs:a9S x y=true)(h:Q (.bl (!decide (x=y))) H):qNe x y H Q:=⟨_,if_pos hs,h⟩
theorem c0m(ha:H a=some (.lst xs))(hb:H b=some (.lst ys))(fx:xs.all F2=true)(fy:ys.all F2=true):eqO (.ref a) (.ref b) H=some (a0v xs ys):=by
 unfold eqO
 rw[if_neg (by intro z;cases z)]
 simp only[ha,hb]
 rw[if_pos ⟨fx,fy⟩]
theorem c1I(hp:H p=some (.tup ys))(h:∀l H',H l=none->H' l=some (.lst ys)->o7 H H'->Q (.ref l) H'):a1J [.ref p] H Q:=by
 unfold a1J
 simp only[hp]
 exact fun l hl=>h l _ hl c6 (v0 hl)
theorem a9o(hp:H p=some (.tup xs))(hx:F2 x=true)(ha:xs.all F2=true)(h:Q (.bl (inV x xs)) H):qIn false x (.ref p) H Q:=by
 unfold qIn
 cases x <;> first | (simp only[hp];exact⟨hx,ha,h⟩) | cases hx
theorem a5j{l:Addr}(hp:H l=some (.lst xs))(hl:xs.length<j9)(h:Q .non (upd H l (.lst (xs++[y])))):a0y (.ref l) [y] H Q:=by
 unfold a0y
 simp only[hp]
 exact⟨hl,h⟩
theorem b6Y{lo hi:Option Int}(ha:H a=some (.tup xs))(hw:¬(HT.sIx xs.length 0 lo=0/\HT.sIx xs.length xs.length hi=xs.length))(h:∀p H',H p=none->H' p=some (.tup (a4M xs lo hi))->o7 H H'->Q (.ref p) H'):qSl (.ref a) lo hi H Q:=by
 unfold qSl
 simp only[ha]
 exact⟨hw,fun p hp=>h p _ hp c6 (v0 hp)⟩
theorem c4e{lo hi:Option Int}(ha:H a=some (.lst xs))(h:∀p H',H p=none->H' p=some (.lst (a4M xs lo hi))->o7 H H'->Q (.ref p) H'):qSl (.ref a) lo hi H Q:=by
 unfold qSl
 simp only[ha]
 exact fun p hp=>h p _ hp c6 (v0 hp)
theorem a0U{s c:String}(e:a2r x H=some s)(hc:c∈a6k)(h:Q (.bl (b3D s c)) H):a2D [x,.ty c] H Q:=⟨s,e,hc,h⟩
end
section
variable {D:Addr}{K:Fg}
theorem a5s{lo:Int}{n:Nat}(Pv:Nat->List V->Hp->Prop)(h0:Pv 0 [] (upd H1 D (.lst [])))(hP:∀i ys H,Pv i ys H->H D=some (.lst ys))
  (step:∀i ys H2,i<n->Pv i ys H2->∀R:VK,(∀y H5,H5 D=some (.lst ys)->ys.length<j9->Pv (i+1) (ys++[y]) (upd H5 D (.lst (ys++[y])))->R y H5)->te (some (.int (lo+i))::σ) H2 R)
  (done:∀ys H2,Pv n ys H2->QD H2) :
  ∃W:Nat->Nat->List V->Hp->Prop,(∃m,W 0 m [] (upd H1 D (.lst [])))/\∀i m ys H2,W i m ys H2->H2 D=some (.lst ys) /\
   (((Itr lo n).stop i H2 /\ QD H2) \/ ((Itr lo n).go i H2 /\ ∀ x H3,(Itr lo n).yld i H2 x H3 -> T8 (some x :: σ) H3 fun ok H4 => if ok = true then
     te (some x::σ) H4 (fun y H5=>H5 D=some (.lst ys)/\ys.length<j9/\∃m',m'<m/\W (i+1) m' (ys++[y]) (upd H5 D (.lst (ys++[y]))))
     else ∃m',m'<m/\W (i+1) m' ys H4)):=by
 refine⟨fun i m ys H=>m=n - i/\i<=n/\Pv i ys H,⟨n,rfl,L9 _,h0⟩,?_⟩
 rintro i m ys H2 ⟨rfl,hi,p⟩
 refine⟨hP i ys H2 p,?_⟩
 by_cases hlt:i<n
 ·refine .inr ⟨hlt,fun x H3 y=>?_⟩
  obtain⟨e,y⟩:=y
  subst e y
  refine b2Y ?_
  rw[if_pos rfl]
  exact step i ys _ hlt p _ fun y H5 h1 h2 h3=>⟨h1,h2,n - (i+1),by omega,rfl,hlt,h3⟩
 ·have e:i=n:=by omega
  subst e
  exact .inl ⟨d9 _,done ys H2 p⟩
theorem R0(Pv:Nat->List V->Hp->Prop)(h0:Pv 0 [] (upd H1 D (.lst [])))(hP:∀i ys H,Pv i ys H->H D=some (.lst ys))(hl:∀i ys H,i<=xs.length->Pv i ys H->SqL K H a xs)
  (step:∀i x ys H2,xs[i]? = some x->Pv i ys H2->∀R:VK,(∀y H5,H5 D=some (.lst ys)->ys.length<j9->Pv (i+1) (ys++[y]) (upd H5 D (.lst (ys++[y])))->R y H5)->te (some x::σ) H2 R)
  (done:∀ys H2,Pv xs.length ys H2->QD H2) :
  ∃W:Nat->Nat->List V->Hp->Prop,(∃m,W 0 m [] (upd H1 D (.lst [])))/\∀i m ys H2,W i m ys H2->H2 D=some (.lst ys) /\
   (((Itl K a).stop i H2 /\ QD H2) \/ ((Itl K a).go i H2 /\ ∀ x H3,(Itl K a).yld i H2 x H3 -> T8 (some x :: σ) H3 fun ok H4 => if ok = true then
     te (some x::σ) H4 (fun y H5=>H5 D=some (.lst ys)/\ys.length<j9/\∃m',m'<m/\W (i+1) m' (ys++[y]) (upd H5 D (.lst (ys++[y]))))
     else ∃m',m'<m/\W (i+1) m' ys H4)):=by
 refine⟨fun i m ys H=>m=xs.length - i/\i<=xs.length/\Pv i ys H,⟨xs.length,rfl,L9 _,h0⟩,?_⟩
 rintro i m ys H2 ⟨rfl,hi,p⟩
 refine⟨hP i ys H2 p,?_⟩
 have q:=hl i ys H2 hi p
 by_cases hlt:i<xs.length
 ·refine .inr ⟨⟨xs,xs[i],q,by simp[hlt]⟩,fun x H3 y=>?_⟩
  obtain⟨e,y⟩:=y
  subst e
  refine b2Y ?_
  rw[if_pos rfl]
  exact step i x ys _ (y xs q) p _ fun y H5 h1 h2 h3=>⟨h1,h2,xs.length - (i+1),by omega,rfl,hlt,h3⟩
 ·have e:i=xs.length:=by omega
  subst e
  exact .inl ⟨⟨xs,q,d9 _⟩,done ys H2 p⟩
theorem U6{wi:TI}(h:wi σ H1 fun J H1=>∀D,H1 D=none->∃W:Nat->Nat->List V->Hp->Prop,
 (∃m,W 0 m [] (upd H1 D (.lst [])))/\∀i m ys H2,W i m ys H2->H2 D=some (.lst ys) /\
  ((J.stop i H2 /\ Q (.ref D) H2) \/ (J.go i H2 /\ ∀ x H3,J.yld i H2 x H3 -> tt (some x :: σ) H3 fun ok H4 => if ok = true then
    te (some x::σ) H4 (fun y H5=>H5 D=some (.lst ys)/\ys.length<j9/\∃m',m'<m/\W (i+1) m' (ys++[y]) (upd H5 D (.lst (ys++[y]))))
    else ∃m',m'<m/\W (i+1) m' ys H4))):U1 wi tt te σ H1 Q:=h
theorem a0h{ta:TA}(h:ta σ H1 fun vs H2=>∃j:Int,vs=[.int j] /\ -(2 ^ 62)<=j/\j<2 ^ 62/\R (Itr 0 j.toNat) H2):a0I ta σ H1 R:=h
theorem O9(h:ta σ H1 fun x H2=>∃a,x=.ref a/\(∃xs,SqL K H2 a xs)/\R (Itl K a) H2):Q9 K ta σ H1 R:=h
theorem V2{wi:TI}{g:TG}{tb:TS}{D:a6s}(h:wi σ H1 fun J H1=>∃W:Nat->Nat->St->Hp->Prop,(∃m,W 0 m σ H1)/\∀i m σ H,W i m σ H ->
 (J.stop i H/\D.nx σ H)\/(J.go i H/\∃N:St->Hp->Prop,(∀σ' H',N σ' H'->∃m',m'<m/\W (i+1) m' σ' H')/\∀x H',J.yld i H x H'->g x σ H' fun σ2 H2=>tb { D with nx:=N,ct:=N,bk:=D.nx } σ2 H2)):a0q wi g tb D σ H1:=h
end
def U2(H H':Hp):Prop:=∀a xs,H a=some (.tup xs)->H' a=some (.tup xs)
theorem U2.put(h:H p=some (.lst ys)):U2 H (upd H p o):=fun a xs e=>by
 rw[c9 (G5 e h (by intro z;cases z))];exact e
theorem o7.ts(s:o7 H H'):U2 H H':=fun a xs h=>s a _ h
theorem D3.ts(k:D3 b H H')(hB:Bag H b c):U2 H H':=fun a xs h=>by
 obtain⟨ys,hb⟩:=hB.lst
 exact k.tup hb h
def OpV(v:V):Prop:=(∃s,v=.str s)\/∃n:Int,v=.int n/\0<=n/\n<1000000000000
def c3u(H:Hp)(p:Addr):Prop:=∃k v1 v2,H p=some (.tup [.str k,v1,v2])/\OpV v1/\OpV v2/\k∈(["plus","minus","times","less","same"]:List Str)
inductive a9E(H:Hp):List V->Prop
 | set (n:Str) (p:Addr):c3u H p->a9E H [.str "set",.str n,.ref p]
 | copy (n:Str) (v:V):OpV v->a9E H [.str "copy",.str n,v]
 | take (n:Str):a9E H [.str "take",.str n]
 | tell (v:V):OpV v->a9E H [.str "tell",v]
 | ask (v:V):OpV v->a9E H [.str "ask",v]
 | skip:a9E H [.str "skip"]
structure c5r(H:Hp)(a:Addr):Prop where
 ex:∃ss:List Str,H a=some (.lst (ss.map V.str))/\ss≠[]/\ss.length<=8
theorem small{n:Nat}(h:n<=100000):n<=j9:=C2 h (by rw[a2o];decide)
theorem G9{n:Nat}(h:n<100000):n<j9:=v6 h (by rw[a2o];decide)
theorem C3{c:Bool}{A B:Prop}(hc:c=true)(h:A):if c=true then A else B:=by rw[if_pos hc];exact h
theorem t7{c:Bool}{A B:Prop}(hc:c=false)(h:B):if c=true then A else B:=by rw[hc];exact L2.c2Z h
section
variable {t u:TS}{tb tc to ti:TE}{tu:TT}{tr:TA}{QB:Bool->Hp->Prop}{QA:List V->Hp->Prop}{x y:V}{i j:Int}{n:Nat}{K:Fg}
theorem a5Z(h:∀p H',H p=none->H' p=some (.dK [])->o7 H H'->Q (.ref p) H'):a2s σ H Q:=fun p hp=>h p _ hp c6 (v0 hp)
theorem b4b(h:ti σ H fun y H1=>to σ H1 fun x H2=>∃a o,x=.ref a/\a1z H2 a y o/\Q (.bl o.isSome) H2):a8C ti to σ H Q:=h
theorem a3u(h:ti σ H fun y H1=>to σ H1 fun x H2=>∃a o,x=.ref a/\a1z H2 a y o/\Q (.bl (!o.isSome)) H2):a0Z ti to σ H Q:=h
theorem a2A(h:te σ H fun v H1=>to σ H1 fun x H2=>ti σ H2 fun y H3=>∃a H4,x=.ref a/\a4P H3 a y v H4/\D.nx σ H4):a0T to ti te D σ H:=h
theorem a4n{f:Str}(h:ta σ H fun x H1=>∃a C dx fs v,x=.ref a/\H1 a=some (.ins C dx fs)/\Cls K C/\a1w K C f/\fs.lookup f=some v/\Q v H1):a5Q K ta f σ H Q:=h
theorem b3a{f:Str}(h:te σ H fun y H1=>ta σ H1 fun x H2=>∃a C dx fs,x=.ref a/\H2 a=some (.ins C dx fs)/\Cls K C/\a1w K C f/\fs.length<1000/\D.nx σ (upd H2 a (.ins C dx (a1y f y fs)))):b4W K ta te f D σ H:=h
theorem c1v{m:Str}{sp:Sp}{E:XK}(h:ta σ H fun x H1=>∃a dx fs,x=.ref a/\H1 a=some (.ins C dx fs)/\fs.lookup m=none/\tr σ H1 fun vs H2=>sp (x::(vs++[])) H2 Q E):b1v C m sp [] E ta tr σ H Q:=h
theorem c1w{sp:Sp}{E:XK}(h:tr σ H fun vs H1=>∀x dx,H1 x=none->H1 dx=none->dx≠x ->
 sp (.ref x::(vs++[])) (upd (upd H1 dx (.own x)) x (.ins C dx [])) (fun v H2=>v=.non/\Q (.ref x) H2) E):a9m C sp [] E tr σ H Q:=h
theorem c3W{f:V->List V->Hp->VK->Prop}(h:to σ H fun x H1=>tyV K "list" x H1/\f x [] H1 Q):b8H K "list" f to σ H Q:=h
theorem a1A(h:H p=some (.lst xs)):tyV K "list" (.ref p) H:=.inl ⟨rfl,xs,SqL.of h⟩
theorem a6Z{a b:Nat}{QS:St->Hp->Prop}(hp:SqT K H p [x,y])(h:QS ((σ.set a (some x)).set b (some y)) H):b0s K 2 (a0V (o0 a) (a0V (o0 b) b0u)) (.ref p) σ H QS:=
 ⟨p,_,rfl,hp,rfl,_,_,rfl,_,_,rfl,rfl,h⟩
theorem a5g(h:tr σ H fun vs H1=>∃a,vs=[.ref a]/\(∃xs,SqL K H1 a xs)/\R (Ite K a) H1):a6H K tr σ H R:=h
theorem c1x(h:tr σ H fun vs H1=>∃a b,vs=[.ref a,.ref b]/\(∃xs,SqL K H1 a xs)/\(∃xs,SqL K H1 b xs)/\R (Itz K a b) H1):c0h K tr σ H R:=h
theorem a9W(h:∃W:Nat->St->Hp->Prop,(∃m,W m σ H)/\∀m σ H,W m σ H ->
 tt σ H fun b H1=>if b=true then ∃N:St->Hp->Prop,(∀σ' H',N σ' H'->∃m',m'<m/\W m' σ' H')/\t { D with nx:=N,ct:=N,bk:=D.nx } σ H1 else D.nx σ H1):a5P tt t D σ H:=h
theorem a9X(h:te σ H fun v H1=>D.nx (σ.set n (some v)) H1):(fun D σ H=>te σ H fun v H1=>(D:a6s).nx (σ.set n (some v)) H1:TS) D σ H:=h
theorem b4c{wi:TI}(h:wi σ H1 fun J H1=>∀D,H1 D=none->∃W:Nat->Nat->List V->Hp->Prop,
 (∃m,W 0 m [] (upd H1 D (.lst [])))/\∀i m ys H2,W i m ys H2->H2 D=some (.lst ys) /\
  ((J.stop i H2 /\ Q (.ref D) H2) \/ (J.go i H2 /\ ∀ x H3,J.yld i H2 x H3 -> ∃ a u v,x = .ref a /\ SqT K H3 a [u,v] /\ tt (some u :: some v :: σ) H3 fun ok H4 => if ok = true then
    te (some u::some v::σ) H4 (fun y H5=>H5 D=some (.lst ys)/\ys.length<j9/\∃m',m'<m/\W (i+1) m' (ys++[y]) (upd H5 D (.lst (ys++[y]))))
    else ∃m',m'<m/\W (i+1) m' ys H4))):a7z K wi tt te σ H1 Q:=h
theorem b7Z{J:It}{D:Addr}(n:Nat)(Pv:Nat->List V->Hp->Prop)(h0:Pv 0 [] (upd H1 D (.lst [])))(hP:∀i ys H,Pv i ys H->H D=some (.lst ys))(stop:∀ys H,Pv n ys H->J.stop n H/\QD H)(go:∀i ys H,i<n->Pv i ys H->J.go i H)
  (step:∀i ys H2,i<n->Pv i ys H2->∀x H3,J.yld i H2 x H3->∃a u v,x=.ref a/\SqT K H3 a [u,v]/\∀(R:VK) (S:Hp->Prop),(∀y H5,H5 D=some (.lst ys)->ys.length<j9->Pv (i+1) (ys++[y]) (upd H5 D (.lst (ys++[y])))->R y H5)->(∀H4,Pv (i+1) ys H4->S H4) ->
   tt (some u::some v::σ) H3 fun ok H4=>if ok=true then te (some u::some v::σ) H4 R else S H4) :
  ∃W:Nat->Nat->List V->Hp->Prop,(∃m,W 0 m [] (upd H1 D (.lst [])))/\∀i m ys H2,W i m ys H2->H2 D=some (.lst ys) /\
   ((J.stop i H2 /\ QD H2) \/ (J.go i H2 /\ ∀ x H3,J.yld i H2 x H3 -> ∃ a u v,x = .ref a /\ SqT K H3 a [u,v] /\ tt (some u :: some v :: σ) H3 fun ok H4 => if ok = true then
     te (some u::some v::σ) H4 (fun y H5=>H5 D=some (.lst ys)/\ys.length<j9/\∃m',m'<m/\W (i+1) m' (ys++[y]) (upd H5 D (.lst (ys++[y]))))
     else ∃m',m'<m/\W (i+1) m' ys H4)):=by
 refine⟨fun i m ys H=>m=n - i/\i<=n/\Pv i ys H,⟨n,rfl,L9 _,h0⟩,?_⟩
 rintro i m ys H2 ⟨rfl,hi,p⟩
 refine⟨hP i ys H2 p,?_⟩
 by_cases hlt:i<n
 ·refine .inr ⟨go i ys H2 hlt p,fun x H3 hy=>?_⟩
  obtain⟨a,u,v,e,hs,st⟩:=step i ys H2 hlt p x H3 hy
  exact⟨a,u,v,e,hs,st _ _ (fun y H5 h1 h2 h3=>⟨h1,h2,n - (i+1),by omega,rfl,hlt,h3⟩) fun H4 h4=>⟨n - (i+1),by omega,rfl,hlt,h4⟩⟩
 ·have e:i=n:=by omega
  subst e
  exact .inl (stop ys H2 p)
theorem a9x{J:It}{g:TG}{tb:TS}(n:Nat)(Pv:Nat->St->Hp->Prop)(h0:Pv 0 σ H)(stop:∀σ H,Pv n σ H->J.stop n H/\D.nx σ H)(go:∀i σ H,i<n->Pv i σ H->J.go i H)
  (hs:∀i σ H,i<n->Pv i σ H->∀x H',J.yld i H x H'->g x σ H' fun σ2 H2=>tb { D with nx:=Pv (i+1),ct:=Pv (i+1),bk:=D.nx } σ2 H2) :
  ∃W:Nat->Nat->St->Hp->Prop,(∃m,W 0 m σ H)/\∀i m σ H,W i m σ H ->
   (J.stop i H/\D.nx σ H)\/(J.go i H/\∃N:St->Hp->Prop,(∀σ' H',N σ' H'->∃m',m'<m/\W (i+1) m' σ' H')/\∀x H',J.yld i H x H'->g x σ H' fun σ2 H2=>tb { D with nx:=N,ct:=N,bk:=D.nx } σ2 H2):=by
 refine⟨fun i m σ H=>m=n - i/\i<=n/\Pv i σ H,⟨n,rfl,L9 _,h0⟩,?_⟩
 rintro i m σ H ⟨rfl,hi,p⟩
 by_cases hlt:i<n
 ·exact .inr ⟨go i σ H hlt p,Pv (i+1),fun σ' H' p'=>⟨n - (i+1),by omega,rfl,hlt,p'⟩,fun x H' hy=>hs i σ H hlt p x H' hy⟩
 ·have e:i=n:=by omega
  subst e
  exact .inl (stop σ H p)
theorem c4g(h:Q (.int (if j<i then j else i)) H):b7b [.int i,.int j] H Q:=h
theorem a6K(bs:List Bool):R1 (bs.map V.bl)=some bs:=by
 induction bs with
 | nil=>rfl
 | cons s r ih=>simp[R1,ih]
theorem c4j{l:Addr}{bs:List Bool}(hl:H l=some (.lst (bs.map V.bl)))(h:Q (.bl (bs.any id)) H):b3h [.ref l] H Q:=by
 unfold b3h
 simp only[hl]
 exact⟨bs,a6K bs,h⟩
theorem c4k{l:Addr}{bs:List Bool}(hl:H l=some (.lst (bs.map V.bl)))(h:Q (.bl (bs.all id)) H):b0d [.ref l] H Q:=by
 unfold b0d
 simp only[hl]
 exact⟨bs,a6K bs,h⟩
theorem b1H{l:Addr}{zs:List V}(hl:H l=some (.lst xs))(hb:H b=some (.lst zs))(hz:xs.length+zs.length<=j9)(h:Q .non (upd H l (.lst (xs++zs)))):a2E (.ref l) [.ref b] H Q:=by
 unfold a2E
 simp only[hl,hb]
 exact⟨hz,h⟩
theorem c4f{l:Addr}(hl:H l=some (.lst (xs++[y])))(h:Q y (upd H l (.lst xs))):b4X (.ref l) [] H Q:=by
 unfold b4X
 simp only[hl]
 refine⟨y,by simp,?_⟩
 simpa using h
theorem a5i(hp:H p=some (.lst ys))(h:∀l H',H l=none->H' l=some (.lst ys)->o7 H H'->Q (.ref l) H'):a1J [.ref p] H Q:=by
 unfold a1J
 simp only[hp]
 exact fun l hl=>h l _ hl c6 (v0 hl)
end
def IL(l:List Nat):List V:=l.map fun(n:Nat)=>V.int (n:Int)
theorem M8(l:List Nat):(IL l).length=l.length:=by simp[IL]
theorem b4u(l:List Nat):(IL l).all F2=true:=by
 rw[N4]
 intro x hx
 obtain⟨s,_,rfl⟩:=p9.mp hx
 rfl
def KS(ks:List Nat):List (Key×V):=ks.map fun(k:Nat)=>(Sum.inl (k:Int),V.bl true)
theorem b8j(ks:List Nat)(k:Nat):(Y3 (KS ks) (Sum.inl (k:Int))).isSome=decide (k∈ks):=by
 induction ks with
 | nil=>rfl
 | cons a r ih=>
  by_cases e:a=k
  ·subst e
   rw[show KS (a::r)=(Sum.inl (a:Int),V.bl true)::KS r from rfl,a3p rfl]
   simp
  ·rw[show KS (a::r)=(Sum.inl (a:Int),V.bl true)::KS r from rfl,a3q (by intro z;have:=Sum.inl.inj z;exact e (by omega)),ih]
   have:(k∈a::r)↔k∈r:=by
    rw[c8]
    exact⟨fun h=>h.elim (fun z=>absurd z.symm e) id,.inr⟩
   simp[this]
def a3y(ks:List Nat)(k:Nat):List Nat:=if k∈ks then ks else ks++[k]
theorem c3p(ks:List Nat)(k:Nat):Z8 (KS ks) (Sum.inl (k:Int)) (V.bl true)=KS (a3y ks k):=by
 unfold Z8 a3y
 rw[a2g,b8j]
 by_cases h:k∈ks
 ·rw[if_pos (c6x h),if_pos h]
  unfold KS
  rw[N7]
  apply L3
  intro a _
  show(if(Sum.inl (a:Int):Key)=Sum.inl (k:Int)then ((Sum.inl (a:Int):Key),V.bl true)else ((Sum.inl (a:Int):Key),V.bl true))=_
  split <;> rfl
 ·rw[if_neg (by simpa using h),if_neg h]
  simp[KS]
theorem W8{k j:Nat}:j∈a3y ks k↔j∈ks\/j=k:=by
 unfold a3y
 split
 ·rename_i h
  exact⟨.inl,fun q=>q.elim id fun z=>z ▸ h⟩
 ·simp
theorem a7b{k:Nat}(h:ks.Nodup):(a3y ks k).Nodup:=by
 unfold a3y
 split
 ·exact h
 ·rename_i hk
  rw[T5]
  exact⟨h,by simp,fun a ha b hb=>by rw[d3.mp hb];intro z;exact hk (z ▸ ha)⟩
theorem c3q(ks:List Nat):(KS ks).length=ks.length:=by simp[KS]
theorem a5n:∀(n:Nat) (ks:List Nat),ks.Nodup->(∀k∈ks,k<n)->ks.length<=n:=by
 intro n
 induction n with
 | zero=>
  intro ks _ h
  cases ks with
  | nil=>exact d9 _
  | cons a r=>exact absurd (h a D5) (Nat.not_lt_zero _)
 | succ n ih=>
  intro ks nd h
  by_cases hn:n∈ks
  ·have:=ih (ks.erase n) (nd.erase n) fun k hk=>by
    have h1:=(List.Nodup.mem_erase_iff nd).mp hk
    have:=h k h1.2
    have:=h1.1
    omega
   rw[a3d hn]at this
   omega
  ·have:=ih ks nd fun k hk=>by
    have:=h k hk
    have:k≠n:=fun z=>hn (z ▸ hk)
    omega
   omega
theorem a3W(h:H d=some (.dK (KS ks)))(k:Nat):∃o,a1z H d (.int (k:Int)) o/\o.isSome=decide (k∈ks):=⟨_,a1z.k (k:=Sum.inl (k:Int)) h,b8j ks k⟩
theorem b0w(h:H d=some (.dK (KS ks)))(hl:ks.length<100000)(k:Nat):a4P H d (.int (k:Int)) (.bl true) (upd H d (.dK (KS (a3y ks k)))):=by
 rw[<-c3p]
 exact a4P.k (k:=Sum.inl (k:Int)) h (G9 (by rw[c3q];exact hl))
end RD
namespace RD
variable{C a b c d dx na p ra:Addr}{H H' H0 H1:Hp}{o:HO}{vs xs ys:List V}{D:a6s}{σ:St}{ta te:TE}{tt:TT}{Q:VK}{v w:V}{z:Str}{ks l:List Nat}{QD:Hp->Prop}{R:It->Hp->Prop}{M N:Nt}{ns:List Int}{as rs:List Addr}{i m:Nat}{Do:Nat->Bool}{kvs:List (Key×V)}{RC:Nat->List V}{ss:List Str}
theorem b7E:∀(l m:List Nat),l.Nodup->(∀x∈l,x∈m)->l.length<=m.length
 | [],_,_,_=>L9 _
 | a::r,m,nd,h=>by
  have ha:=h a D5
  have:=b7E r (m.erase a) (L6.mp nd).2 fun x hx=>(b5Z (show x≠a from fun z=>(L6.mp nd).1 (z ▸ hx))).mpr (h x (C4 _ hx))
  rw[a3d ha]at this
  have:=a3Y ha
  rw[v7]
  omega
inductive Gd(N:Nt):Nat->Prop
 | stop {k:Nat}:N[k]? = some []->Gd N k
 | step {k t:Nat} {l:List Nat}:N[k]? = some l->t∈l->Gd N t->Gd N k
inductive Rc(N:Nt):Nat->Prop
 | zero:Rc N 0
 | step {k t:Nat} {l:List Nat}:Rc N k->N[k]? = some l->t∈l->Rc N t
structure a0W(N:Nt):Prop where
 pos:0<N.length
 le:N.length<=400
 two:∀l∈N,l.length<=2
 lt:∀l∈N,∀t∈l,t<N.length
 rc:∀k,k<N.length->Rc N k
 gd:∀k,k<N.length->Gd N k
def a1K(N:Nt)(G:List Nat):List (List Nat):=(w4 N.length).map fun k=>if k∈G then N.getD k [] else (N.length - 1)::(N.getD k []).drop 1
theorem a9s(N:Nt)(G:List Nat):(a1K N G).length=N.length:=by simp[a1K]
theorem a7Z{G:List Nat}{k:Nat}(h:k<N.length):(a1K N G)[k]? = some (if k∈G then N.getD k [] else (N.length - 1)::(N.getD k []).drop 1):=by
 unfold a1K
 rw[b8,a5D h]
 rfl
theorem a5o{G:List Nat}{k:Nat}(h:N[k]? = some l)(hk:k∈G):(a1K N G)[k]? = some l:=by
 have hl:=(j8.mp h).1
 rw[a7Z hl,if_pos hk]
 simp[L4,h]
theorem a9r{G:List Nat}{k:Nat}(h:N[k]? = some l)(hk:¬k∈G):(a1K N G)[k]? = some ((N.length - 1)::l.drop 1):=by
 have hl:=(j8.mp h).1
 rw[a7Z hl,if_neg hk]
 simp[L4,h]
theorem c0l{G:List Nat}(hG:∀k∈G,Gd N k)(hl:N[N.length - 1]? = some [])(hm:N.length - 1∈G):∀k,k<N.length->Gd (a1K N G) k:=by
 have last:Gd (a1K N G) (N.length - 1):=.stop (a5o hl hm)
 have out:∀k,k<N.length->¬k∈G->Gd (a1K N G) k:=fun k hk h=>.step (a9r (l:=N[k]) (by simp) h) D5 last
 have go:∀k,Gd N k->Gd (a1K N G) k:=by
  intro k h
  induction h with
  | @stop k h=>
   by_cases hk:k∈G
   ·exact .stop (a5o h hk)
   ·exact out k (j8.mp h).1 hk
  | @step k t l h ht _ ih=>
   by_cases hk:k∈G
   ·exact .step (a5o h hk) ht ih
   ·exact out k (j8.mp h).1 hk
 intro k hk
 by_cases h:k∈G
 ·exact go k (hG k h)
 ·exact out k hk h
theorem b1V{G:List Nat}(hp:0<N.length)(hs:∀l∈N,l.length<=2/\∀t∈l,t<N.length)(hl:N[N.length - 1]? = some [])(hm:N.length - 1∈G):∀l∈a1K N G,l.length<=2/\∀t∈l,t<N.length:=by
 intro l hl'
 obtain⟨k,hk⟩:=J2.mp hl'
 have hkl:k<N.length:=by have:=(j8.mp hk).1;rwa [a9s]at this
 rw[a7Z hkl]at hk
 have e:N.getD k []=N[k]:=by simp[L4,hkl]
 rw[e]at hk
 obtain⟨h1,h2⟩:=hs N[k] (D2 _)
 by_cases hg:k∈G
 ·rw[if_pos hg]at hk
  cases hk
  exact⟨h1,h2⟩
 ·rw[if_neg hg]at hk
  cases hk
  refine⟨?_,fun t ht=>?_⟩
  ·rw[v7,a8z];omega
  ·rcases c8.mp ht with z | z
   ·omega
   ·exact h2 t (List.drop_subset _ _ z)
def a4w(N:Nt)(O:List Nat):List (List Nat):=O.map fun k=>(N.getD k []).map fun t=>O.idxOf t
theorem b7O{O:List Nat}{t:Nat}(h:t∈O):O.idxOf t<O.length:=b2z.mpr h
theorem a9M{O:List Nat}{k:Nat}(hk:k∈O)(h:N[k]? = some l):(a4w N O)[O.idxOf k]? = some (l.map fun t=>O.idxOf t):=by
 unfold a4w
 have:O[O.idxOf k]? = some k:=by
  rw[j6 (b7O hk)]
  simp
 rw[b8,this]
 simp[L4,h]
theorem b3I{O:List Nat}(h0:0∈O)(hs:O.Pairwise (· <= ·)):O.idxOf 0=0:=by
 cases O with
 | nil=>cases h0
 | cons a r=>
  have:a=0:=by
   rcases c8.mp h0 with z | z
   ·exact z.symm
   ·have:=(List.pairwise_cons.mp hs).1 0 z
    omega
  subst this
  simp
theorem b4K{O:List Nat}(h0:0∈O)(hs:O.Pairwise (· <= ·))(hnd:O.Nodup)(hlt:∀k∈O,k<N.length)(hN:N.length<=400)(hcl:∀k∈O,∀l,N[k]? = some l->∀t∈l,t∈O)(hrc:∀k∈O,Rc N k)
  (hsm:∀l∈N,l.length<=2) (hgd:∀k,k<N.length->Gd N k):a0W (a4w N O):=by
 have hlen:(a4w N O).length=O.length:=by simp[a4w]
 have rc:∀k,Rc N k->k∈O/\Rc (a4w N O) (O.idxOf k):=by
  intro k h
  induction h with
  | zero=>
   refine⟨h0,?_⟩
   rw[b3I h0 hs]
   exact .zero
  | @step k t l _ hl ht ih=>
   obtain⟨i1,i2⟩:=ih
   exact⟨hcl k i1 l hl t ht,.step i2 (a9M i1 hl) (p9.mpr ⟨t,ht,rfl⟩)⟩
 have gd:∀k,Gd N k->k∈O->Gd (a4w N O) (O.idxOf k):=by
  intro k h
  induction h with
  | @stop k h=>
   intro hk
   exact .stop (by rw[a9M hk h];rfl)
  | @step k t l h ht _ ih=>
   intro hk
   exact .step (a9M hk h) (p9.mpr ⟨t,ht,rfl⟩) (ih (hcl k hk l h t ht))
 have at_:∀i,i<O.length->∃k∈O,O.idxOf k=i:=fun i hi=>⟨O[i],D2 _,hnd.idxOf_getElem i hi⟩
 have mem:∀l∈a4w N O,∃k∈O,∃l',N[k]? = some l'/\l=l'.map fun t=>O.idxOf t:=by
  intro l hl
  obtain⟨k,hk,rfl⟩:=p9.mp hl
  refine⟨k,hk,N[k]'(hlt k hk),by simp[hlt k hk],?_⟩
  simp[L4,hlt k hk]
 refine⟨?_,?_,fun l hl=>?_,fun l hl t ht=>?_,fun i hi=>?_,fun i hi=>?_⟩
 ·rw[hlen]
  exact a3Y h0
 ·rw[hlen]
  exact C2 (a5n _ _ hnd hlt) hN
 ·obtain⟨k,hk,l',e,rfl⟩:=mem l hl
  rw[a8]
  exact hsm l' (T6 e)
 ·obtain⟨k,hk,l',e,rfl⟩:=mem l hl
  obtain⟨t',ht',rfl⟩:=p9.mp ht
  rw[hlen]
  exact b7O (hcl k hk l' e t' ht')
 ·rw[hlen]at hi
  obtain⟨k,hk,rfl⟩:=at_ i hi
  exact(rc k (hrc k hk)).2
 ·rw[hlen]at hi
  obtain⟨k,hk,rfl⟩:=at_ i hi
  exact gd k (hgd k (hlt k hk)) hk
end RD
namespace RD
open PySem PySem.Spec PyProof.Rows L2
variable{C a b c d dx na p ra:Addr}{H H' H0 H1:Hp}{o:HO}{vs xs ys:List V}{D:a6s}{σ:L2.St}{ta te:TE}{tt:TT}{Q:VK}{v w:V}{z:Str}{ks l:List Nat}{QD:Hp->Prop}{R:It->Hp->Prop}{M N:Nt}{ns:List Int}{as rs:List Addr}{i m:Nat}{Do:Nat->Bool}{kvs:List (Key×V)}{RC:Nat->List V}{ss:List Str}
structure Cn where
 P4:Addr
 a2V:Addr
 R6:Addr
structure a4d(K:Fg)(c:Cn):Prop where
 R7:Cls K c.P4
 Z1:a1w K c.P4 "entries"
 T0:a1w K c.P4 "nexts"
 R5:a1w K c.P4 "rows"
 b0X:∀H,SqT K H c.a2V [.str "plus",.str "minus",.str "times",.str "less",.str "same"]
 a2U:∀H,SqT K H c.R6 [.int (-1),.int (0)]
def spD(n m:Nat)(t:TS):Sp:=fun vs H Q _=>vs.length=n/\t { nx:=fun _ H'=>Q .non H',rt:=Q } (vs.map some++u0 (m - vs.length) none) H
def c0O(K:Fg):TS:=J7 (a0F (a9 (tC (.int 0)) (a9 (tC (.int 1234567891)) (a9 (tC (.int 0)) (a9 (U1 (Q9 K (tSl (c1H K) (b5 0) a1B (a6C (tC (.int 63))))) T8 (tCB b7c (a9 (b5 0) j5))) j5)))))
def a9Q(K:Fg):Sp:=spD 1 1 (c0O K)
def b6z(K:Fg):TS:=u7 (J8 (C9 (tOp qEq (tOp qIx (b5 0) (tC (.int 0))) (tC (.int 0)))) (u7 (D8 (tC (.int 12345)) (o0 2)) (u7 (J8 (C9 (tOp qLt (tOp qIx (b5 0) (tC (.int 2))) (tCB Q1 (a9 (tOp qIx (b5 0) (tC (.int 3))) j5)))) (u7 (D8 (tOp qIx (tOp qIx (b5 0) (tC (.int 3))) (tOp qIx (b5 0) (tC (.int 2)))) (o0 3)) (u7 (b3Y (b5 0) (tC (.int 2)) (tC (.int 1)) b4Y (ipI fun i j=>i+j) a6Q) (u7 (J8 (C9 (tOp qGe (b5 3) (tC (.int 1000000000000000000)))) (D8 (b5 3) (b0t (b5 0) (tC (.int 0)) a6Q)) D0) (D8 (tOp a1R (tOp a7O (b5 3) (tC (.int 2147483647))) (tC (.int 1))) (o0 2))))) D0) (D8 (tOp a7O (tOp a1R (tOp b3f (tOp qIx (b5 0) (tC (.int 1))) (tC (.int 48271))) (b5 2)) (tC (.int 2147483647))) (b0t (b5 0) (tC (.int 1)) a6Q)))) D0) (u7 (J8 (C9 (tOp qGt (tOp qIx (b5 0) (tC (.int 0))) (tC (.int 0)))) (u7 (D8 (tOp a7O (tOp qIx (b5 0) (tC (.int 0))) (b5 1)) (o0 4)) (u7 (D8 (tOp b8Z (tOp qIx (b5 0) (tC (.int 0))) (b5 1)) (b0t (b5 0) (tC (.int 0)) a6Q)) (J7 (b5 4)))) D0) (u7 (D8 (tOp a7O (tOp b3f (tOp qIx (b5 0) (tC (.int 1))) (tC (.int 39373))) (tC (.int 1000000007))) (o0 5)) (u7 (D8 (tOp a7O (tOp b3f (b5 5) (tC (.int 30011))) (tC (.int 998244353))) (o0 6)) (u7 (J8 (C9 (tOp qGt (b5 1) (tC (.int 1000000)))) (J7 (tOp a7O (tOp a1R (tOp b3f (b5 6) (tC (.int 1000000000))) (b5 5)) (b5 1))) D0) (J7 (tOp a7O (tOp b8Z (b5 6) (tC (.int 3))) (b5 1)))))))
def G0(K:Fg):Sp:=spD 2 7 (b6z K)
def b6A(K:Fg):TS:=u7 (D8 (a0F (a9 (tC (.str "a")) (a9 (tC (.str "b1")) (a9 (tC (.str "set")) (a9 (tC (.str "k0")) (a9 (tC (.str "ask")) (a9 (tC (.str "k1")) (a9 (tC (.str "total")) (a9 (tC (.str "x2y3z4w5")) (a9 (tC (.str "k2")) (a9 (tC (.str "take")) j5))))))))))) (o0 1)) (u7 (D8 (v4 (G0 K) [] E0 (a9 (b5 0) (a9 (tC (.int 10)) j5))) (o0 2)) (J7 (U1 (a0I (a9 (tOp a1R (tC (.int 2)) (v4 (G0 K) [] E0 (a9 (b5 0) (a9 (tC (.int 3)) j5)))) j5)) T8 (tOp qIx (b5 2) (tOp a7O (tOp a1R (b5 3) (tOp b3f (tC (.int 3)) (b5 0))) (tC (.int 10)))))))
def a6V(K:Fg):Sp:=spD 1 3 (b6A K)
def c0N(K:Fg):TS:=u7 (D8 (a0F j5) (o0 2)) (u7 (a0q (a0I (a9 (b5 1) j5)) (o0 3) (u7 (D8 (tCB b7b (a9 (tOp a1R (b5 3) (tC (.int 1))) (a9 (tOp b7a (b5 1) (tC (.int 1))) j5))) (o0 4)) (u7 (D8 (a0F (a9 (b5 4) (a9 (v4 (G0 K) [] E0 (a9 (b5 0) (a9 (b5 1) j5))) j5))) (o0 5)) (u7 (D8 (v4 (G0 K) [] E0 (a9 (b5 0) (a9 (tC (.int 8)) j5))) (o0 6)) (u7 (J8 (C9 (tOp qLt (b5 6) (tC (.int 3)))) (D8 (a0F (a9 (tOp qIx (b5 5) (tC (.int 1))) (a9 (b5 4) j5))) (o0 5)) D0) (u7 (J8 (C9 (tOp qEq (b5 6) (tC (.int 3)))) (D8 (a0F (a9 (tOp qIx (b5 5) (tC (.int 1))) (a9 (v4 (G0 K) [] E0 (a9 (b5 0) (a9 (b5 1) j5))) j5))) (o0 5)) D0) (u7 (J8 (tOr (a7A (C9 (tOp qGt (b5 6) (tC (.int 3)))) (C9 (tOp qLt (b5 6) (tC (.int 7))))) (C9 (tOp qEq (b5 1) (tC (.int 1))))) (D8 (a0F (a9 (b5 4) j5)) (o0 5)) D0) (u7 (J8 (a7A (C9 (tOp qEq (b5 6) (tC (.int 7)))) (C9 (tOp qGt (b5 1) (tC (.int 1))))) (D8 (a0F (a9 (tOp qIx (b5 5) (tC (.int 1))) j5)) (o0 5)) D0) (u7 (J8 (tOr (C9 (tOp qEq (b5 3) (tOp b7a (b5 1) (tC (.int 1))))) (a7A (C9 (tOp qEq (b5 6) (tC (.int 6)))) (C9 (tOp qEq (v4 (G0 K) [] E0 (a9 (b5 0) (a9 (tC (.int 4)) j5))) (tC (.int 0)))))) (D8 (a0F j5) (o0 5)) D0) (a0G (tBM K "list" a0y (b5 2) (a9 (b5 5) j5)))))))))))) (J7 (b5 2)))
def a9P(K:Fg):Sp:=spD 2 7 (c0N K)
def b1s(K:Fg):TS:=u7 (D8 a2s (o0 1)) (u7 (a0q (a0I (a9 (tCB Q1 (a9 (b5 0) j5)) j5)) (o0 2) (a0q (a0I (a9 (tCB Q1 (a9 (b5 0) j5)) j5)) (o0 3) (J8 (tOr (C9 (tOp qEq (tOp qIx (b5 0) (b5 3)) (a0F j5))) (tB (tCB b3h (a9 (U1 (Q9 K (tOp qIx (b5 0) (b5 3))) T8 (a8C (b5 0) (b5 2))) j5)))) (a0T (b5 1) (b5 3) (tC (.bl true))) D0))) (u7 (D8 (U1 (a0I (a9 (tCB Q1 (a9 (b5 0) j5)) j5)) T8 (tIf (tB (a8C (b5 0) (b5 2))) (tOp qIx (b5 1) (b5 0)) (tOp a1R (a0F (a9 (tOp b7a (tCB Q1 (a9 (b5 1) j5)) (tC (.int 1))) j5)) (tSl qSl (tOp qIx (b5 1) (b5 0)) (a6C (tC (.int 1))) a1B)))) (o0 0)) (u7 (D8 (b1w ((tC (.int 0),tC (.bl true))::[])) (o0 4)) (u7 (a0q (a0I (a9 (tCB Q1 (a9 (b5 0) j5)) j5)) (o0 2) (a0q (a0I (a9 (tCB Q1 (a9 (b5 0) j5)) j5)) (o0 3) (J8 (tB (a8C (b5 3) (b5 4))) (a0q (Q9 K (tOp qIx (b5 0) (b5 3))) (o0 5) (a0T (b5 4) (b5 5) (tC (.bl true)))) D0))) (u7 (D8 (tCB a3V (a9 (tCB a3x (a9 (b5 4) j5)) j5)) (o0 6)) (J7 (U1 (Q9 K (b5 6)) T8 (U1 (Q9 K (tOp qIx (b5 1) (b5 0))) T8 (tBM K "list" a6a (b5 8) (a9 (b5 0) j5))))))))))
def a3Q(K:Fg):Sp:=spD 1 7 (b1s K)
def a9j(K:Fg):TS:=u7 (J8 (C9 (tOp qEq (v4 (G0 K) [] E0 (a9 (b5 0) (a9 (tC (.int 4)) j5))) (tC (.int 0)))) (u7 (D8 (a0F (a9 (tC (.int 0)) (a9 (tC (.int 1)) (a9 (tC (.int 999999999999)) (a9 (v4 (G0 K) [] E0 (a9 (b5 0) (a9 (tC (.int 1000000000000)) j5))) j5))))) (o0 2)) (J7 (tOp qIx (b5 2) (v4 (G0 K) [] E0 (a9 (b5 0) (a9 (tC (.int 4)) j5)))))) D0) (J7 (tOp qIx (b5 1) (v4 (G0 K) [] E0 (a9 (b5 0) (a9 (tCB Q1 (a9 (b5 1) j5)) j5)))))
def W7(K:Fg):Sp:=spD 2 3 (a9j K)
def b6E(K:Fg):TS:=u7 (D8 (a0F (a9 (tC (.str "plus")) (a9 (tC (.str "minus")) (a9 (tC (.str "times")) (a9 (tC (.str "less")) (a9 (tC (.str "same")) j5)))))) (o0 2)) (J7 (a3e (a9 (tOp qIx (b5 2) (v4 (G0 K) [] E0 (a9 (b5 0) (a9 (tC (.int 5)) j5)))) (a9 (v4 (W7 K) [] E0 (a9 (b5 0) (a9 (b5 1) j5))) (a9 (v4 (W7 K) [] E0 (a9 (b5 0) (a9 (b5 1) j5))) j5)))))
def a6Y(K:Fg):Sp:=spD 2 3 (b6E K)
def c0M(K:Fg):TS:=u7 (J8 (tB (b5 3)) (J7 (a3e (a9 (tC (.str "ask")) (a9 (v4 (W7 K) [] E0 (a9 (b5 0) (a9 (b5 1) j5))) j5)))) D0) (u7 (D8 (v4 (G0 K) [] E0 (a9 (b5 0) (a9 (tC (.int 9)) j5))) (o0 4)) (u7 (D8 (tOp qIx (b5 1) (v4 (G0 K) [] E0 (a9 (b5 0) (a9 (tCB Q1 (a9 (b5 1) j5)) j5)))) (o0 5)) (u7 (J8 (C9 (tOp qLt (b5 4) (tC (.int 4)))) (J7 (a3e (a9 (tC (.str "set")) (a9 (b5 5) (a9 (tOp qIx (b5 2) (v4 (G0 K) [] E0 (a9 (b5 0) (a9 (tCB Q1 (a9 (b5 2) j5)) j5)))) j5))))) D0) (u7 (J8 (C9 (tOp qLt (b5 4) (tC (.int 7)))) (J7 (a3e (a9 (tC (.str "copy")) (a9 (b5 5) (a9 (v4 (W7 K) [] E0 (a9 (b5 0) (a9 (b5 1) j5))) j5))))) D0) (u7 (J8 (C9 (tOp qEq (b5 4) (tC (.int 7)))) (J7 (tOp qIx (a0F (a9 (a3e (a9 (tC (.str "take")) (a9 (b5 5) j5))) (a9 (a3e (a9 (tC (.str "tell")) (a9 (v4 (W7 K) [] E0 (a9 (b5 0) (a9 (b5 1) j5))) j5))) j5))) (v4 (G0 K) [] E0 (a9 (b5 0) (a9 (tC (.int 2)) j5))))) D0) (J7 (a3e (a9 (tC (.str "skip")) j5))))))))
def a9O(K:Fg):Sp:=spD 4 6 (c0M K)
def b6B(K:Fg):TS:=u7 (D8 (v4 (a6V K) [] E0 (a9 (b5 0) j5)) (o0 1)) (u7 (D8 (tOp a1R (tC (.int 1)) (v4 (G0 K) [] E0 (a9 (b5 0) (a9 (tC (.int 9)) j5)))) (o0 2)) (u7 (D8 (tOp a1R (tC (.int 1)) (v4 (G0 K) [] E0 (a9 (b5 0) (a9 (tC (.int 5)) j5)))) (o0 3)) (u7 (J8 (C9 (tOp qEq (v4 (G0 K) [] E0 (a9 (b5 0) (a9 (tC (.int 8)) j5))) (tC (.int 7)))) (u7 (D8 (tOp a1R (tC (.int 15)) (v4 (G0 K) [] E0 (a9 (b5 0) (a9 (tC (.int 10)) j5)))) (o0 2)) (D8 (tOp a1R (tC (.int 1)) (v4 (G0 K) [] E0 (a9 (b5 0) (a9 (tC (.int 3)) j5)))) (o0 3))) D0) (u7 (D8 (v4 (a3Q K) [] E0 (a9 (v4 (a9P K) [] E0 (a9 (b5 0) (a9 (b5 2) j5))) j5)) (o0 4)) (u7 (D8 (U1 (a0I (a9 (b5 3) j5)) T8 (v4 (a6Y K) [] E0 (a9 (b5 1) (a9 (b5 2) j5)))) (o0 5)) (u7 (fun D σ H=>(U1 (Q9 K (b5 4)) T8 (v4 (a9O K) [] E0 (a9 (b5 1) (a9 (b5 2) (a9 (b5 6) (a9 (tOp qEq (tCB Q1 (a9 (b5 0) j5)) (tC (.int 2))) j5)))))) σ H fun v H1=>D.nx (σ.set 6 (some v)) H1) (J7 (a3e (a9 (b5 6) (a9 (b5 4) j5))))))))))
def a6W(K:Fg):Sp:=spD 1 7 (b6B K)
def a3r(K:Fg):TS:=u7 (J8 (tOr (a4v (tB (tCB a2D (a9 (b5 0) (a9 (tC (.ty "list")) j5))))) (C9 (tOp qLt (tCB Q1 (a9 (b5 0) j5)) (b5 2)))) (fun _ _ _=>False) D0) (J8 (C9 (tOp qGt (tCB Q1 (a9 (b5 0) j5)) (tC (.int 400)))) (fun _ _ _=>False) D0)
def Y6(K:Fg):Sp:=spD 3 3 (a3r K)
def a5O(K:Fg):TS:=u7 (J8 (tOr (a4v (tB (tCB a2D (a9 (b5 0) (a9 (tC (.ty "str")) j5))))) (a4v (C9 (a3s qLe qLe (tC (.int 1)) (tCB Q1 (a9 (b5 0) j5)) (tC (.int 8)))))) (J7 (tC (.bl false))) D0) (J7 (W6 (tOp (qIn false) (tOp qIx (b5 0) (tC (.int 0))) (tC (.str "abcdefghijklmnopqrstuvwxyz"))) (tCB b0d (a9 (U1 (c0i (b5 0)) T8 (tOp (qIn false) (b5 0) (tOp a1R (tC (.str "abcdefghijklmnopqrstuvwxyz")) (tC (.str "0123456789"))))) j5))))
def U5(K:Fg):Sp:=spD 1 1 (a5O K)
def b2M(K:Fg):TS:=J7 (W6 (tCB a2D (a9 (b5 0) (a9 (tC (.ty "int")) j5))) (a9l (tCB a2D (a9 (b5 0) (a9 (tC (.ty "bool")) j5)))))
def a0H(K:Fg):Sp:=spD 1 1 (b2M K)
def a7x(K:Fg):TS:=J7 (W6 (v4 (a0H K) [] E0 (a9 (b5 0) j5)) (a3s qLe qLt (tC (.int 0)) (b5 0) (tC (.int 1000000000000))))
def a1G(K:Fg):Sp:=spD 1 1 (a7x K)
def a4W(K:Fg):TS:=J7 (b8G (v4 (U5 K) [] E0 (a9 (b5 0) j5)) (v4 (a1G K) [] E0 (a9 (b5 0) j5)))
def S9(K:Fg):Sp:=spD 1 1 (a4W K)
def a9k(K:Fg)(c:Cn):TS:=u7 (J8 (tOr (a4v (tB (tCB a2D (a9 (b5 0) (a9 (tC (.ty "tuple")) j5))))) (C9 (tOp qNe (tCB Q1 (a9 (b5 0) j5)) (tC (.int 3))))) (J7 (tC (.bl false))) D0) (J7 (W6 (tOp (c1O K) (tOp qIx (b5 0) (tC (.int 0))) (tC (.ref c.a2V))) (W6 (v4 (S9 K) [] E0 (a9 (tOp qIx (b5 0) (tC (.int 1))) j5)) (v4 (S9 K) [] E0 (a9 (tOp qIx (b5 0) (tC (.int 2))) j5)))))
def a2u(K:Fg)(c:Cn):Sp:=spD 1 1 (a9k K c)
def b1t(K:Fg)(c:Cn):TS:=u7 (J8 (tOr (a4v (tB (tCB a2D (a9 (b5 0) (a9 (tC (.ty "tuple")) j5))))) (C9 (tOp qEq (tCB Q1 (a9 (b5 0) j5)) (tC (.int 0))))) (J7 (tC (.bl false))) D0) (u7 (D8 (tOp qIx (b5 0) (tC (.int 0))) (o0 1)) (u7 (D8 (tSl qSl (b5 0) (a6C (tC (.int 1))) a1B) (o0 2)) (u7 (J8 (C9 (tOp qEq (b5 1) (tC (.str "set")))) (J7 (W6 (tOp qEq (tCB Q1 (a9 (b5 2) j5)) (tC (.int 2))) (W6 (v4 (U5 K) [] E0 (a9 (tOp qIx (b5 2) (tC (.int 0))) j5)) (v4 (a2u K c) [] E0 (a9 (tOp qIx (b5 2) (tC (.int 1))) j5))))) D0) (u7 (J8 (C9 (tOp qEq (b5 1) (tC (.str "copy")))) (J7 (W6 (tOp qEq (tCB Q1 (a9 (b5 2) j5)) (tC (.int 2))) (W6 (v4 (U5 K) [] E0 (a9 (tOp qIx (b5 2) (tC (.int 0))) j5)) (v4 (S9 K) [] E0 (a9 (tOp qIx (b5 2) (tC (.int 1))) j5))))) D0) (u7 (J8 (C9 (tOp qEq (b5 1) (tC (.str "take")))) (J7 (W6 (tOp qEq (tCB Q1 (a9 (b5 2) j5)) (tC (.int 1))) (v4 (U5 K) [] E0 (a9 (tOp qIx (b5 2) (tC (.int 0))) j5)))) D0) (u7 (J8 (C9 (tOp (qIn false) (b5 1) (a3e (a9 (tC (.str "tell")) (a9 (tC (.str "ask")) j5))))) (J7 (W6 (tOp qEq (tCB Q1 (a9 (b5 2) j5)) (tC (.int 1))) (v4 (S9 K) [] E0 (a9 (tOp qIx (b5 2) (tC (.int 0))) j5)))) D0) (J7 (W6 (tOp qEq (b5 1) (tC (.str "skip"))) (tOp qEq (tCB Q1 (a9 (b5 2) j5)) (tC (.int 0)))))))))))
def a3R(K:Fg)(c:Cn):Sp:=spD 1 3 (b1t K c)
def a4Y(K:Fg):TS:=a0q (a6H K (a9 (b5 0) j5)) (b0s K 2 (a0V (o0 1) (a0V (o0 2) (b0u)))) (J8 (a4v (tB (b5 2))) (fun _ _ _=>False) D0)
def Y4(K:Fg):Sp:=spD 1 3 (a4Y K)
def a7y(K:Fg):TS:=J7 (W6 (v4 (a0H K) [] E0 (a9 (b5 0) j5)) (a3s qLe qLt (tC (.int 0)) (b5 0) (b5 1)))
def a1H(K:Fg):Sp:=spD 2 2 (a7y K)
def a6A(K:Fg):TS:=u7 (J8 (a4v (tB (tCB a2D (a9 (b5 1) (a9 (tC (.ty "list")) j5))))) (J7 (tC (.bl false))) D0) (u7 (D8 (tIf (C9 (tOp qEq (tOp qIx (b5 0) (tC (.int 0))) (tC (.str "ask")))) (a3e (a9 (tC (.int 2)) j5)) (a3e (a9 (tC (.int 0)) (a9 (tC (.int 1)) j5)))) (o0 3)) (J7 (W6 (tOp (qIn false) (tCB Q1 (a9 (b5 1) j5)) (b5 3)) (tCB b0d (a9 (U1 (Q9 K (b5 1)) T8 (v4 (a1H K) [] E0 (a9 (b5 0) (a9 (b5 3) j5)))) j5)))))
def a1b(K:Fg):Sp:=spD 3 4 (a6A K)
def a4l(K:Fg):TS:=u7 (J8 (tOr (a4v (tB (tCB a2D (a9 (b5 1) (a9 (tC (.ty "list")) j5))))) (C9 (tOp qNe (tCB Q1 (a9 (b5 1) j5)) (tCB Q1 (a9 (b5 0) j5))))) (fun _ _ _=>False) D0) (a0G (v4 (Y4 K) [] E0 (a9 (a7z K (c0h K (a9 (b5 0) (a9 (b5 1) j5))) T8 (v4 (a1b K) [] E0 (a9 (b5 0) (a9 (b5 1) (a9 (tCB Q1 (a9 (b5 2) j5)) j5))))) j5)))
def a0g(K:Fg):Sp:=spD 2 2 (a4l K)
def a9h(K:Fg):TS:=u7 (D8 a2s (o0 2)) (u7 (D8 (tCB a1J (a9 (b5 0) j5)) (o0 3)) (u7 (a5P (C9 (tOp qGt (tCB Q1 (a9 (b5 3) j5)) (tC (.int 0)))) (u7 (D8 (b8H K "list" b4X (b5 3)) (o0 4)) (J8 (tB (a0Z (b5 4) (b5 2))) (u7 (a0T (b5 2) (b5 4) (tC (.bl true))) (a0G (tBM K "list" a2E (b5 3) (a9 (tOp qIx (b5 1) (b5 4)) j5)))) D0))) (J7 (b5 2))))
def a1o(K:Fg):Sp:=spD 2 5 (a9h K)
def b1q(K:Fg):TS:=u7 (fun D σ H=>(U1 (Q9 K (b5 0)) T8 (a0F j5)) σ H fun v H1=>D.nx (σ.set 1 (some v)) H1) (u7 (a0q (a6H K (a9 (b5 0) j5)) (b0s K 2 (a0V (o0 2) (a0V (o0 3) (b0u)))) (a0q (Q9 K (b5 3)) (o0 4) (a0G (tBM K "list" a0y (tOp qIx (b5 1) (b5 4)) (a9 (b5 2) j5))))) (J7 (b5 1)))
def a3O(K:Fg):Sp:=spD 1 5 (b1q K)
def a7t(K:Fg):TS:=J7 (a7z K (a6H K (a9 (b5 0) j5)) (C9 (tOp qEq (tCB Q1 (a9 (b5 1) j5)) (tC (.int 0)))) (b5 0))
def a1C(K:Fg):Sp:=spD 1 1 (a7t K)
def a4X(K:Fg):TS:=u7 (D8 (v4 (a1o K) [] E0 (a9 (a0F (a9 (tC (.int 0)) j5)) (a9 (b5 0) j5))) (o0 1)) (u7 (D8 (v4 (a1o K) [] E0 (a9 (v4 (a1C K) [] E0 (a9 (b5 0) j5)) (a9 (v4 (a3O K) [] E0 (a9 (b5 0) j5)) j5))) (o0 2)) (a0q (a0I (a9 (tCB Q1 (a9 (b5 0) j5)) j5)) (o0 3) (J8 (tOr (tB (a0Z (b5 3) (b5 1))) (tB (a0Z (b5 3) (b5 2)))) (fun _ _ _=>False) D0)))
def a0w(K:Fg):Sp:=spD 1 4 (a4X K)
def a7u(K:Fg)(c:Cn):TS:=u7 (D8 (a0F (a9 (tC (.ref c.R6)) j5)) (o0 1)) (u7 (a0q (a6H K (a9 (b5 0) j5)) (b0s K 2 (a0V (o0 2) (a0V (o0 3) (b0u)))) (a0G (tBM K "list" a2E (b5 1) (a9 (U1 (a0I (a9 (tCB Q1 (a9 (b5 3) j5)) j5)) T8 (a3e (a9 (b5 3) (a9 (b5 0) j5)))) j5)))) (J7 (b5 1)))
def a1D(K:Fg)(c:Cn):Sp:=spD 1 4 (a7u K c)
def a2Y(K:Fg)(c:Cn):TS:=u7 (J8 (C9 (tOp (c1Q K) (b5 1) (tC (.ref c.R6)))) (J7 (tC (.int 0))) D0) (J7 (tOp qIx (tOp qIx (a5Q K (b5 0) "nexts") (tOp qIx (b5 1) (tC (.int 0)))) (tOp qIx (b5 1) (tC (.int 1)))))
def X4(K:Fg)(c:Cn):Sp:=spD 2 2 (a2Y K c)
def a6B(K:Fg)(c:Cn):TS:=u7 (a0G (v4 (Y6 K) [] E0 (a9 (b5 1) (a9 (tC (.int 0)) (a9 (tC (.int 1)) j5))))) (u7 (a0G (v4 (Y4 K) [] E0 (a9 (U1 (Q9 K (b5 1)) T8 (v4 (a3R K c) [] E0 (a9 (b5 0) j5))) j5))) (u7 (a0G (v4 (a0g K) [] E0 (a9 (b5 1) (a9 (b5 2) j5)))) (u7 (a0G (v4 (a0w K) [] E0 (a9 (b5 2) j5))) (u7 (b4W K (b5 0) (tCB a1J (a9 (b5 1) j5)) "rows") (u7 (b4W K (b5 0) (U1 (Q9 K (b5 2)) T8 (tCB a1J (a9 (b5 0) j5))) "nexts") (u7 (b4W K (b5 0) (U1 (Q9 K (b5 1)) T8 (a0F j5)) "entries") (a0q (Q9 K (v4 (a1D K c) [] E0 (a9 (a5Q K (b5 0) "nexts") j5))) (o0 3) (a0G (tBM K "list" a0y (tOp qIx (a5Q K (b5 0) "entries") (b1v c.P4 "leads_to" (X4 K c) [] E0 (b5 0) (a9 (b5 3) j5))) (a9 (b5 3) j5))))))))))
def a1c(K:Fg)(c:Cn):Sp:=spD 3 4 (a6B K c)
def b6C(K:Fg)(c:Cn):TS:=J7 (a9m c.P4 (a1c K c) [] E0 (a9 (tCB a1J (a9 (b5 0) j5)) (a9 (U1 (Q9 K (b5 1)) T8 (tCB a1J (a9 (b5 0) j5))) j5)))
def a6X(K:Fg)(c:Cn):Sp:=spD 2 2 (b6C K c)
def b1u(K:Fg):TS:=u7 (D8 (tC .non) (o0 2)) (u7 (J8 (C9 (tOp (qIn false) (tOp qIx (b5 0) (tC (.int 0))) (a0F (a9 (tC (.str "set")) (a9 (tC (.str "copy")) (a9 (tC (.str "take")) j5)))))) (D8 (tOp qIx (b5 0) (tC (.int 1))) (o0 2)) D0) (u7 (D8 a2s (o0 3)) (u7 (b3X (b5 1) (o0 4) (J8 (a7A (C9 (tOp qNe (b5 4) (b5 2))) (C9 (tOp qNe (a6D (b5 1) (b5 4)) (b5 2)))) (a0T (b5 3) (b5 4) (a6D (b5 1) (b5 4))) D0)) (u7 (J8 (a7A (C9 (tOp qEq (tOp qIx (b5 0) (tC (.int 0))) (tC (.str "copy")))) (C9 (tOp qNe (tOp qIx (b5 0) (tC (.int 2))) (b5 2)))) (a0T (b5 3) (b5 2) (tOp qIx (b5 0) (tC (.int 2)))) D0) (J7 (b5 3))))))
def a3S(K:Fg):Sp:=spD 2 5 (b1u K)
def b6F(K:Fg):TS:=u7 (D8 a2s (o0 2)) (u7 (b3X (b5 0) (o0 3) (J8 (a7A (tB (a8C (b5 3) (b5 1))) (C9 (tOp qEq (a6D (b5 0) (b5 3)) (a6D (b5 1) (b5 3))))) (a0T (b5 2) (b5 3) (a6D (b5 0) (b5 3))) D0)) (J7 (b5 2)))
def a5b(K:Fg):Sp:=spD 2 4 (b6F K)
def a7v(K:Fg):TS:=u7 (fun D σ H=>(U1 (Q9 K (b5 0)) T8 (tC .non)) σ H fun v H1=>D.nx (σ.set 2 (some v)) H1) (u7 (D8 a2s (b0t (b5 2) (tC (.int 0)) a6Q)) (u7 (D8 (tC (.bl true)) (o0 3)) (u7 (a5P (tB (b5 3)) (u7 (D8 (tC (.bl false)) (o0 3)) (a0q (a0I (a9 (tCB Q1 (a9 (b5 0) j5)) j5)) (o0 4) (J8 (C9 (tOp a7P (tOp qIx (b5 2) (b5 4)) (tC .non))) (u7 (D8 (v4 (a3S K) [] E0 (a9 (tOp qIx (b5 0) (b5 4)) (a9 (tOp qIx (b5 2) (b5 4)) j5))) (o0 5)) (a0q (Q9 K (tOp qIx (b5 1) (b5 4))) (o0 6) (u7 (D8 (b5 5) (o0 7)) (u7 (J8 (C9 (tOp a7P (tOp qIx (b5 2) (b5 6)) (tC .non))) (D8 (v4 (a5b K) [] E0 (a9 (tOp qIx (b5 2) (b5 6)) (a9 (b5 5) j5))) (o0 7)) D0) (J8 (C9 (tOp b8X (b5 7) (tOp qIx (b5 2) (b5 6)))) (u7 (D8 (b5 7) (b0t (b5 2) (b5 6) a6Q)) (D8 (tC (.bl true)) (o0 3))) D0))))) D0)))) (J7 (b5 2)))))
def a1E(K:Fg):Sp:=spD 2 8 (a7v K)
def a7w(K:Fg):TS:=u7 (D8 a2s (o0 1)) (u7 (a0q (Q9 K (b5 0)) (o0 2) (u7 (D8 (tCB a1J (a9 (tSl qSl (b5 2) (a6C (tC (.int 1))) a1B) j5)) (o0 3)) (u7 (J8 (C9 (tOp qEq (tOp qIx (b5 2) (tC (.int 0))) (tC (.str "set")))) (D8 (a0F (a9 (tOp qIx (b5 2) (tC (.int 1))) (a9 (tOp qIx (tOp qIx (b5 2) (tC (.int 2))) (tC (.int 1))) (a9 (tOp qIx (tOp qIx (b5 2) (tC (.int 2))) (tC (.int 2))) j5)))) (o0 3)) D0) (a0q (Q9 K (b5 3)) (o0 4) (J8 (tB (tCB a2D (a9 (b5 4) (a9 (tC (.ty "str")) j5)))) (a0T (b5 1) (b5 4) (tC (.bl true))) D0))))) (J7 (tCB b3e (a9 (tCB a3x (a9 (b5 1) j5)) j5))))
def a1F(K:Fg):Sp:=spD 1 5 (a7w K)
def a6z(K:Fg):TS:=u7 (D8 b2O (o0 1)) (u7 (a0q (Q9 K (a5Q K (b5 0) "rows")) (o0 2) (J8 (a7A (C9 (tOp qEq (tOp qIx (b5 2) (tC (.int 0))) (tC (.str "copy")))) (C9 (tOp qNe (tOp qIx (b5 2) (tC (.int 1))) (tOp qIx (b5 2) (tC (.int 2)))))) (a0T (b5 1) (b5 2) (tC (.bl true))) D0)) (J7 (tCB b3g (a9 (b5 1) j5))))
def a1a(K:Fg):Sp:=spD 1 3 (a6z K)
def b1r(K:Fg):TS:=J7 (tIf (C9 (tOp (qIn false) (tOp qIx (b5 0) (tC (.int 0))) (a3e (a9 (tC (.str "set")) (a9 (tC (.str "copy")) (a9 (tC (.str "take")) j5)))))) (tOp qIx (b5 0) (tC (.int 1))) (tC .non))
def a3P(K:Fg):Sp:=spD 1 1 (b1r K)
def a9i(K:Fg):TS:=a0q (a6H K (a9 (tOp qIx (a5Q K (b5 0) "nexts") (b5 1)) j5)) (b0s K 2 (a0V (o0 4) (a0V (o0 5) (b0u)))) (J8 (tB (a0Z (b5 5) (b5 2))) (u7 (a0T (b5 2) (b5 5) (a3e (a9 (b5 1) (a9 (b5 4) j5)))) (a0G (tBM K "list" a0y (b5 3) (a9 (b5 5) j5)))) D0)
def a1p(K:Fg):Sp:=spD 4 6 (a9i K)
def a2X(K:Fg)(c:Cn):TS:=u7 (D8 (b1w ((tC (.int 0),tC (.ref c.R6))::[])) (o0 3)) (u7 (D8 (a0F (a9 (tC (.int 0)) j5)) (o0 4)) (u7 (a0q (a0I (a9 (tCB Q1 (a9 (a5Q K (b5 0) "rows") j5)) j5)) (o0 5) (J8 (tB (tOp qIx (b5 2) (b5 5))) (a0G (v4 (a1p K) [] E0 (a9 (b5 0) (a9 (b5 5) (a9 (b5 3) (a9 (b5 4) j5)))))) D0)) (u7 (D8 (tC (.int 0)) (o0 6)) (u7 (a5P (C9 (tOp qLt (b5 6) (tCB Q1 (a9 (b5 4) j5)))) (u7 (D8 (tOp qIx (b5 4) (b5 6)) (o0 5)) (u7 (b8I 6 (tC (.int 1)) (ipI fun i j=>i+j)) (J8 (a4v (tB (tOp qIx (b5 1) (b5 5)))) (a0G (v4 (a1p K) [] E0 (a9 (b5 0) (a9 (b5 5) (a9 (b5 3) (a9 (b5 4) j5)))))) D0)))) (J7 (b5 3))))))
def X3(K:Fg)(c:Cn):Sp:=spD 3 7 (a2X K c)
def a2h(K:Fg)(c:Cn):TS:=u7 (fun D σ H=>(U1 (Q9 K (a5Q K (b5 0) "rows")) T8 (tOp c1P (b5 0) (b5 2))) σ H fun v H1=>D.nx (σ.set 2 (some v)) H1) (u7 (fun D σ H=>(U1 (Q9 K (a5Q K (b5 0) "rows")) T8 (W6 (tOp c1N (b5 0) (b5 2)) (tOp (qIn false) (v4 (a3P K) [] E0 (a9 (b5 0) j5)) (tSl qSl (b5 2) (a6C (tC (.int 1))) a1B)))) σ H fun v H1=>D.nx (σ.set 3 (some v)) H1) (J7 (v4 (X3 K c) [] E0 (a9 (b5 0) (a9 (b5 2) (a9 (b5 3) j5))))))
def V8(K:Fg)(c:Cn):Sp:=spD 2 4 (a2h K c)
def a4V(K:Fg)(c:Cn):TS:=u7 (a0q (Q9 K (v4 (a1a K) [] E0 (a9 (b5 0) j5))) (o0 3) (J8 (a7A (C9 (tOp qEq (tOp qIx (b5 3) (tC (.int 1))) (b5 2))) (tB (a0Z (b5 1) (v4 (V8 K c) [] E0 (a9 (b5 0) (a9 (b5 3) j5)))))) (J7 (tOp qIx (b5 3) (tC (.int 2)))) D0)) (J7 (tC .non))
def V5(K:Fg)(c:Cn):Sp:=spD 3 4 (a4V K c)
def b3W(K:Fg):TS:=u7 (J8 (C9 (tOp qIs (b5 1) (tC .non))) (J7 (tOp qIs (b5 0) (tC .non))) D0) (u7 (J8 (tB (tCB a2D (a9 (b5 1) (a9 (tC (.ty "str")) j5)))) (J7 (W6 (tCB a2D (a9 (b5 0) (a9 (tC (.ty "str")) j5))) (tOp qEq (b5 0) (b5 1)))) D0) (J7 (W6 (tCB a2D (a9 (b5 0) (a9 (tC (.ty "int")) j5))) (W6 (a9l (tCB a2D (a9 (b5 0) (a9 (tC (.ty "bool")) j5)))) (tOp qEq (b5 0) (b5 1))))))
def a2i(K:Fg):Sp:=spD 2 2 (b3W K)
def b6D(K:Fg)(c:Cn):TS:=u7 (D8 (v4 (a9Q K) [] E0 (a9 (b5 0) j5)) (o0 1)) (u7 (D8 (v4 (a6W K) [] E0 (a9 (b5 1) j5)) (b0s K 2 (a0V (o0 2) (a0V (o0 3) (b0u))))) (u7 (D8 (v4 (a6X K c) [] E0 (a9 (b5 2) (a9 (b5 3) j5))) (o0 4)) (u7 (D8 (v4 (a1E K) [] E0 (a9 (b5 2) (a9 (b5 3) j5))) (o0 5)) (u7 (D8 (tOp a1R (v4 (a1F K) [] E0 (a9 (b5 2) j5)) (a0F (a9 (tC (.str "zz9")) j5))) (o0 6)) (u7 (D8 (v4 (G0 K) [] E0 (a9 (b5 1) (a9 (tCB Q1 (a9 (b5 2) j5)) j5))) (o0 7)) (u7 (a0q (a0I (a9 (tCB Q1 (a9 (b5 2) j5)) j5)) (o0 8) (u7 (D8 (tOp a7O (tOp a1R (b5 7) (b5 8)) (tCB Q1 (a9 (b5 2) j5))) (o0 9)) (a0q (Q9 K (b5 6)) (o0 10) (J8 (a4v (tB (v4 (a2i K) [] E0 (a9 (v4 (V5 K c) [] E0 (a9 (b5 4) (a9 (b5 9) (a9 (b5 10) j5)))) (a9 (a5R (tOp qIx (b5 5) (b5 9)) (b5 10)) j5))))) (J7 (tC (.bl false))) D0)))) (u7 (a0q (a0I (a9 (tC (.int 6)) j5)) (o0 8) (u7 (D8 (v4 (G0 K) [] E0 (a9 (b5 1) (a9 (tCB Q1 (a9 (b5 2) j5)) j5))) (o0 9)) (u7 (D8 (tOp qIx (b5 6) (v4 (G0 K) [] E0 (a9 (b5 1) (a9 (tCB Q1 (a9 (b5 6) j5)) j5)))) (o0 10)) (J8 (a4v (tB (v4 (a2i K) [] E0 (a9 (v4 (V5 K c) [] E0 (a9 (b5 4) (a9 (b5 9) (a9 (b5 10) j5)))) (a9 (a5R (tOp qIx (b5 5) (b5 9)) (b5 10)) j5))))) (J7 (tC (.bl false))) D0)))) (J7 (W6 (tOp (b8Y K) (a5Q K (b5 4) "rows") (b5 2)) (tOp (b8Y K) (a5Q K (b5 4) "nexts") (b5 3)))))))))))
def a7C(K:Fg):Sp:=fun vs H Q _=>vs.length=1/\∀c,a4d K c->b6D K c { nx:=fun _ H'=>Q .non H',rt:=Q } (vs.map some++u0 (11 - vs.length) none) H
end RD
local macro_rules | `(tactic| walk_at "st") => `(tactic| (with_reducible first
 | refine RD.c0S ?_ | refine RD.a3U ?_ | refine RD.c1z ?_ | refine RD.c0Q ?_ | refine RD.b6P ?_ | refine RD.c3V ?_ | refine RD.b6N ?_ | refine RD.c1s ?_ | refine RD.c3P ?_ | refine RD.c3S ?_ | refine RD.c3Y ?_ | refine RD.c4W ?_ | refine RD.c1C ?_ | refine RD.c3Q ?_ | refine RD.c1u ?_ | refine RD.c3U ?_ | refine RD.c3R ?_ | refine RD.b8T ?_ | refine RD.s_un ?_ | refine RD.s_neg ?_ | refine RD.s_c ?_ | refine RD.b0b ?_ | refine RD.b6M ?_ | refine RD.c1A ?_ | refine RD.c4X ?_ | refine RD.c0P ?_ | refine RD.c3T ?_ | refine RD.c4V ?_ | refine RD.c1t ?_ | refine RD.b6L ?_ | refine RD.s_rev ?_ | refine RD.b2Y ?_ | refine RD.c1B ?_ | refine RD.s_bmS ?_
 | refine RD.a5e (by with_unfolding_all rfl) ?_ | refine Exists.intro _ (And.intro (Eq.refl (L2.V.bl _)) ?_) | refine Exists.intro _ (And.intro (Eq.refl (L2.V.int _)) ?_)
 | refine RD.c4l ?_ | refine RD.c1K ?_ | refine RD.c5c ?_ | refine RD.c4m ?_ | refine RD.c5d rfl ?_ | refine RD.c5b rfl ?_))
local macro_rules | `(tactic| walk_at "ev") => `(tactic| repeat walk_at "st")
local macro_rules | `(tactic| walk_at "go") => `(tactic| repeat (first | with_reducible refine RD.Q7 ?_ | walk_at "st"))
local macro_rules | `(tactic| ext) => `(tactic| walk_at "ev")
local macro_rules | `(tactic| exists $t:term) => `(tactic| (refine $t; walk_at "ev"))
local macro_rules | `(tactic| specialize $t:term) => `(tactic| (with_reducible refine $t; walk_at "ev"))
local macro_rules | `(tactic| exact_mod_cast $t:term) => `(tactic| with_reducible refine $t)
local macro_rules | `(tactic| nofun) => `(tactic| (with_reducible refine RD.Q7 ?_; walk_at "ev"))
namespace RD
open PySem PySem.Spec L2
variable{C a b c d dx na p ra:Addr}{H H' H0 H1:Hp}{o:HO}{vs xs ys:List V}{D:a6s}{σ:St}{ta te:TE}{tt:TT}{Q:VK}{v w:V}{z:Str}{ks l:List Nat}{QD:Hp->Prop}{R:It->Hp->Prop}{M N:Nt}{ns:List Int}{as rs:List Addr}{i m:Nat}{Do:Nat->Bool}{kvs:List (Key×V)}{RC:Nat->List V}{ss:List Str}
section
variable {D:Addr}
theorem c1y(h:ta σ H fun v H2=>∃x,v=.str x/\R (Its x) H2):c0i ta σ H R:=h
theorem b7Y{x:Str}(Pv:Nat->List V->Hp->Prop)(h0:Pv 0 [] (upd H1 D (.lst [])))(hP:∀i ys H,Pv i ys H->H D=some (.lst ys))
  (step:∀i c ys H2,x.cps[i]? = some c->Pv i ys H2->∀(R:VK) (R':Hp->Prop),(∀y H5,H5 D=some (.lst ys)->ys.length<j9->Pv (i+1) (ys++[y]) (upd H5 D (.lst (ys++[y])))->R y H5)->(∀H4,Pv (i+1) ys H4->R' H4) ->
   tt (some (.str ⟨#[c]⟩)::σ) H2 fun ok H4=>if ok=true then te (some (.str ⟨#[c]⟩)::σ) H4 R else R' H4)
  (done:∀ys H2,Pv x.length ys H2->QD H2) :
  ∃W:Nat->Nat->List V->Hp->Prop,(∃m,W 0 m [] (upd H1 D (.lst [])))/\∀i m ys H2,W i m ys H2->H2 D=some (.lst ys) /\
   (((Its x).stop i H2 /\ QD H2) \/ ((Its x).go i H2 /\ ∀ v H3,(Its x).yld i H2 v H3 -> tt (some v :: σ) H3 fun ok H4 => if ok = true then
     te (some v::σ) H4 (fun y H5=>H5 D=some (.lst ys)/\ys.length<j9/\∃m',m'<m/\W (i+1) m' (ys++[y]) (upd H5 D (.lst (ys++[y]))))
     else ∃m',m'<m/\W (i+1) m' ys H4)):=by
 refine⟨fun i m ys H=>m=x.length - i/\i<=x.length/\Pv i ys H,⟨x.length,rfl,L9 _,h0⟩,?_⟩
 rintro i m ys H2 ⟨rfl,hi,p⟩
 refine⟨hP i ys H2 p,?_⟩
 by_cases hlt:i<x.length
 ·refine .inr ⟨hlt,fun v H3 y=>?_⟩
  obtain⟨e,c,hc,ev⟩:=y
  subst e ev
  exact step i c ys _ hc p _ _ (fun y H5 h1 h2 h3=>⟨h1,h2,x.length - (i+1),by omega,rfl,hlt,h3⟩) fun H4 h=>⟨x.length - (i+1),by omega,rfl,hlt,h⟩
 ·have e:i=x.length:=by omega
  subst e
  exact .inl ⟨d9 _,done ys H2 p⟩
end
def sgn(S:Str)(c:Nat):Bool := !(Builtin.Str.occurrences S ⟨#[c]⟩ 0 S.length 1).isEmpty
theorem c0V{S:Str}{c:Nat}(h:Q (.bl (sgn S c)) H):qIn false (.str ⟨#[c]⟩) (.str S) H Q:=h
abbrev LET:Str := "abcdefghijklmnopqrstuvwxyz"
abbrev SGN:Str := "abcdefghijklmnopqrstuvwxyz0123456789"
theorem c1o:LET++("0123456789" : Str)=SGN:=by decide +kernel
def a4o(z:Str):Bool:=decide (1<=z.length)&&decide (z.length<=8)&&(match z.cps[0]? with | some c=>sgn LET c | none=>false)&&z.cps.toList.all (sgn SGN)
theorem b1Z{K:Fg}{E:XK}(hz:z.length<=100)(k:∀H',o7 H H'->Q (.bl (a4o z)) H'):U5 K [.str z] H Q E:=by
 refine⟨rfl,?_⟩
 unfold a5O
 have hz':=small (show z.length<=100000 by omega)
 nofun
 exists a0U (s := "str") rfl (by decide) ?_
 exists t7 (by decide) ?_
 exists c1J hz' ?_
 by_cases h1:1<=z.length
 case neg=>
  exists t7 (c6w (by omega)) ?_
  exists C3 rfl ?_
  have e:a4o z=false:=by unfold a4o;rw[c6w h1];simp
  rw[<-e]
  exact k H (o7.refl _)
 exists C3 (c6x (by omega)) ?_
 by_cases h8:z.length<=8
 case neg=>
  rw[c6w (show ¬((z.length:Int)<=8) by omega)]
  exists C3 rfl ?_
  have e:a4o z=false:=by unfold a4o;rw[c6w h8];simp
  rw[<-e]
  exact k H (o7.refl _)
 rw[c6x (show(z.length:Int)<=8 by omega)]
 exists t7 rfl ?_
 have hl:z.cps.toList.length=z.length:=Z5
 obtain⟨c0,hc0,hc1⟩:=a1T (xs:=z.cps.toList) (i:=0) (by decide) (by omega)
 have hc2:z.cps[0]? = some c0:=by rw[<-M4];exact hc1
 exists c4h hz' hc0 ?_
 have en:a4o z=(sgn LET c0&&z.cps.toList.all (sgn SGN)):=by
  unfold a4o
  rw[c6x h1,c6x h8,hc2]
  simp
 refine c0V (S:=LET) ?_
 refine⟨_,rfl,?_⟩
 cases hs:sgn LET c0 with
 | false=>
  refine c2Z ?_
  have e:a4o z=false:=by rw[en,hs];rfl
  rw[<-e]
  exact k H (o7.refl _)
 | true=>
  exists b1Y ?_
  specialize U6 (c1y ?_)
  refine⟨z,rfl,fun D hD=>?_⟩
  refine b7Y (fun i ys H2=>ys=(z.cps.toList.take i).map (fun c=>V.bl (sgn SGN c))/\H2=upd H D (.lst ys)) ⟨by simp,rfl⟩ ?_ ?_ ?_
  ·rintro i ys _ ⟨_,rfl⟩
   exact c6
  ·rintro i c ys _ hc ⟨rfl,rfl⟩ R R' hR hR'
   have hc':z.cps.toList[i]? = some c:=by rw[M4];exact hc
   ext
   exists b1Y ?_
   refine c1M (small (by decide +kernel)) ?_
   have e:(("abcdefghijklmnopqrstuvwxyz" : Str)++("0123456789" : Str))=SGN:=c1o
   rw[e]
   refine c0V (S:=SGN) ?_
   refine hR (.bl (sgn SGN c)) _ c6 (G9 ?_) ⟨?_,?_⟩
   ·rw[a8,K0];omega
   ·rw[E9,hc'];simp
   ·rw[a6U]
  ·rintro ys _ ⟨rfl,rfl⟩
   ext
   have eb:R1 ((z.cps.toList.take z.length).map (fun c=>V.bl (sgn SGN c)))=some ((z.cps.toList.take z.length).map (sgn SGN)):=by
    generalize z.cps.toList.take z.length=l
    induction l with
    | nil=>rfl
    | cons a r ih=>simp[R1,ih]
   have ea:((z.cps.toList.take z.length).map (sgn SGN)).all id=a4o z:=by
    rw[en,hs,b2A,a0A (by omega),List.all_map]
    rfl
   refine(show b0d [.ref D] _ _ from ?_)
   unfold b0d
   simp only[c6]
   refine⟨_,eb,?_⟩
   rw[ea]
   exact k _ (v0 hD)
def NmS(s:Str):Prop:=a4o s=true/\s.length<=8
def OpN(v:V):Prop:=(∃s,v=.str s/\NmS s)\/∃n:Int,v=.int n/\0<=n/\n<1000000000000
theorem OpN.flat{v:V}(h:OpN v):F2 v=true:=by
 rcases h with ⟨s,rfl,_⟩ | ⟨n,rfl,_⟩ <;> rfl
abbrev b8k:List Str:=["plus","minus","times","less","same"]
def a4s(H:Hp)(p:Addr):Prop:=∃k v1 v2,H p=some (.tup [.str k,v1,v2])/\OpN v1/\OpN v2/\k∈b8k
theorem a4s.ts(h:a4s H p)(t:U2 H H'):a4s H' p:=by
 obtain⟨k,v1,v2,h,a,b,c⟩:=h
 exact⟨k,v1,v2,t _ _ h,a,b,c⟩
inductive a4O(H:Hp):List V->Prop
 | set (n:Str) (p:Addr):NmS n->a4s H p->a4O H [.str "set",.str n,.ref p]
 | copy (n:Str) (v:V):NmS n->OpN v->a4O H [.str "copy",.str n,v]
 | take (n:Str):NmS n->a4O H [.str "take",.str n]
 | tell (v:V):OpN v->a4O H [.str "tell",v]
 | ask (v:V):OpN v->a4O H [.str "ask",v]
 | skip:a4O H [.str "skip"]
theorem a4O.ts(h:a4O H xs)(t:U2 H H'):a4O H' xs:=by
 cases h with
 | set n p a d=>exact .set n p a (d.ts t)
 | copy n v a o=>exact .copy n v a o
 | take n a=>exact .take n a
 | tell v o=>exact .tell v o
 | ask v o=>exact .ask v o
 | skip=>exact .skip
def a8r(H:Hp)(v:V)(ask:Bool):Prop:=∃p xs,v=.ref p/\H p=some (.tup xs)/\a4O H xs/\(∃k r,xs=.str k::r/\decide ((k:Str) = "ask")=ask)
theorem a8r.ts{a:Bool}(h:a8r H v a)(t:U2 H H'):a8r H' v a:=by
 obtain⟨p,xs,rfl,h,r,q⟩:=h
 exact⟨p,xs,rfl,t _ _ h,r.ts t,q⟩
theorem c3c{n:Int}(k:Q (.bl true) H) :
  J7 (W6 (tCB a2D (a9 (b5 0) (a9 (tC (.ty "int")) j5))) (a9l (tCB a2D (a9 (b5 0) (a9 (tC (.ty "bool")) j5))))) { nx:=fun _ H'=>Q .non H',rt:=Q } [some (.int n)] H:=by
 ext
 exists a0U (s := "int") rfl (by decide) ?_
 exists C3 (by decide) ?_
 exists a0U (s := "int") rfl (by decide) ?_
 exact k
theorem a5p{K:Fg}{n:Int}{E:XK}(k:Q (.bl true) H):a0H K [.int n] H Q E:=⟨rfl,c3c k⟩
theorem b0m{K:Fg}{n:Int}{E:XK}(h0:0<=n)(h1:n<1000000000000)(k:Q (.bl true) H):a1G K [.int n] H Q E:=by
 refine⟨rfl,?_⟩
 unfold a7x
 ext
 refine a5p ?_
 exists ⟨_,rfl,b1Y ?_⟩
 exists C3 (c6x h0) ?_
 show Q (.bl (decide (n<1000000000000))) H
 rw[c6x h1]
 exact k
theorem b0n{K:Fg}{n m:Int}{E:XK}(h0:0<=n)(h1:n<m)(k:Q (.bl true) H):a1H K [.int n,.int m] H Q E:=by
 refine⟨rfl,?_⟩
 unfold a7y
 ext
 refine a5p ?_
 exists ⟨_,rfl,b1Y ?_⟩
 exists C3 (c6x h0) ?_
 show Q (.bl (decide (n<m))) H
 rw[c6x h1]
 exact k
theorem a2J{K:Fg}{E:XK}(h:NmS z)(k:∀H',o7 H H'->Q (.bl true) H'):U5 K [.str z] H Q E:=by
 refine b1Z (by have:=h.2;omega) fun H' s=>?_
 rw[h.1]
 exact k H' s
theorem b2a{K:Fg}{n:Int}{E:XK}(k:Q (.bl false) H):U5 K [.int n] H Q E:=by
 refine⟨rfl,?_⟩
 unfold a5O
 nofun
 exists a0U (s := "int") rfl (by decide) ?_
 refine C3 (by decide) ?_
 exists C3 rfl ?_
 exact k
theorem Y5{K:Fg}{E:XK}(h:OpN v)(k:∀H',o7 H H'->Q (.bl true) H'):S9 K [v] H Q E:=by
 refine⟨rfl,?_⟩
 unfold a4W
 ext
 rcases h with ⟨s,rfl,hs⟩ | ⟨n,rfl,h0,h1⟩
 ·refine a2J hs fun G s=>?_
  exact⟨_,rfl,b1Y (k G s)⟩
 ·refine b2a ?_
  exists ⟨_,rfl,c2Z ?_⟩
  exact b0m h0 h1 (k H (o7.refl _))
theorem b7N{k:Str}(h:k∈b8k):inV (.str k) [.str "plus",.str "minus",.str "times",.str "less",.str "same"]=true:=by
 simp only[b8k,c8,l6,or_false]at h
 rcases h with rfl | rfl | rfl | rfl | rfl <;> decide +kernel
theorem b3C{K:Fg}{c:Cn}{E:XK}(ck:a4d K c)(h:a4s H p)(k:∀H',o7 H H'->Q (.bl true) H'):a2u K c [.ref p] H Q E:=by
 obtain⟨kd,v1,v2,hp,o1,o2,hk⟩:=h
 refine⟨rfl,?_⟩
 unfold a9k
 nofun
 exists a0U (s := "tuple") (by simp only[a2r,hp]) (by decide) ?_
 exists t7 (by decide) ?_
 exists a3w hp ?_
 exists t7 (by simp) ?_
 exists L8 hp (a3f _ _) ?_
 refine⟨_,_,rfl,ck.b0X H,rfl,rfl,?_⟩
 exists ⟨_,rfl,C3 (b7N hk) ?_⟩
 exists L8 hp (a2Q _ _ _) ?_
 refine Y5 o1 fun G1 s1=>?_
 exists ⟨_,rfl,b1Y ?_⟩
 exists L8 (s1 _ _ hp) (a8T _ _ _ _) ?_
 exact Y5 o2 fun G2 s2=>k G2 (s1.trans s2)
theorem c0r(a:V)(r:List V):a4M (a::r) (some 1) none=r:=by
 unfold a4M
 have e:HT.sIx (a::r).length 0 (some 1)=1:=by
  have:=HT.b0c (a::r).length 0 1
  rw[show((1:Nat):Int)=1 from rfl]at this
  rw[this,v7]
  omega
 rw[e]
 show List.take ((a::r).length - 1) r=r
 rw[a0A (by simp)]
theorem a7Y(a:V)(r:List V):¬(HT.sIx (a::r).length 0 (some 1)=0/\HT.sIx (a::r).length (a::r).length none=(a::r).length):=by
 intro h
 have e:HT.sIx (a::r).length 0 (some 1)=1:=by
  have:=HT.b0c (a::r).length 0 1
  rw[show((1:Nat):Int)=1 from rfl]at this
  rw[this,v7]
  omega
 omega
theorem b5t{K:Fg}{c:Cn}{a:Bool}{E:XK}(ck:a4d K c)(h:a8r H v a)(k:∀H',o7 H H'->Q (.bl true) H'):a3R K c [v] H Q E:=by
 obtain⟨p,xs,rfl,hp,hr,kd,r,rfl,_⟩:=h
 refine⟨rfl,?_⟩
 unfold b1t
 nofun
 exists a0U (s := "tuple") (by simp only[a2r,hp]) (by decide) ?_
 exists t7 (by decide) ?_
 exists a3w hp ?_
 exists t7 (c6w (by intro z;have:=V.int.inj z;rw[v7]at this;omega)) ?_
 nofun
 exists L8 hp (a3f _ _) ?_
 nofun
 refine b6Y hp (a7Y _ _) fun q G hq e s=>?_
 rw[c0r]at e
 ext
 have hr:=hr.ts (o7.ts s)
 cases hr with
 | set n d hn hd=>
  nofun
  exists C3 (by decide) ?_
  exists a3w e ?_
  exists C3 (by simp) ?_
  exists L8 e (a3f _ _) ?_
  refine a2J hn fun G1 s1=>?_
  exists ⟨_,rfl,b1Y ?_⟩
  exists L8 (s1 _ _ e) (a2Q _ _ _) ?_
  exact b3C ck (hd.ts (o7.ts s1)) fun G2 s2=>k G2 ((s.trans s1).trans s2)
 | copy n v hn ho=>
  nofun
  exists t7 (by decide) ?_
  nofun
  exists C3 (by decide) ?_
  exists a3w e ?_
  exists C3 (by simp) ?_
  exists L8 e (a3f _ _) ?_
  refine a2J hn fun G1 s1=>?_
  exists ⟨_,rfl,b1Y ?_⟩
  exists L8 (s1 _ _ e) (a2Q _ _ _) ?_
  exact Y5 ho fun G2 s2=>k G2 ((s.trans s1).trans s2)
 | take n hn=>
  nofun
  exists t7 (by decide) ?_
  nofun
  exists t7 (by decide) ?_
  nofun
  exists C3 (by decide) ?_
  exists a3w e ?_
  exists C3 (by simp) ?_
  exists L8 e (a3f _ _) ?_
  exact a2J hn fun G1 s1=>k G1 (s.trans s1)
 | tell v ho=>
  nofun
  exists t7 (by decide) ?_
  nofun
  exists t7 (by decide) ?_
  nofun
  exists t7 (by decide) ?_
  nofun
  refine J5 (by simp) fun q2 G2 hq2 e2 s2=>?_
  exists a9o e2 rfl rfl ?_
  exists C3 (by decide +kernel) ?_
  exists a3w (s2 _ _ e) ?_
  exists C3 (by simp) ?_
  exists L8 (s2 _ _ e) (a3f _ _) ?_
  exact Y5 ho fun G1 s1=>k G1 ((s.trans s2).trans s1)
 | ask v ho=>
  nofun
  exists t7 (by decide) ?_
  nofun
  exists t7 (by decide) ?_
  nofun
  exists t7 (by decide) ?_
  nofun
  refine J5 (by simp) fun q2 G2 hq2 e2 s2=>?_
  exists a9o e2 rfl rfl ?_
  exists C3 (by decide +kernel) ?_
  exists a3w (s2 _ _ e) ?_
  exists C3 (by simp) ?_
  exists L8 (s2 _ _ e) (a3f _ _) ?_
  exact Y5 ho fun G1 s1=>k G1 ((s.trans s2).trans s1)
 | skip=>
  nofun
  exists t7 (by decide) ?_
  nofun
  exists t7 (by decide) ?_
  nofun
  exists t7 (by decide) ?_
  nofun
  refine J5 (by simp) fun q2 G2 hq2 e2 s2=>?_
  exists a9o e2 rfl rfl ?_
  exists t7 (by decide +kernel) ?_
  exists C3 (by decide) ?_
  exists a3w (s2 _ _ e) ?_
  have e0:decide (V.int ((([]:List V).length:Nat):Int)=V.int 0)=true:=by decide
  rw[e0]
  exact k G2 (s.trans s2)
theorem ix0{α:Type}(a b c d:α):ixN [a,b,c,d].length 0=some 0:=by
 show ixN 4 0=some 0
 decide
theorem ix1{α:Type}(a b c d:α):ixN [a,b,c,d].length 1=some 1:=by
 show ixN 4 1=some 1
 decide
theorem ix2{α:Type}(a b c d:α):ixN [a,b,c,d].length 2=some 2:=by
 show ixN 4 2=some 2
 decide
structure a8s(H:Hp)(b:Addr)(i0 i1 i2:Int)(c:Addr)(ns:List Int):Prop where
 hb:H b=some (.lst [.int i0,.int i1,.int i2,.ref c])
 hc:H c=some (.lst (ns.map V.int))
 p0:0<=i0
 p1:0<=i1
 p1':i1<2147483647
 p2:0<=i2
 pn:∀x∈ns,0<=x
theorem a8s.bag{i0 i1 i2:Int}(h:a8s H b i0 i1 i2 c ns):Bag H b c:=⟨i0,i1,i2,ns,h.hb,h.hc,h.p0,h.p1,h.p1',h.p2,h.pn⟩
theorem Bag.parts(h:Bag H b c):∃i0 i1 i2 ns,a8s H b i0 i1 i2 c ns:=by
 obtain⟨i0,i1,i2,ns,h1,h2,h3,h4,h5,h6,h7⟩:=h.ex
 exact⟨i0,i1,i2,ns,h1,h2,h3,h4,h5,h6,h7⟩
theorem a8s.ne{i0 i1 i2:Int}(h:a8s H b i0 i1 i2 c ns):c≠b:=G5 h.hc h.hb (by
  intro z
  have z:=HO.lst.inj z
  cases ns with
  | nil=>cases z
  | cons a r=>cases r with
   | nil=>cases z
   | cons a2 r=>cases r with
    | nil=>cases z
    | cons a3 r=>cases r with
     | nil=>cases z
     | cons a4 r=>simp at z)
theorem a8s.put{i0 i1 i2 j0 j1 j2:Int}(h:a8s H b i0 i1 i2 c ns)(q0:0<=j0)(q1:0<=j1)(q1':j1<2147483647)(q2:0<=j2) :
  a8s (upd H b (.lst [.int j0,.int j1,.int j2,.ref c])) b j0 j1 j2 c ns:=⟨c6,by rw[c9 h.ne];exact h.hc,q0,q1,q1',q2,h.pn⟩
theorem K7{K:Fg}{many:Int}{E:XK}(hB:Bag H b c)(h0:0<many)(h1:many<2 ^ 64)
  (k:∀n H',0<=n->n<many->Bag H' b c->D3 b H H'->Q (.int n) H'):G0 K [.ref b,.int many] H Q E:=by
 obtain⟨i0,i1,i2,ns,B⟩:=hB.parts
 refine⟨rfl,?_⟩
 unfold b6z
 refine a0S (P:=fun σ H1=>∃x2 x3 j0 j1 j2,σ=[some (.ref b),some (.int many),x2,x3,none,none,none]/\a8s H1 b j0 j1 j2 c ns/\D3 b H H1) ?_ ?_
 ·-- the second part
  rintro _ H1 ⟨x2,x3,j0,j1,j2,rfl,B1,k1⟩
  refine a0S (P:=fun σ H2=>H2=H1/\σ=[some (.ref b),some (.int many),x2,x3,none,none,none]) ?_ ?_
  ·rintro _ _ ⟨rfl,rfl⟩
   walk_at "go"
   refine E7 B1.hb (a2Q _ _ _) ?_
   walk_at "go"
   refine a1r (.inr (by omega)) ?_
   walk_at "go"
   refine a1r (by omega) ?_
   walk_at "go"
   have g1:=T7 (j1 * 39373) (show(1000000007:Int)≠0 by decide)
   have g2:=R4 (j1 * 39373) (show(0:Int)<1000000007 by decide)
   refine a1r (.inr (by omega)) ?_
   walk_at "go"
   refine a1r (by omega) ?_
   walk_at "go"
   have g3:=T7 (j1 * 39373 % 1000000007 * 30011) (show(998244353:Int)≠0 by decide)
   have g4:=R4 (j1 * 39373 % 1000000007 * 30011) (show(0:Int)<998244353 by decide)
   refine a0P (fun _=>?_) (fun _=>?_)
   ·walk_at "go"
    refine a1r (.inr (by omega)) ?_
    walk_at "go"
    refine a1r h0 ?_
    exact k _ _ (T7 _ (by omega)) (R4 _ h0) B1.bag k1
   ·walk_at "go"
    refine a1r (by omega) ?_
    walk_at "go"
    refine a1r h0 ?_
    exact k _ _ (T7 _ (by omega)) (R4 _ h0) B1.bag k1
  ·intro nx hnx
   walk_at "go"
   refine E7 B1.hb (a3f _ _) ?_
   walk_at "go"
   refine a0P (fun _=>?_) (fun _=>?_)
   ·walk_at "go"
    refine E7 B1.hb (a3f _ _) ?_
    walk_at "go"
    refine a1r h0 ?_
    walk_at "go"
    refine E7 B1.hb (a3f _ _) ?_
    walk_at "go"
    refine a1r ⟨h0,h1⟩ ?_
    walk_at "go"
    refine a7N B1.hb (ix0 _ _ _ _) ?_
    walk_at "go"
    refine k _ _ (T7 _ (by omega)) (R4 _ h0) (B1.put (Int.ediv_nonneg B1.p0 (by omega)) B1.p1 B1.p1' B1.p2).bag (k1.trans (D3.upd _ _ _))
   ·walk_at "go"
    exact hnx _ _ ⟨rfl,rfl⟩
 ·intro nx hnx
  walk_at "go"
  refine E7 B.hb (a3f _ _) ?_
  walk_at "go"
  refine a0P (fun e=>?_) (fun _=>?_)
  ·have e:i0=0:=by simpa using e
   subst e
   nofun
   exact_mod_cast a0S (P:=fun σ H1=>∃m x3 j0 j2,σ=[some (.ref b),some (.int many),some (.int m),x3,none,none,none]/\a8s H1 b j0 i1 j2 c ns/\D3 b H H1/\0<=m) ?_ ?_
   ·rintro _ H1 ⟨m,x3,j0,j2,rfl,B1,k1,hm⟩
    walk_at "go"
    refine E7 B1.hb (a2Q _ _ _) ?_
    walk_at "go"
    refine a1r (.inr (by omega)) ?_
    walk_at "go"
    refine a1r (by omega) ?_
    walk_at "go"
    refine a7N B1.hb (ix1 _ _ _ _) ?_
    have g1:=T7 (i1 * 48271+m) (show(2147483647:Int)≠0 by decide)
    have g2:=R4 (i1 * 48271+m) (show(0:Int)<2147483647 by decide)
    exact hnx _ _ ⟨_,x3,j0,_,j2,rfl,B1.put B1.p0 g1 g2 B1.p2,k1.trans (D3.upd _ _ _)⟩
   ·intro nx2 hnx2
    walk_at "go"
    refine E7 B.hb (a8T _ _ _ _) ?_
    walk_at "go"
    refine E7 B.hb (c4F _ _ _ _ _) ?_
    walk_at "go"
    refine K8 B.hc ?_
    walk_at "go"
    refine a0P (fun e=>?_) (fun _=>?_)
    ·have e:i2<(ns.length:Int):=by simpa using e
     obtain⟨v,ev,ev2⟩:=a1T (xs:=ns.map V.int) B.p2 (by simpa using e)
     obtain⟨z,ez,rfl⟩:∃z,ns[i2.toNat]? = some z/\v=V.int z:=by
      rw[b8]at ev2
      cases q:ns[i2.toNat]? with
      | none=>rw[q]at ev2;cases ev2
      | some z=>rw[q]at ev2;exact⟨z,rfl,(Option.some.inj ev2).symm⟩
     have hz:0<=z:=B.pn z (mI ez)
     walk_at "go"
     refine E7 B.hb (c4F _ _ _ _ _) ?_
     walk_at "go"
     refine E7 B.hb (a8T _ _ _ _) ?_
     walk_at "go"
     refine E7 B.hc ev ?_
     walk_at "go"
     exists c4i B.hb (by decide) rfl ?_
     refine a7N B.hb (ix2 _ _ _ _) ?_
     have B2:=B.put (j0:=0) (j1:=i1) (j2:=i2+1) (Int.le_refl _) B.p1 B.p1' (by have:=B.p2;omega)
     exact_mod_cast a0S (P:=fun σ H1=>∃j0,σ=[some (.ref b),some (.int many),some (.int 12345),some (.int z),none,none,none]/\a8s H1 b j0 i1 (i2+1) c ns/\D3 b H H1) ?_ ?_
     ·rintro _ H1 ⟨j0,rfl,B1,k1⟩
      walk_at "go"
      refine a1r (by omega) ?_
      walk_at "go"
      have g1:=T7 z (show(2147483647:Int)≠0 by decide)
      exact hnx2 _ _ ⟨_,_,j0,_,rfl,B1,k1,by omega⟩
     ·intro nx3 hnx3
      walk_at "go"
      refine a0P (fun _=>?_) (fun _=>?_)
      ·walk_at "go"
       refine a7N B2.hb (ix0 _ _ _ _) ?_
       refine hnx3 _ _ ⟨z,rfl,?_,(D3.upd _ _ _).trans (D3.upd _ _ _)⟩
       exact B2.put hz B.p1 B.p1' (by have:=B.p2;omega)
      ·walk_at "go"
       exact hnx3 _ _ ⟨0,rfl,B2,D3.upd _ _ _⟩
    ·walk_at "go"
     exact hnx2 _ _ ⟨_,_,0,i2,rfl,B,D3.refl _ _,by decide⟩
  ·walk_at "go"
   exact hnx _ _ ⟨_,_,i0,i1,i2,rfl,B,D3.refl _ _⟩
theorem c3i{K:Fg}{E:XK}(hS:SqL K H a (ns.map V.int))(hl:ns.length<=63)
  (k:∀b c H',Bag H' b c->o7 H H'->H b=none->Q (.ref b) H'):a9Q K [.ref a] H Q E:=by
 refine⟨rfl,?_⟩
 unfold c0O
 walk_at "go"
 exact_mod_cast U6 (O9 ?_)
 walk_at "go"
 refine⟨a,_,rfl,hS,fun p hp=>⟨p,rfl,⟨_,SqL.of c6⟩,fun D hD=>?_⟩⟩
 have hcut:a4M (ns.map V.int) none (some 63)=ns.map V.int:=by
  unfold a4M
  have e:HT.sIx (ns.map V.int).length 0 none=0:=rfl
  have e2:HT.sIx (ns.map V.int).length (ns.map V.int).length (some 63)=ns.length:=by
   have:=HT.b0c (ns.map V.int).length (ns.map V.int).length 63
   rw[a8]at this ⊢
   rw[show((63:Nat):Int)=63 from rfl]at this
   rw[this];omega
  rw[e,e2,List.drop_zero,Nat.sub_zero,a0A (by simp)]
 rw[hcut]at hD ⊢
 have s1:o7 H (upd H p (.lst (ns.map V.int))):=v0 hp
 refine R0 (xs:=ns.map V.int) (fun i ys H2=>ys=(ns.take i).map (fun x=>V.int (if x<0 then -x else x))/\H2=upd (upd H p (.lst (ns.map V.int))) D (.lst ys)) ⟨by simp,rfl⟩ ?_ ?_ ?_ ?_
 ·rintro i ys _ ⟨_,rfl⟩
  exact c6
 ·rintro i ys _ _ ⟨_,rfl⟩
  refine SqL.of ?_
  rw[c9 (c7 c6 hD),c6]
 ·rintro i x ys _ hx ⟨rfl,rfl⟩ R hR
  rw[b8]at hx
  cases e:ns[i]? with
  | none=>rw[e]at hx;cases hx
  | some z=>
   rw[e]at hx
   cases hx
   ext
   refine hR _ _ c6 (G9 ?_) ⟨?_,?_⟩
   ·rw[a8,K0];omega
   ·rw[E9,e];simp
   ·rw[a6U]
 ·rintro ys _ ⟨rfl,rfl⟩
  ext
  refine J5 (by simp) fun b H4 hb hb4 s4=>?_
  rw[a8,a0A (d9 _)]at hb s4
  refine k b D _ ⟨0,1234567891,0,ns.map (fun x=>if x<0 then -x else x),hb4,?_,by decide,by decide,by decide,by decide,?_⟩ ?_ ?_
  ·rw[s4 D _ c6,N7];rfl
  ·intro x hx
   obtain⟨y,_,rfl⟩:=p9.mp hx
   split <;> omega
  ·exact(s1.trans (v0 hD)).trans s4
  ·exact(s1.trans (v0 hD)).free hb
structure b0R(H:Hp)(a:Addr):Prop where
 ex:∃ss:List Str,H a=some (.lst (ss.map V.str))/\ss≠[]/\ss.length<=8/\∀s∈ss,NmS s
theorem b0R.kept(h:b0R H a)(hB:Bag H b c)(k:D3 b H H'):b0R H' a/\a≠b:=by
 obtain⟨ss,h1,h2,h3,h4⟩:=h.ex
 obtain⟨i0,i1,i2,ns,hb,_⟩:=hB.ex
 have ne:a≠b:=G5 h1 hb (by
  intro z
  have z:=HO.lst.inj z
  cases ss with
  | nil=>exact h2 rfl
  | cons s r=>cases z)
 exact⟨⟨ss,k.1 a _ h1 ne,h2,h3,h4⟩,ne⟩
structure c5q(H:Hp)(a:Addr):Prop where
 ex:∃ps:List Addr,H a=some (.lst (ps.map V.ref))/\ps≠[]/\ps.length<=8/\∀p∈ps,a4s H p
theorem Y7(hB:Bag H b c)(h:H a=some (.lst (as.map V.ref))):a≠b:=by
 obtain⟨i0,i1,i2,ns,hb,_⟩:=hB.ex
 refine G5 h hb ?_
 intro z
 have z:=HO.lst.inj z
 cases as with
 | nil=>cases z
 | cons s r=>cases z
theorem a7E(hB:Bag H b c)(h:H a=some (.lst xs))(hl:xs.length<=3):a≠b:=by
 obtain⟨i0,i1,i2,ns,hb,_⟩:=hB.ex
 refine G5 h hb ?_
 intro z
 have z:=HO.lst.inj z
 rw[z]at hl
 simp at hl
structure D9(H:Hp)(a:Addr)(N:Nt):Prop where
 ex:∃as:List Addr,H a=some (.lst (as.map V.ref))/\as.length=N.length/\∀(i:Nat) x l,as[i]? = some x->N[i]? = some l->H x=some (.lst (IL l))
theorem D9.same(h:D9 H a N)(k:o7 H H'):D9 H' a N:=by
 obtain⟨as,h1,h2,h3⟩:=h.ex
 exact⟨as,k a _ h1,h2,fun i x l e1 e2=>k _ _ (h3 i x l e1 e2)⟩
theorem D9.kept(h:D9 H a N)(hB:Bag H b c)(hN:∀l∈N,l.length<=2)(k:D3 b H H'):D9 H' a N:=by
 obtain⟨as,h1,h2,h3⟩:=h.ex
 refine⟨as,k.1 a _ h1 (Y7 hB h1),h2,fun i x l e1 e2=>?_⟩
 have q:=h3 i x l e1 e2
 refine k.1 _ _ q (a7E hB q ?_)
 rw[M8]
 have:=hN l (mI e2)
 omega
theorem D9.at(h:D9 H a N){k:Nat}(e:N[k]? = some l):∃(xs:List V) (x:Addr),H a=some (.lst xs)/\atI xs (k:Int)=some (.ref x)/\H x=some (.lst (IL l))/\xs.length=N.length:=by
 obtain⟨as,h1,h2,h3⟩:=h.ex
 have hk:k<as.length:=by rw[h2];exact(gI e)
 have e1:as[k]? = some as[k]:=by simp
 refine⟨_,as[k],h1,?_,h3 k _ l e1 e,by rw[a8,h2]⟩
 exact M3 (by rw[b8,e1];rfl)
theorem D9.len(h:D9 H a N):∃xs,H a=some (.lst xs)/\xs.length=N.length:=by
 obtain⟨as,h1,h2,h3⟩:=h.ex
 exact⟨_,h1,by rw[a8,h2]⟩
theorem c1c{j t:Nat}(e:l[j]? = some t):atI (IL l) (j:Int)=some (.int (t:Int)):=M3 (by unfold IL;rw[b8,e];rfl)
theorem b2R{α:Type}(l:List α):l=[]\/∃r a,l=r++[a]:=by
 cases h:l.reverse with
 | nil=>left;simpa using h
 | cons a r=>
  right
  refine⟨r.reverse,a,?_⟩
  have:=congrArg List.reverse h
  simpa using this
structure a8V(H0 H:Hp)(b c D:Addr)(m:Nat)(as:List Addr)(N:Nt):Prop where
 bag:Bag H b c
 kept:D3 b H0 H
 hD:H D=some (.lst (as.map V.ref))
 nb:D≠b
 nc:D≠c
 len:as.length=N.length
 at_:∀(i:Nat) x l,as[i]? = some x->N[i]? = some l->H x=some (.lst (IL l))/\x≠D/\x≠b
 small:∀l∈N,l.length<=2/\∀t∈l,t<m
theorem a8V.next{D:Addr}(h:a8V H0 H b c D m as N)(B:Bag H' b c)(k:D3 b H H'):a8V H0 H' b c D m as N:=
 ⟨B,h.kept.trans k,k.1 _ _ h.hD h.nb,h.nb,h.nc,h.len,fun i x l e1 e2=>let⟨q1,q2,q3⟩:=h.at_ i x l e1 e2; ⟨k.1 _ _ q1 q3,q2,q3⟩,h.small⟩
structure a5A(H:Hp)(b D q:Addr)(m:Nat)(l:List Nat):Prop where
 h:H q=some (.lst (IL l))
 nD:q≠D
 nb:q≠b
 len:l.length<=2
 lt:∀t∈l,t<m
theorem a5A.next{D q:Addr}(h:a5A H b D q m l)(k:D3 b H H'):a5A H' b D q m l:=⟨k.1 _ _ h.h h.nb,h.nD,h.nb,h.len,h.lt⟩
theorem X7{α:Type}{xs:List α}{x y:α}(h:(xs++[x])[i]? = some y):(i<xs.length/\xs[i]? = some y)\/(i=xs.length/\y=x):=by
 by_cases hi:i<xs.length
 ·left
  rw[D1 hi]at h
  exact⟨hi,h⟩
 ·right
  rw[X9 (by omega)]at h
  have:i - xs.length=0:=by
   have:=(gI h)
   simp at this
   omega
  rw[this]at h
  simp at h
  exact⟨by omega,h.symm⟩
theorem b2f{a b:Int}:decide (V.int a=V.int b)=decide (a=b):=by
 by_cases h:a=b
 ·subst h;simp
 ·rw[c6w h,c6w (fun z=>h (V.int.inj z))]
theorem c2K{K:Fg}{E:XK}(hB:Bag H b c)(m0:0<m)(m1:m<=24)
  (k:∀a N H',D9 H' a N->N.length=m->(∀l∈N,l.length<=2/\∀t∈l,t<m)->N[m - 1]? = some []->Bag H' b c->D3 b H H'->Q (.ref a) H'):a9P K [.ref b,.int (m:Int)] H Q E:=by
 refine⟨rfl,?_⟩
 unfold c0N
 nofun
 exists J5 (by simp) fun D H1 hD e1 s1=>?_
 obtain⟨nb,nc⟩:=hB.nb hD
 have B1:=hB.same s1
 exact_mod_cast Q7 ?_
 specialize V2 (a0h ?_)
 refine⟨m,rfl,by omega,by omega,?_⟩
 rw[u8]
 refine V6 (fun i σ H2=>∃x3 x4 x5 x6 as N,σ=[some (.ref b),some (.int (m:Int)),some (.ref D),x3,x4,x5,x6]/\a8V H H2 b c D m as N/\N.length=i/\(i=m->N[m - 1]? = some [])) ?_ ?_ ?_
 ·exact⟨_,_,_,_,[],[],rfl,⟨B1,D3.of_same s1,e1,nb,nc,rfl,fun i x l e=>by simp at e,fun l h=>by simp at h⟩,rfl,fun z=>by omega⟩
 ·rintro i _ H2 hi ⟨x3,x4,x5,x6,as,N,rfl,I2,hlen,_⟩
  ext
  rw[W1]
  nofun
  exists c4g ?_
  obtain⟨r,hr,hrm⟩:∃r:Nat,(if(m:Int) - 1<(i:Int)+1 then (m:Int) - 1 else (i:Int)+1)=(r:Int)/\r<m:=by
   by_cases h:(m:Int) - 1<(i:Int)+1
   ·exact⟨m - 1,by rw[if_pos h];omega,by omega⟩
   ·exact⟨i+1,by rw[if_neg h];omega,by omega⟩
  rw[hr]
  nofun
  refine K7 I2.bag (by omega) (by omega) fun j H3 j0 j1 B3 k3=>?_
  obtain⟨j,rfl⟩:=F3 j0
  ext
  exists J5 (by simp) fun q H4 hq e4 s4=>?_
  have I3:=I2.next B3 k3
  have I4:=I3.next (B3.same s4) (D3.of_same s4)
  have S4:a5A H4 b D q m [r,j]:=⟨e4,(c7 I3.hD hq).symm,(B3.nb hq).1,by simp,fun t ht=>by
   simp only[c8,l6,or_false]at ht
   rcases ht with rfl | rfl
   ·exact hrm
   ·omega⟩
  nofun
  exists K7 I4.bag (by decide) (by decide) fun w H5 w0 w1 B5 k5=>?_
  have I5:=I4.next B5 k5
  have S5:=S4.next k5
  exact_mod_cast a0S (P:=fun σ H6=>∃q l,σ=[some (.ref b),some (.int (m:Int)),some (.ref D),some (.int (i:Int)),some (.int (r:Int)),some (.ref q),some (.int w)]/\a8V H H6 b c D m as N/\a5A H6 b D q m l/\l.length=2) ?_ ?_
  rotate_left
  ·intro nx hnx
   ext
   refine a0P (fun _=>?_) (fun _=>?_)
   ·ext
    exists E7 S5.h (a2Q _ _ _) ?_
    refine J5 (by simp) fun q6 H6 hq6 e6 s6=>?_
    exact hnx _ _ ⟨q6,[j,r],rfl,I5.next (B5.same s6) (D3.of_same s6),⟨e6,(c7 I5.hD hq6).symm,(B5.nb hq6).1,by simp,fun t ht=>by
     simp only[c8,l6,or_false]at ht
     rcases ht with rfl | rfl
     ·exact S5.lt _ (by simp)
     ·exact S5.lt _ (by simp)⟩,rfl⟩
   ·ext
    exact hnx _ _ ⟨q,[r,j],rfl,I5,S5,rfl⟩
  rintro _ H6 ⟨q,l,rfl,I6,S6,hl6⟩
  obtain⟨l0,l1,rfl⟩:∃l0 l1,l=[l0,l1]:=by
   match l,hl6 with
   | [a,b],_=>exact⟨a,b,rfl⟩
  exact_mod_cast a0S (P:=fun σ H6=>∃q l,σ=[some (.ref b),some (.int (m:Int)),some (.ref D),some (.int (i:Int)),some (.int (r:Int)),some (.ref q),some (.int w)]/\a8V H H6 b c D m as N/\a5A H6 b D q m l/\l.length=2) ?_ ?_
  rotate_left
  ·intro nx hnx
   ext
   refine a0P (fun _=>?_) (fun _=>?_)
   ·ext
    exists E7 S6.h (a2Q _ _ _) ?_
    refine K7 I6.bag (by omega) (by omega) fun j2 H7 z0 z1 B7 k7=>?_
    obtain⟨j2,rfl⟩:=F3 z0
    ext
    have I7:=I6.next B7 k7
    refine J5 (by simp) fun q8 H8 hq8 e8 s8=>?_
    exact hnx _ _ ⟨q8,[l1,j2],rfl,I7.next (B7.same s8) (D3.of_same s8),⟨e8,(c7 I7.hD hq8).symm,(B7.nb hq8).1,by simp,fun t ht=>by
     simp only[c8,l6,or_false]at ht
     rcases ht with rfl | rfl
     ·exact S6.lt _ (by simp)
     ·omega⟩,rfl⟩
   ·ext
    exact hnx _ _ ⟨q,_,rfl,I6,S6,rfl⟩
  clear S6 I6 l0 l1 hl6 S5 I5 S4 I4 I3 B3 k3 B5 k5 s4 e4 hq
  rintro _ H6 ⟨q,l,rfl,I6,S6,hl6⟩
  obtain⟨l0,l1,rfl⟩:∃l0 l1,l=[l0,l1]:=by
   match l,hl6 with
   | [a,b],_=>exact⟨a,b,rfl⟩
  exact_mod_cast a0S (P:=fun σ H6=>∃q l,σ=[some (.ref b),some (.int (m:Int)),some (.ref D),some (.int (i:Int)),some (.int (r:Int)),some (.ref q),some (.int w)]/\a8V H H6 b c D m as N/\a5A H6 b D q m l/\(w=7->1<m->l.length=2)) ?_ ?_
  rotate_left
  ·intro nx hnx
   have one:∀H7,H7=H6->((w=7/\1<m)->False)->New (.lst [V.int (r:Int)]) 1 H7 fun v H1=>nx [some (.ref b),some (.int (m:Int)),some (.ref D),some (.int (i:Int)),some (.int (r:Int)),some v,some (.int w)] H1:=by
    rintro _ rfl hw
    refine J5 (by simp) fun q8 H8 hq8 e8 s8=>?_
    exact hnx _ _ ⟨q8,[r],rfl,I6.next (I6.bag.same s8) (D3.of_same s8),⟨e8,(c7 I6.hD hq8).symm,(I6.bag.nb hq8).1,by simp,fun t ht=>by rw[d3.mp ht];exact hrm⟩,fun h1 h2=>(hw ⟨h1,h2⟩).elim⟩
   ext
   refine a0P (fun a3=>?_) (fun a3=>?_)
   ·ext
    refine a0P (fun a7=>?_) (fun a7=>?_)
    ·exists C3 rfl ?_
     exact one _ rfl fun⟨z,_⟩=>by have:=of_decide_eq_true a7;omega
    ·ext
     refine a0P (fun a1=>?_) (fun a1=>?_)
     ·ext
      rw[b2f]at a1
      exact one _ rfl fun⟨_,z⟩=>by have:=of_decide_eq_true a1;omega
     ·ext
      exact hnx _ _ ⟨q,_,rfl,I6,S6,fun _ _=>rfl⟩
   ·ext
    exists t7 rfl ?_
    refine a0P (fun a1=>?_) (fun a1=>?_)
    ·ext
     rw[b2f]at a1
     exact one _ rfl fun⟨_,z⟩=>by have:=of_decide_eq_true a1;omega
    ·ext
     exact hnx _ _ ⟨q,_,rfl,I6,S6,fun _ _=>rfl⟩
  clear S6 I6 l0 l1 hl6
  rintro _ H6 ⟨q,l,rfl,I6,S6,hl6⟩
  exact_mod_cast a0S (P:=fun σ H6=>∃q l,σ=[some (.ref b),some (.int (m:Int)),some (.ref D),some (.int (i:Int)),some (.int (r:Int)),some (.ref q),some (.int w)]/\a8V H H6 b c D m as N/\a5A H6 b D q m l) ?_ ?_
  rotate_left
  ·intro nx hnx
   ext
   refine a0P (fun a7=>?_) (fun a7=>?_)
   ·ext
    refine a0P (fun a1=>?_) (fun a1=>?_)
    ·rw[b2f]at a7
     have a7:=of_decide_eq_true a7
     have a1:=of_decide_eq_true a1
     have hl:=hl6 a7 (by omega)
     obtain⟨l0,l1,rfl⟩:∃l0 l1,l=[l0,l1]:=by
      match l,hl with
      | [a,b],_=>exact⟨a,b,rfl⟩
     ext
     exists E7 S6.h (a2Q _ _ _) ?_
     refine J5 (by simp) fun q8 H8 hq8 e8 s8=>?_
     exact hnx _ _ ⟨q8,[l1],rfl,I6.next (I6.bag.same s8) (D3.of_same s8),⟨e8,(c7 I6.hD hq8).symm,(I6.bag.nb hq8).1,by simp,fun t ht=>by rw[d3.mp ht];exact S6.lt _ (by simp)⟩⟩
    ·ext
     exact hnx _ _ ⟨q,_,rfl,I6,S6⟩
   ·exists t7 rfl ?_
    exact hnx _ _ ⟨q,_,rfl,I6,S6⟩
  clear S6 I6 hl6 l
  rintro _ H6 ⟨q,l,rfl,I6,S6⟩
  exact_mod_cast a0S (P:=fun σ H6=>∃q l,σ=[some (.ref b),some (.int (m:Int)),some (.ref D),some (.int (i:Int)),some (.int (r:Int)),some (.ref q),some (.int w)]/\a8V H H6 b c D m as N/\a5A H6 b D q m l/\(i+1=m->l=[])) ?_ ?_
  rotate_left
  ·intro nx hnx
   have none:∀H7,a8V H H7 b c D m as N->New (.lst []) 0 H7 fun v H1=>nx [some (.ref b),some (.int (m:Int)),some (.ref D),some (.int (i:Int)),some (.int (r:Int)),some v,some (.int w)] H1:=by
    intro H7 I7
    refine J5 (by simp) fun q8 H8 hq8 e8 s8=>?_
    exact hnx _ _ ⟨q8,[],rfl,I7.next (I7.bag.same s8) (D3.of_same s8),⟨e8,(c7 I7.hD hq8).symm,(I7.bag.nb hq8).1,by simp,fun t ht=>by simp at ht⟩,fun _=>rfl⟩
   ext
   refine a0P (fun a1=>?_) (fun a1=>?_)
   ·exists C3 rfl ?_
    exact none _ I6
   ·rw[b2f]at a1
    have a1:¬((i:Int)=(m:Int) - 1):=fun z=>a1 (c6x z)
    ext
    refine a0P (fun a6=>?_) (fun a6=>?_)
    ·ext
     exists K7 I6.bag (by decide) (by decide) fun z H7 z0 z1 B7 k7=>?_
     refine a0P (fun a0=>?_) (fun a0=>?_)
     ·ext
      exact none _ (I6.next B7 k7)
     ·ext
      exact hnx _ _ ⟨q,l,rfl,I6.next B7 k7,S6.next k7,fun z=>by omega⟩
    ·exists t7 rfl ?_
     exact hnx _ _ ⟨q,l,rfl,I6,S6,fun z=>by omega⟩
  clear S6 I6 l
  rintro _ H6 ⟨q,l,rfl,I6,S6,hlast⟩
  ext
  specialize b3d ?_
  exists ⟨a1A I6.hD,?_⟩
  refine a5j I6.hD (G9 (by rw[a8,I6.len];omega)) ?_
  have nqc:D≠c:=I6.nc
  refine⟨_,_,_,_,as++[q],N++[l],rfl,⟨I6.bag.put I6.nb nqc,I6.kept.put hD,by rw[c6];simp,I6.nb,I6.nc,by simp[I6.len],?_,?_⟩,by simp[hlen],?_⟩
  ·intro i' x' l' e1' e2'
   rcases X7 e1' with ⟨hi1,f1⟩ | ⟨hi1,f1⟩
   ·rcases X7 e2' with ⟨hi2,f2⟩ | ⟨hi2,f2⟩
    ·obtain⟨g1,g2,g3⟩:=I6.at_ i' x' l' f1 f2
     exact⟨by rw[c9 g2];exact g1,g2,g3⟩
    ·have:=I6.len;omega
   ·rcases X7 e2' with ⟨hi2,f2⟩ | ⟨hi2,f2⟩
    ·have:=I6.len;omega
    ·subst f1 f2
     exact⟨by rw[c9 S6.nD];exact S6.h,S6.nD,S6.nb⟩
  ·intro l' hl'
   rcases o8.mp hl' with z | z
   ·exact I6.small l' z
   ·rw[d3.mp z];exact⟨S6.len,S6.lt⟩
  ·intro z
   rw[hlast z]
   have:m - 1=N.length:=by omega
   rw[this];simp
 ·rintro _ H2 ⟨x3,x4,x5,x6,as,N,rfl,I2,hlen,hlast⟩
  ext
  exact k D N H2 ⟨as,I2.hD,I2.len,fun i x l e1 e2=>(I2.at_ i x l e1 e2).1⟩ hlen I2.small (hlast rfl) I2.bag I2.kept
theorem c4E(xs:List V):a4M xs (some 1) none=xs.drop 1:=by
 cases xs with
 | nil=>rfl
 | cons a r=>rw[c0r];rfl
theorem c0D(l:List Nat)(n:Nat):(IL l).drop n=IL (l.drop n):=by unfold IL;rw[List.map_drop]
theorem b3H(xs:List V):a0v xs []=decide (xs.length=0):=by
 unfold a0v
 rw[show min xs.length ([]:List V).length=0 by simp]
 simp only[List.range_zero,b4v,b2A,a4g]
 by_cases h:xs.length=0
 ·rw[h];rfl
 ·rw[c6w h]
  simpa using h
theorem c3j{G:List Nat}(h:(l.map fun t=>decide (t∈G)).any id=true):∃t∈l,t∈G:=by
 obtain⟨x,hx,e⟩:=Z0.mp h
 obtain⟨t,ht,rfl⟩:=p9.mp hx
 exact⟨t,ht,of_decide_eq_true e⟩
theorem b4i{α:Type}(l:List Nat)(f:Nat->α)(i:Nat){t:Nat}(e:l[i]? = some t):(l.take (i+1)).map f=(l.take i).map f++[f t]:=by
 rw[E9,e];simp
structure a3a(H0 H:Hp)(d:Addr)(N:Nt)(G:List Nat):Prop where
 same:o7 H0 H
 hd:H d=some (.dK (KS G))
 nd:G.Nodup
 lt:∀k∈G,k<N.length
 gd:∀k∈G,Gd N k
theorem a3a.next{G:List Nat}(h:a3a H0 H d N G)(s:o7 H H'):a3a H0 H' d N G:=⟨h.same.trans s,s _ _ h.hd,h.nd,h.lt,h.gd⟩
theorem a3a.put{G:List Nat}(h:a3a H0 H d N G)(n:H0 d=none){k:Nat}(hk:k<N.length)(g:Gd N k):a3a H0 (upd H d (.dK (KS (a3y G k)))) d N (a3y G k):=
 ⟨fun b o e=>by rw[c9 (c7 e n)];exact h.same b o e,c6,a7b h.nd,fun j hj=>(W8.mp hj).elim (h.lt j) fun z=>z ▸ hk,fun j hj=>(W8.mp hj).elim (h.gd j) fun z=>z ▸ g⟩
theorem c0j{K:Fg}{x2 x4 x5 x6:Option V}{G:List Nat}(n0:H0 d=none)(hn:D9 H a N)(hN:N.length<=24)(hl:N[i]? = some l)(hl2:l.length<=2)(hG:a3a H0 H d N G)
  (k:∀H' G',a3a H0 H' d N G'->(∀j∈G,j∈G')->(l=[]->i∈G')->D9 H' a N->D.nx [some (.ref a),some (.ref d),x2,some (.int (i:Int)),x4,x5,x6] H') :
  J8 (tOr (C9 (tOp qEq (tOp qIx (b5 0) (b5 3)) (a0F (j5)))) (tB (tCB b3h (a9 (U1 (Q9 K (tOp qIx (b5 0) (b5 3))) (T8) (a8C (b5 0) (b5 2))) (j5))))) (a0T (b5 1) (b5 3) (tC (.bl true))) (D0) D
   [some (.ref a),some (.ref d),x2,some (.int (i:Int)),x4,x5,x6] H:=by
 have hi:i<N.length:=(gI hl)
 have hGl:G.length<100000:=by
  have:=a5n _ _ hG.nd hG.lt
  omega
 have put:∀H1,D9 H1 a N->a3a H0 H1 d N G->a≠d->(∀x,H1 x=some (.dK (KS G))->True)->Gd N i->a0T (b5 1) (b5 3) (tC (.bl true)) D [some (.ref a),some (.ref d),x2,some (.int (i:Int)),x4,x5,x6] H1:=by
  intro H1 n1 g1 nad _ gd
  specialize a2A ?_
  refine⟨d,_,rfl,b0w g1.hd hGl i,?_⟩
  refine k _ (a3y G i) (g1.put n0 hi gd) (fun j hj=>W8.mpr (.inl hj)) (fun _=>W8.mpr (.inr rfl)) ?_
  obtain⟨as,q1,q2,q3⟩:=n1.ex
  refine⟨as,by rw[c9 nad];exact q1,q2,fun j x l' e1 e2=>?_⟩
  have q:=q3 j x l' e1 e2
  rw[c9 (G5 q g1.hd (by intro z;cases z))]
  exact q
 obtain⟨xs,x,h1,h2,h3,_⟩:=hn.at hl
 have nad:a≠d:=G5 h1 hG.hd (by intro z;cases z)
 ext
 exists E7 h1 h2 ?_
 refine J5 (by simp) fun p H1 hp e1 s1=>?_
 refine⟨_,c0m (s1 _ _ h3) e1 (b4u l) rfl,?_⟩
 rw[b3H,M8]
 ext
 by_cases hz:l=[]
 ·refine C3 (c6x (by rw[hz];rfl)) ?_
  refine C3 rfl ?_
  exact put H1 (hn.same s1) (hG.next s1) nad (fun _ _=>trivial) (.stop (hz ▸ hl))
 exists t7 (c6w fun z=>hz (List.length_eq_zero_iff.mp z)) ?_
 specialize U6 (O9 ?_)
 refine E7 (s1 _ _ h1) h2 ?_
 refine⟨x,rfl,⟨_,SqL.of (s1 _ _ h3)⟩,fun E hE=>?_⟩
 have G1:=hG.next s1
 refine R0 (xs:=IL l) (fun j ys H2=>ys=(l.take j).map (fun t=>V.bl (decide (t∈G)))/\H2 E=some (.lst ys)/\o7 H1 H2) ⟨by simp,c6,v0 hE⟩ ?_ ?_ ?_ ?_
 ·rintro j ys H2 ⟨_,h,_⟩
  exact h
 ·rintro j ys H2 _ ⟨_,_,s2⟩
  exact SqL.of (s2 _ _ (s1 _ _ h3))
 ·rintro j y ys H2 hy ⟨rfl,hE2,s2⟩ R hR
  have hy:(l.map fun(n:Nat)=>V.int (n:Int))[j]? = some y:=hy
  rw[b8]at hy
  cases ht:l[j]? with
  | none=>rw[ht]at hy;cases hy
  | some t=>
   rw[ht]at hy
   cases hy
   have hj:=(gI ht)
   specialize b4b ?_
   obtain⟨o,g1,g2⟩:=a3W (s2 _ _ G1.hd) t
   refine⟨d,o,rfl,g1,?_⟩
   rw[g2]
   refine hR _ _ hE2 (G9 ?_) ⟨?_,c6,fun b o e=>?_⟩
   ·rw[a8,K0]
    omega
   ·rw[b4i l _ j ht]
   ·rw[c9 (c7 e hE)];exact s2 b o e
 ·rintro ys H2 ⟨rfl,hE2,s2⟩
  rw[M8,N3]at hE2
  have he:l.map (fun t=>V.bl (decide (t∈G)))=(l.map fun t=>decide (t∈G)).map V.bl:=by rw[N7];rfl
  rw[he]at hE2
  ext
  exists c4j hE2 ?_
  refine a0P (fun c=>?_) (fun c=>?_)
  ·obtain⟨t,t1,t2⟩:=c3j c
   exact put H2 ((hn.same s1).same s2) (G1.next s2) nad (fun _ _=>trivial) (.step hl t1 (hG.gd t t2))
  ·ext
   exact k H2 G (G1.next s2) (fun j hj=>hj) (fun z=>(hz z).elim) ((hn.same s1).same s2)
structure b0P(H0 H:Hp)(d:Addr)(N:Nt)(S:List Nat):Prop where
 same:o7 H0 H
 hd:H d=some (.dK (KS S))
 nd:S.Nodup
 lt:∀k∈S,k<N.length
 rc:∀k∈S,Rc N k
 zero:0∈S
theorem b0P.put{S:List Nat}(h:b0P H0 H d N S)(n:H0 d=none){k:Nat}(hk:k<N.length)(g:Rc N k):b0P H0 (upd H d (.dK (KS (a3y S k)))) d N (a3y S k):=
 ⟨fun b o e=>by rw[c9 (c7 e n)];exact h.same b o e,c6,a7b h.nd,fun j hj=>(W8.mp hj).elim (h.lt j) fun z=>z ▸ hk,fun j hj=>(W8.mp hj).elim (h.rc j) fun z=>z ▸ g,W8.mpr (.inl h.zero)⟩
def a4Q(N:Nt)(S:List Nat):Prop:=∀k∈S,∀l,N[k]? = some l->∀t∈l,t∈S
theorem b9b{S:List Nat}{k:Nat}(h:k∈S):a3y S k=S:=by unfold a3y;rw[if_pos h]
theorem D9.dput{ks:List (Key×V)}(h:D9 H a N)(hd:H d=some (.dK ks)):D9 (upd H d o) a N:=by
 obtain⟨as,q1,q2,q3⟩:=h.ex
 exact⟨as,by rw[c9 (G5 q1 hd (by intro z;cases z))];exact q1,q2,fun j x l e1 e2=>by
  have q:=q3 j x l e1 e2
  rw[c9 (G5 q hd (by intro z;cases z))];exact q⟩
theorem b6W{K:Fg}{x1 x2 x5 x6:Option V}{S:List Nat}(n0:H0 d=none)(hn:D9 H a N)(hN:N.length<=24)(hl:N[i]? = some l)(hlt:∀t∈l,t<N.length)(hS:b0P H0 H d N S)
  (k:∀H' S' x5,b0P H0 H' d N S'->(∀j∈S,j∈S')->(i∈S->∀t∈l,t∈S')->(a4Q N S->S'=S)->D9 H' a N->D.nx [some (.ref a),x1,x2,some (.int (i:Int)),some (.ref d),x5,x6] H') :
  J8 (tB (a8C (b5 3) (b5 4))) (a0q (Q9 K (tOp qIx (b5 0) (b5 3))) (o0 5) (a0T (b5 4) (b5 5) (tC (.bl true)))) (D0) D [some (.ref a),x1,x2,some (.int (i:Int)),some (.ref d),x5,x6] H:=by
 ext
 specialize b4b ?_
 obtain⟨o,g1,g2⟩:=a3W hS.hd i
 refine⟨d,o,rfl,g1,?_⟩
 rw[g2]
 ext
 refine a0P (fun c=>?_) (fun c=>?_)
 ·have hi:i∈S:=of_decide_eq_true c
  obtain⟨xs,x,h1,h2,h3,_⟩:=hn.at hl
  specialize V2 (O9 ?_)
  refine E7 h1 h2 ?_
  refine⟨x,rfl,⟨_,SqL.of h3⟩,a0i (xs:=IL l) (fun j σ H2=>∃S' x5,σ=[some (.ref a),x1,x2,some (.int (i:Int)),some (.ref d),x5,x6]/\b0P H0 H2 d N S'/\(∀j∈S,j∈S')/\(∀t∈l.take j,t∈S')/\(a4Q N S->S'=S)/\D9 H2 a N/\H2 x=some (.lst (IL l))) ?_ ?_ ?_ ?_⟩
  ·exact⟨S,x5,rfl,hS,fun _ h=>h,by simp,fun _=>rfl,hn,h3⟩
  ·rintro j σ H2 _ ⟨_,_,_,_,_,_,_,_,h⟩
   exact SqL.of h
  ·rintro j y _ H2 hy ⟨S',x5,rfl,I2,i1,i2,i3,n2,hx2⟩
   have hy:(l.map fun(n:Nat)=>V.int (n:Int))[j]? = some y:=hy
   rw[b8]at hy
   cases ht:l[j]? with
   | none=>rw[ht]at hy;cases hy
   | some t=>
    rw[ht]at hy
    cases hy
    have tm:=mI ht
    ext
    specialize a2A ?_
    refine⟨d,_,rfl,b0w I2.hd (by have:=a5n _ _ I2.nd I2.lt;omega) t,?_⟩
    refine⟨a3y S' t,_,rfl,I2.put n0 (hlt t tm) (.step (hS.rc i hi) hl tm),fun j hj=>W8.mpr (.inl (i1 j hj)),fun z hz=>?_,fun hc=>?_,n2.dput I2.hd,?_⟩
    ·rw[E9,ht]at hz
     rcases o8.mp hz with q | q
     ·exact W8.mpr (.inl (i2 z q))
     ·exact W8.mpr (.inr (by simpa using q))
    ·rw[i3 hc]
     exact b9b (hc i hi l hl t tm)
    ·rw[c9 (G5 hx2 I2.hd (by intro z;cases z))];exact hx2
  ·rintro _ H2 ⟨S',x5,rfl,I2,i1,i2,i3,n2,hx2⟩
   refine k H2 S' x5 I2 i1 (fun _ t ht=>i2 t ?_) i3 n2
   rw[M8,N3];exact ht
 ·ext
  exact k H S x5 hS (fun _ h=>h) (fun h=>(c (c6x h)).elim) (fun _=>rfl) hn
theorem b1R{ms:List Int}{S:List Nat}(h:ms.Perm (S.map fun(n:Nat)=>(n:Int))):∃O:List Nat,O.Perm S/\ms=O.map fun(n:Nat)=>(n:Int):=by
 refine⟨ms.map b4w,?_,?_⟩
 ·have:=h.map b4w
  rw[N7]at this
  have e:(b4w ∘ fun(n:Nat)=>(n:Int))=id:=by funext n;simp
  rw[e,a8Y]at this
  exact this
 ·rw[N7]
  have:∀x∈ms,((fun(n:Nat)=>(n:Int)) ∘ b4w) x=id x:=by
   intro x hx
   obtain⟨n,_,rfl⟩:=p9.mp (h.subset hx)
   simp
  rw[L3 this,a8Y]
theorem b2Q{O:List Nat}(h:(O.map fun(n:Nat)=>(n:Int)).Pairwise (· <= ·)):O.Pairwise (· <= ·):=by
 rw[List.pairwise_map]at h
 exact h.imp fun q=>by omega
theorem b7P(O:List Nat)(t:Nat):(O.map fun(n:Nat)=>(n:Int)).idxOf (t:Int)=O.idxOf t:=by
 induction O with
 | nil=>rfl
 | cons a r ih=>
  rw[F7,c3x,c3x]
  by_cases e:a=t
  ·subst e;simp
  ·have:((a:Int) == (t:Int))=false:=by simp;omega
   have e2:(a == t)=false:=by simpa using e
   rw[this,e2,ih]
theorem F4(h:i<N.length):N[i]? = some N[i]:=by simp
theorem b5n{K:Fg}{E:XK}(hn:D9 H a N)(hp:0<N.length)(hN:N.length<=24)(hs:∀l∈N,l.length<=2/\∀t∈l,t<N.length)(hl:N[N.length - 1]? = some [])
  (k:∀a' N' H',D9 H' a' N'->a0W N'->N'.length<=24->o7 H H'->Q (.ref a') H'):a3Q K [.ref a] H Q E:=by
 refine⟨rfl,?_⟩
 unfold b1s
 nofun
 exists a5Z fun d H1 hd e1 s1=>?_
 have n1:=hn.same s1
 obtain⟨xs0,hx0,lx0⟩:=hn.len
 exact_mod_cast a0S (P:=fun σ H2=>∃x2 x3 G,σ=[some (.ref a),some (.ref d),x2,x3,none,none,none]/\a3a H H2 d N G/\N.length - 1∈G/\D9 H2 a N) ?_ ?_
 rotate_left
 ·intro nx hnx
  specialize V2 (a0h ?_)
  refine K8 (s1 _ _ hx0) ?_
  refine⟨N.length,by rw[lx0],by omega,by omega,?_⟩
  rw[u8]
  refine V6 (fun i σ H2=>∃x2 x3 G,σ=[some (.ref a),some (.ref d),x2,x3,none,none,none]/\a3a H H2 d N G/\(0<i->N.length - 1∈G)/\D9 H2 a N) ?_ ?_ ?_
  ·exact⟨_,_,[],rfl,⟨s1,e1,by simp,by simp,by simp⟩,by omega,n1⟩
  ·rintro i _ H2 hi ⟨x2,x3,G,rfl,I2,g2,n2⟩
   ext
   obtain⟨xs2,hx2,lx2⟩:=n2.len
   specialize V2 (a0h ?_)
   refine K8 hx2 ?_
   refine⟨N.length,by rw[lx2],by omega,by omega,?_⟩
   rw[u8]
   refine V6 (fun j σ H3=>∃x3 G,σ=[some (.ref a),some (.ref d),some (.int (0+(i:Int))),x3,none,none,none]/\a3a H H3 d N G/\(j=N.length->N.length - 1∈G)/\D9 H3 a N) ?_ ?_ ?_
   ·exact⟨_,G,rfl,I2,by omega,n2⟩
   ·rintro j _ H3 hj ⟨x3,G3,rfl,I3,g3,n3⟩
    exact_mod_cast a3U ?_
    rw[W1 (j:Int)]
    refine c0j hd n3 hN (F4 hj) (hs _ (D2 _)).1 I3 fun H4 G4 I4 sub4 h4 n4=>?_
    refine⟨_,G4,rfl,I4,fun z=>?_,n4⟩
    have e:N.length - 1=j:=by omega
    rw[e]at hl ⊢
    refine h4 ?_
    rw[F4 hj]at hl
    exact Option.some.inj hl
   ·rintro _ H3 ⟨x3,G3,rfl,I3,g3,n3⟩
    exact⟨_,_,G3,rfl,I3,fun _=>g3 rfl,n3⟩
  ·rintro _ H2 ⟨x2,x3,G,rfl,I2,g2,n2⟩
   exact hnx _ _ ⟨x2,x3,G,rfl,I2,g2 hp,n2⟩
 rintro _ H2 ⟨x2,x3,G,rfl,I2,hlast,n2⟩
 nofun
 exact_mod_cast U6 (a0h ?_)
 obtain⟨xs2,hx2,lx2⟩:=n2.len
 ext
 refine K8 hx2 ?_
 refine⟨N.length,by rw[lx2],by omega,by omega,fun A hA=>?_⟩
 rw[u8]
 refine a5s (fun i ys H3=>∃as:List Addr,ys=as.map V.ref/\as.length=i/\(∀(j:Nat) x l,as[j]? = some x->(a1K N G)[j]? = some l->H3 x=some (.lst (IL l))/\x≠A)/\H3 A=some (.lst ys)/\o7 H2 H3) ?_ ?_ ?_ ?_
 ·exact⟨[],rfl,rfl,by simp,c6,v0 hA⟩
 ·rintro i ys H3 ⟨_,_,_,_,h,_⟩
  exact h
 ·rintro i ys H3 hi ⟨as,rfl,la,at3,hA3,s3⟩ R hR
  rw[W1]
  obtain⟨ys0,x,f1,f2,f3,f4⟩:=(n2.same s3).at (F4 hi)
  have more:∀q H4,o7 H3 H4->(∀l,(a1K N G)[i]? = some l->H4 q=some (.lst (IL l)))->q≠A->R (.ref q) H4:=by
   intro q H4 s4 hq nq
   refine hR _ _ (s4 _ _ hA3) (G9 (by rw[a8];omega)) ⟨as++[q],by simp,by simp[la],?_,c6,fun b o e=>?_⟩
   ·intro j y l' h1 h2
    rcases X7 h1 with ⟨_,g1⟩ | ⟨hj,g1⟩
    ·obtain⟨g2,g3⟩:=at3 j y l' g1 h2
     exact⟨by rw[c9 g3];exact s4 _ _ g2,g3⟩
    ·rw[hj,la]at h2
     subst g1
     exact⟨by rw[c9 nq];exact hq l' h2,nq⟩
   ·rw[c9 (c7 e hA)]
    exact s4 _ _ (s3 _ _ e)
  ext
  specialize b4b ?_
  obtain⟨o,g1,g2⟩:=a3W (s3 _ _ I2.hd) i
  refine⟨d,o,rfl,g1,?_⟩
  rw[g2]
  ext
  refine a0P (fun c=>?_) (fun c=>?_)
  ·ext
   refine E7 f1 f2 ?_
   refine more x H3 (o7.refl _) (fun l hl'=>?_) ?_
   ·rw[a5o (F4 hi) (of_decide_eq_true c)]at hl'
    cases hl'
    exact f3
   ·refine(c7 (H:=H2) (a:=x) (b:=A) (o:=.lst (IL N[i])) ?_ hA)
    obtain⟨ys1,x',f1',f2',f3',_⟩:=n2.at (F4 hi)
    have e1:=s3 _ _ f1'
    rw[f1]at e1
    cases e1
    rw[f2]at f2'
    cases f2'
    exact f3'
  ·ext
   exists K8 f1 ?_
   exists J5 (by simp) fun p1 H4 hp1 e4 s4=>?_
   exists E7 (s4 _ _ f1) f2 ?_
   refine c4e (s4 _ _ f3) fun p2 H5 hp2 e5 s5=>?_
   rw[c4E,c0D]at e5
   have hl2:=(hs _ (D2 (l:=N) (h:=hi))).1
   refine b6Z (s5 _ _ e4) e5 (J5 (by simp[M8];omega) fun p3 H6 hp3 e6 s6=>?_)
   refine more p3 H6 ((s4.trans s5).trans s6) (fun l hl'=>?_) ?_
   ·rw[a9r (F4 hi) (fun z=>c (c6x z))]at hl'
    cases hl'
    rw[e6,f4]
    have:((N.length:Int) - 1)=((N.length - 1:Nat):Int):=by omega
    rw[this]
    rfl
   ·exact(c7 ((s4.trans s5) _ _ hA3) hp3).symm
 rintro ys H3 ⟨as,rfl,la,at3,hA3,s3⟩
 obtain⟨N2,hN2⟩:∃N2,N2=a1K N G:=⟨_,rfl⟩
 have len2:N2.length=N.length:=by rw[hN2,a9s]
 have n3:D9 H3 A N2:=⟨as,hA3,by rw[len2,la],fun i x l h1 h2=>(at3 i x l h1 (hN2 ▸ h2)).1⟩
 have small2:∀l∈N2,l.length<=2/\∀t∈l,t<N2.length:=by
  rw[len2,hN2]
  exact b1V hp hs hl hlast
 have gd2:∀k,k<N2.length->Gd N2 k:=by
  rw[len2,hN2]
  exact c0l I2.gd hl hlast
 have s03:o7 H H3:=I2.same.trans s3
 clear at3 hN2 la
 ext
 nofun
 intro r hr
 refine⟨c6,[(Sum.inl 0,V.bl true)],rfl,by simp,?_⟩
 have e4:(upd (upd H3 r (.dK [])) r (.dK (a4K [] [(Sum.inl 0,V.bl true)])))=upd H3 r (.dK (KS [0])):=by
  rw[a6U];rfl
 rw[e4]
 ext
 obtain⟨H4,hH4⟩:∃H4,H4=upd H3 r (.dK (KS [0])):=⟨_,rfl⟩
 rw[<-hH4]
 have s4:o7 H3 H4:=hH4 ▸ v0 hr
 have er:H4 r=some (.dK (KS [0])):=hH4 ▸ c6
 have n4:=n3.same s4
 clear hH4 e4
 have hp2:0<N2.length:=by omega
 exact_mod_cast a0S (P:=fun σ H5=>∃x2 x3 x5 S,σ=[some (.ref A),some (.ref d),x2,x3,some (.ref r),x5,none]/\b0P H3 H5 r N2 S/\a4Q N2 S/\D9 H5 A N2) ?_ ?_
 rotate_left
 ·intro nx hnx
  obtain⟨ys4,hy4,ly4⟩:=n4.len
  specialize V2 (a0h ?_)
  refine K8 hy4 ?_
  refine⟨N2.length,by rw[ly4],by omega,by omega,?_⟩
  rw[u8]
  refine V6 (fun i σ H5=>∃x2 x3 x5 S,σ=[some (.ref A),some (.ref d),x2,x3,some (.ref r),x5,none]/\b0P H3 H5 r N2 S/\(a4Q N2 S\/i+1<=S.length)/\D9 H5 A N2) ?_ ?_ ?_
  ·exact⟨_,_,_,[0],rfl,⟨s4,er,by simp,by simpa using hp2,by simpa using Rc.zero,by simp⟩,.inr (by simp),n4⟩
  ·rintro i _ H5 hi ⟨x2,x3,x5,S,rfl,I5,g5,n5⟩
   ext
   obtain⟨ys5,hy5,ly5⟩:=n5.len
   specialize V2 (a0h ?_)
   refine K8 hy5 ?_
   refine⟨N2.length,by rw[ly5],by omega,by omega,?_⟩
   rw[u8]
   refine V6 (fun j σ H6=>∃x3 x5 S',σ=[some (.ref A),some (.ref d),some (.int (0+(i:Int))),x3,some (.ref r),x5,none]/\b0P H3 H6 r N2 S'/\(∀k∈S,k∈S')/\(∀k∈S,k<j->∀l,N2[k]? = some l->∀t∈l,t∈S')/\(a4Q N2 S->S'=S)/\D9 H6 A N2) ?_ ?_ ?_
   ·exact⟨_,_,S,rfl,I5,fun _ h=>h,by omega,fun _=>rfl,n5⟩
   ·rintro j _ H6 hj ⟨x3,x5,S',rfl,I6,b1,b2,b3,n6⟩
    exact_mod_cast a3U ?_
    rw[W1 (j:Int)]
    refine b6W hr n6 (by omega) (F4 hj) (small2 _ (D2 _)).2 I6 fun H7 S7 x5 I7 c1 c2 c3 n7=>?_
    refine⟨_,x5,S7,rfl,I7,fun k hk=>c1 k (b1 k hk),fun k hk hkj l hl' t ht=>?_,fun hc=>?_,n7⟩
    ·by_cases e:k=j
     ·subst e
      rw[F4 hj]at hl'
      cases hl'
      exact c2 (b1 k hk) t ht
     ·exact c1 t (b2 k hk (by omega) l hl' t ht)
    ·have:=b3 hc
     rw[this]at c3
     exact c3 hc
   ·rintro _ H6 ⟨x3,x5,S',rfl,I6,b1,b2,b3,n6⟩
    refine⟨_,x3,x5,S',rfl,I6,?_,n6⟩
    rcases g5 with hc | hc
    ·exact .inl (by rw[b3 hc];exact hc)
    ·by_cases hcl:a4Q N2 S
     ·exact .inl (by rw[b3 hcl];exact hcl)
     ·right
      obtain⟨t,t1,t2⟩:∃t,t∈S'/\¬t∈S:=by
       refine Classical.byContradiction fun hno=>hcl fun k hk l hl' t ht=>?_
       refine Classical.byContradiction fun hts=>hno ⟨t,b2 k hk (I5.lt k hk) l hl' t ht,hts⟩
      have:(t::S).length<=S'.length:=by
       have nd:(t::S).Nodup:=L6.mpr ⟨t2,I5.nd⟩
       have sub:∀k∈t::S,k∈S':=fun k hk=>(c8.mp hk).elim (fun z=>z ▸ t1) (b1 k)
       exact b7E _ _ nd sub
      rw[v7]at this
      omega
  ·rintro _ H5 ⟨x2,x3,x5,S,rfl,I5,g5,n5⟩
   refine hnx _ _ ⟨x2,x3,x5,S,rfl,I5,g5.elim id fun h=>?_,n5⟩
   have:=a5n _ _ I5.nd I5.lt
   omega
 rintro _ H5 ⟨y2,y3,y5,S,rfl,I5,hcl,n5⟩
 have hSl:=a5n _ _ I5.nd I5.lt
 nofun
 have ek:(KS S).map (fun kv=>kV kv.1)=(S.map fun(n:Nat)=>(n:Int)).map V.int:=by
  unfold KS;rw[N7,N7];rfl
 have ld:a3x [.ref r] H5=fun Q=>∀l,H5 l=none->Q (.ref l) (upd H5 l (.lst ((KS S).map fun kv=>kV kv.1))):=by
  unfold a3x
  simp only[I5.hd]
 rw[ld]
 intro p6 hp6
 rw[ek]
 obtain⟨H6,hH6⟩:∃H6,H6=upd H5 p6 (.lst ((S.map fun(n:Nat)=>(n:Int)).map V.int)):=⟨_,rfl⟩
 rw[<-hH6]
 have s6:o7 H5 H6:=hH6 ▸ v0 hp6
 have e6:H6 p6=some (.lst ((S.map fun(n:Nat)=>(n:Int)).map V.int)):=hH6 ▸ c6
 clear hH6 ld
 ext
 have so:a3V [.ref p6] H6=fun Q=>∃ns,a0Q ((S.map fun(n:Nat)=>(n:Int)).map V.int)=some ns/\ns.length<64/\∀(p:Addr) (ms:List Int),ms.Perm ns->ms.Pairwise (· <= ·)->H6 p=none->Q (.ref p) (upd H6 p (.lst (ms.map V.int))):=by
  unfold a3V
  simp only[e6]
 rw[so]
 refine⟨_,a8e _,by rw[a8];omega,fun p7 ms hperm hsort hp7=>?_⟩
 obtain⟨O,hO,rfl⟩:=b1R hperm
 have hsO:=b2Q hsort
 have ndO:O.Nodup:=hO.nodup_iff.mpr I5.nd
 have memO:∀k,k∈O↔k∈S:=fun k=>hO.mem_iff
 obtain⟨H7,hH7⟩:∃H7,H7=upd H6 p7 (.lst ((O.map fun(n:Nat)=>(n:Int)).map V.int)):=⟨_,rfl⟩
 rw[<-hH7]
 have s7:o7 H6 H7:=hH7 ▸ v0 hp7
 have e7:H7 p7=some (.lst ((O.map fun(n:Nat)=>(n:Int)).map V.int)):=hH7 ▸ c6
 clear hH7 so
 have hOl:O.length<=24:=by rw[hO.length_eq];omega
 ext
 have n7:=(n5.same s6).same s7
 have s07:o7 H H7:=((s03.trans I5.same).trans s6).trans s7
 have valid:a0W (a4w N2 O):=b4K ((memO 0).mpr I5.zero) hsO ndO (fun k hk=>I5.lt k ((memO k).mp hk)) (by omega) (fun k hk l hl' t ht=>(memO t).mpr (hcl k ((memO k).mp hk) l hl' t ht)) (fun k hk=>I5.rc k ((memO k).mp hk))
  (fun l hl'=>(small2 l hl').1) gd2
 specialize U6 (O9 ?_)
 refine⟨p7,rfl,⟨_,SqL.of e7⟩,fun B hB=>?_⟩
 refine R0 (xs:=(O.map fun(n:Nat)=>(n:Int)).map V.int) (fun i ys H8=>∃bs:List Addr,ys=bs.map V.ref/\bs.length=i/\(∀(j:Nat) x l,bs[j]? = some x->(a4w N2 O)[j]? = some l->H8 x=some (.lst (IL l))/\x≠B)/\H8 B=some (.lst ys)/\o7 H7 H8) ?_ ?_ ?_ ?_ ?_
 ·exact⟨[],rfl,rfl,by simp,c6,v0 hB⟩
 ·rintro i ys H8 ⟨_,_,_,_,h,_⟩
  exact h
 ·rintro i ys H8 _ ⟨_,_,_,_,_,s8⟩
  exact SqL.of (s8 _ _ e7)
 ·rintro i x ys H8 hx ⟨bs,rfl,lb,at8,hB8,s8⟩ R hR
  rw[b8,b8]at hx
  cases ho:O[i]? with
  | none=>rw[ho]at hx;cases hx
  | some kk=>
   rw[ho]at hx
   cases hx
   have hko:=mI ho
   have hks:=(memO kk).mp hko
   have hkl:=I5.lt kk hks
   obtain⟨ys8,x8,f1,f2,f3,_⟩:=(n7.same s8).at (F4 hkl)
   obtain⟨l8,hl8⟩:∃l8,l8=N2[kk]:=⟨_,rfl⟩
   rw[<-hl8]at f3
   have hN8:N2[kk]? = some l8:=by rw[hl8];exact F4 hkl
   specialize U6 (O9 ?_)
   refine E7 f1 f2 ?_
   refine⟨x8,rfl,⟨_,SqL.of f3⟩,fun C hC=>?_⟩
   refine R0 (xs:=IL l8) (fun j zs H9=>zs=IL ((l8.take j).map fun t=>O.idxOf t)/\H9 C=some (.lst zs)/\o7 H8 H9) ⟨rfl,c6,v0 hC⟩ ?_ ?_ ?_ ?_
   ·rintro j zs H9 ⟨_,h,_⟩
    exact h
   ·rintro j zs H9 _ ⟨_,_,s9⟩
    exact SqL.of (s9 _ _ f3)
   ·rintro j y zs H9 hy ⟨rfl,hC9,s9⟩ R' hR'
    have hy:(l8.map fun(n:Nat)=>V.int (n:Int))[j]? = some y:=hy
    rw[b8]at hy
    cases ht:l8[j]? with
    | none=>rw[ht]at hy;cases hy
    | some t=>
     rw[ht]at hy
     cases hy
     have htO:t∈O:=(memO t).mpr (hcl kk hks l8 hN8 t (mI ht))
     specialize b3d ?_
     have e9:H9 p7=_:=s9 _ _ (s8 _ _ e7)
     exists ⟨a1A e9,?_⟩
     have ix:a6a (.ref p7) [.int (t:Int)] H9=fun Q=>∃ns,a0Q ((O.map fun(n:Nat)=>(n:Int)).map V.int)=some ns/\ns.length<10000/\(t:Int)∈ns/\Q (.int (ns.idxOf (t:Int):Nat)) H9:=by
      unfold a6a
      simp only[e9]
     rw[ix]
     refine⟨_,a8e _,by rw[a8];omega,p9.mpr ⟨t,htO,rfl⟩,?_⟩
     rw[b7P]
     have hl2:=(small2 l8 (mI hN8)).1
     refine hR' _ _ hC9 (G9 ?_) ⟨?_,c6,fun b o e=>?_⟩
     ·rw[M8,a8,K0];omega
     ·unfold IL
      rw[b4i l8 (fun t=>O.idxOf t) j ht]
      simp
     ·rw[c9 (c7 e hC)];exact s9 _ _ e
   ·rintro zs H9 ⟨rfl,hC9,s9⟩
    rw[M8,N3]at hC9
    refine hR _ _ (s9 _ _ hB8) (G9 (by rw[a8];have:=(gI ho);omega)) ⟨bs++[C],by simp,by simp[lb],?_,c6,fun b o e=>?_⟩
    ·have nCB:C≠B:=(c7 hB8 hC).symm
     intro j y l' h1 h2
     rcases X7 h1 with ⟨_,g1⟩ | ⟨hj,g1⟩
     ·obtain⟨g2,g3⟩:=at8 j y l' g1 h2
      exact⟨by rw[c9 g3];exact s9 _ _ g2,g3⟩
     ·rw[hj,lb]at h2
      subst g1
      refine⟨?_,nCB⟩
      rw[c9 nCB,hC9]
      have h2':(a4w N2 O)[i]? = some (l8.map fun t=>O.idxOf t):=by
       unfold a4w
       rw[b8,ho]
       simp[L4,hN8]
      rw[h2']at h2
      cases h2
      rfl
    ·rw[c9 (c7 e hB)]
     exact s9 _ _ (s8 _ _ e)
 ·rintro ys H8 ⟨bs,rfl,lb,at8,hB8,s8⟩
  rw[a8,a8]at lb
  have hlen:(a4w N2 O).length=O.length:=by simp[a4w]
  exact k B (a4w N2 O) H8 ⟨bs,hB8,by rw[lb,hlen],fun i x l h1 h2=>(at8 i x l h1 h2).1⟩ valid (by rw[hlen];exact hOl) (s07.trans s8)
structure P3(H:Hp)(a:Addr)(N:Nt):Prop where
 ex:∃rs:List Addr,H a=some (.lst (rs.map V.ref))/\rs.length=N.length/\∀(i:Nat) x l,rs[i]? = some x->N[i]? = some l->a8r H (.ref x) (l.length == 2)
theorem P3.same(h:P3 H a N)(k:o7 H H'):P3 H' a N:=by
 obtain⟨rs,h1,h2,h3⟩:=h.ex
 exact⟨rs,k a _ h1,h2,fun i x l e1 e2=>(h3 i x l e1 e2).ts (o7.ts k)⟩
theorem P3.kept(h:P3 H a N)(hB:Bag H b c)(k:D3 b H H'):P3 H' a N:=by
 obtain⟨rs,h1,h2,h3⟩:=h.ex
 exact⟨rs,k.1 a _ h1 (Y7 hB h1),h2,fun i x l e1 e2=>(h3 i x l e1 e2).ts (D3.ts k hB)⟩
def OpP(PL:List Str)(v:V):Prop:=∀s,v=.str s->s∈PL
def a6L(H:Hp)(PL:List Str)(p:Addr):Prop:=∃k a b,H p=some (.tup [.str k,a,b])/\OpP PL a/\OpP PL b
def b8f(H:Hp)(PL:List Str)(p:Addr):Prop:=∃xs,H p=some (.tup xs)/\∀v∈xs.drop 1,OpP PL v/\∀q,v=.ref q->a6L H PL q
structure Pl(H:Hp)(a:Addr)(PL:List Str):Prop where
 h:H a=some (.lst (PL.map V.str))
 pos:0<PL.length
 le:PL.length<=4
 nm:∀s∈PL,NmS s
section
variable {K:Fg}{PL:List Str}{E:XK}
theorem a6L.ts(h:a6L H PL p)(t:U2 H H'):a6L H' PL p:=let⟨k,a,b,h1,h2⟩:=h; ⟨k,a,b,t _ _ h1,h2⟩
theorem b8f.ts(h:b8f H PL p)(t:U2 H H'):b8f H' PL p:=let⟨xs,h1,h2⟩:=h; ⟨xs,t _ _ h1,fun v hv=>⟨(h2 v hv).1,fun q e=>((h2 v hv).2 q e).ts t⟩⟩
theorem Pl.n(h:Pl H a PL):b0R H a:=⟨PL,h.h,b8s.mp h.pos,by have:=h.le;omega,h.nm⟩
theorem Pl.kept(h:Pl H a PL)(hB:Bag H b c)(k:D3 b H H'):Pl H' a PL:=⟨k.1 _ _ h.h (h.n.kept hB k).2,h.pos,h.le,h.nm⟩
theorem b9O(n:Int):OpP PL (.int n):=fun s e=>nomatch e
theorem b9m(hB:Bag H b c)(k:∀a PL H',Pl H' a PL->Bag H' b c->D3 b H H'->Q (.ref a) H'):a6V K [.ref b] H Q E:=by
 refine⟨rfl,?_⟩
 unfold b6A
 nofun
 exists J5 (by decide) fun l H1 hl e1 s1=>?_
 have hn:∀s∈(["a","b1","set","k0","ask","k1","total","x2y3z4w5","k2","take"]:List Str),NmS s:=by
  intro s hs
  simp only[c8,l6,or_false]at hs
  rcases hs with rfl | rfl | rfl | rfl | rfl | rfl | rfl | rfl | rfl | rfl <;> exact⟨by decide +kernel,by decide +kernel⟩
 obtain⟨ws,hws⟩:∃ws:List Str,ws=(["a","b1","set","k0","ask","k1","total","x2y3z4w5","k2","take"]:List Str):=⟨_,rfl⟩
 have e1:H1 l=some (.lst (ws.map V.str)):=by rw[hws];exact e1
 have lw:ws.length=10:=by rw[hws];rfl
 rw[<-hws]at hn
 have B1:=hB.same s1
 have nl:=hB.nb hl
 nofun
 exists K7 B1 (by decide) (by decide) fun n2 H2 a0 a1 B2 k2=>?_
 specialize U6 (a0h ?_)
 refine K7 B2 (by decide) (by decide) fun n3 H3 b0 b1 B3 k3=>?_
 obtain⟨m,rfl⟩:∃m:Nat,n3=(m:Int):=⟨n3.toNat,by omega⟩
 ext
 refine⟨2+(m:Int),rfl,by omega,by omega,fun D hD=>?_⟩
 have k13:=k2.trans k3
 have w3:=k13.1 _ _ e1 nl.1
 rw[show(2+(m:Int)).toNat=2+m by omega]
 refine a5s (fun i ys H4=>∃PL:List Str,ys=PL.map V.str/\PL.length=i/\(∀s∈PL,NmS s)/\H4 D=some (.lst ys)/\o7 H3 H4) ⟨[],rfl,rfl,by simp,c6,v0 hD⟩ ?_ ?_ ?_
 ·rintro i ys H4 ⟨_,_,_,_,h,_⟩
  exact h
 ·rintro i ys H4 hi ⟨PL,rfl,lp,hp,hd,s4⟩ R hR
  ext
  exists a1r (by unfold b8n;omega) ?_
  refine a1r (by decide) ?_
  have hm:=T7 (n2+3 * (0+(i:Int))) (show(10:Int)≠0 by decide)
  have hm2:=R4 (n2+3 * (0+(i:Int))) (show(0:Int)<10 by decide)
  obtain⟨v,hv,hv2⟩:=a1T (xs:=ws.map V.str) hm (by rw[a8,lw];exact hm2)
  obtain⟨s,hs,rfl⟩:=p9.mp (mI hv2)
  refine E7 (s4 _ _ w3) hv ?_
  refine hR _ _ hd (G9 (by rw[a8];omega)) ⟨PL++[s],by simp,by simp[lp],fun u hu=>?_,c6,fun b o e=>by rw[c9 (c7 e hD)];exact s4 _ _ e⟩
  rcases o8.mp hu with q | q
  ·exact hp u q
  ·rw[d3.mp q];exact hn s hs
 ·rintro ys H4 ⟨PL,rfl,lp,hp,hd,s4⟩
  exact k D PL H4 ⟨hd,by omega,by omega,hp⟩ (B3.same s4) (((D3.of_same s1).trans k13).trans (D3.of_same s4))
theorem a1t(hB:Bag H b c)(hN:Pl H a PL)(k:∀v H',OpN v->OpP PL v->Bag H' b c->D3 b H H'->Q v H'):W7 K [.ref b,.ref a] H Q E:=by
 refine⟨rfl,?_⟩
 unfold a9j
 nofun
 exists K7 hB (by decide) (by decide) fun n1 H1 a0 a1 B1 k1=>?_
 refine a0P (fun _=>?_) (fun _=>?_)
 ·nofun
  exists K7 B1 (by decide) (by decide) fun n2 H2 b0 b1 B2 k2=>?_
  exists J5 (by simp) fun l H3 hl e3 s3=>?_
  refine K7 (B2.same s3) (by decide) (by decide) fun n4 H4 c0 c1 B4 k4=>?_
  obtain⟨v,hv,hv2⟩:=a1T (xs:=([.int 0,.int 1,.int 999999999999,.int n2]:List V)) c0 (by simpa using c1)
  refine E7 (k4.1 _ _ e3 (B2.nb hl).1) hv ?_
  have m:=mI hv2
  have:∃n:Int,v=.int n/\0<=n/\n<1000000000000:=by
   simp only[c8,l6,or_false]at m
   rcases m with rfl | rfl | rfl | rfl
   ·exact⟨_,rfl,by decide,by decide⟩
   ·exact⟨_,rfl,by decide,by decide⟩
   ·exact⟨_,rfl,by decide,by decide⟩
   ·exact⟨_,rfl,by omega,by omega⟩
  obtain⟨n,rfl,n0,n1⟩:=this
  exact k _ _ (.inr ⟨n,rfl,n0,n1⟩) (b9O n) B4 (((k1.trans k2).trans (D3.of_same s3)).trans k4)
 ext
 have N1:=hN.kept hB k1
 exists K8 N1.h ?_
 have hp:=N1.pos
 refine K7 B1 (by rw[a8];omega) (by rw[a8];have:=N1.le;omega) fun n2 H2 b0 b1 B2 k2=>?_
 obtain⟨v,hv,hv2⟩:=a1T (xs:=PL.map V.str) b0 b1
 obtain⟨s,hs,rfl⟩:=p9.mp (mI hv2)
 exact E7 (N1.kept B1 k2).h hv (k _ _ (.inl ⟨s,rfl,N1.nm s hs⟩) (fun u e=>by cases e;exact hs) B2 (k1.trans k2))
theorem c0o(hB:Bag H b c)(hN:Pl H a PL)(k:∀p H',a4s H' p->a6L H' PL p->H p=none->Bag H' b c->D3 b H H'->Q (.ref p) H'):a6Y K [.ref b,.ref a] H Q E:=by
 refine⟨rfl,?_⟩
 unfold b6E
 nofun
 exists J5 (by decide) fun p G hp e s=>?_
 refine K7 (hB.same s) (by decide) (by decide) fun n1 H1 a0 a1 B1 k1=>?_
 have hp1:=k1.1 p _ e (hB.nb hp).1
 have k01:D3 b H H1:=(D3.of_same s).trans k1
 obtain⟨v,hv,hv2⟩:=a1T (xs:=([.str "plus",.str "minus",.str "times",.str "less",.str "same"]:List V)) a0 (by simpa using a1)
 refine E7 hp1 hv ?_
 have:∃kd:Str,v=.str kd/\kd∈(["plus","minus","times","less","same"]:List Str):=by
  have m:=mI hv2
  simp only[c8,l6,or_false]at m
  rcases m with rfl | rfl | rfl | rfl | rfl <;> exact⟨_,rfl,by simp⟩
 obtain⟨kd,rfl,hkd⟩:=this
 ext
 have N1:=hN.kept hB k01
 exists a1t B1 N1 fun v1 H2 o1 p1 B2 k2=>?_
 exists a1t B2 (N1.kept B1 k2) fun v2 H3 o2 p2 B3 k3=>?_
 refine J5 (by simp) fun q G hq e s=>?_
 exact k q _ ⟨kd,v1,v2,e,o1,o2,hkd⟩ ⟨kd,v1,v2,e,p1,p2⟩ (k01.none (k2.none (k3.none hq))) (B3.same s) (((k01.trans k2).trans k3).trans (D3.of_same s))
structure b2u(H:Hp)(a:Addr)(PL:List Str):Prop where
 ex:∃ps:List Addr,H a=some (.lst (ps.map V.ref))/\ps≠[]/\ps.length<=8/\∀p∈ps,a4s H p/\a6L H PL p
theorem b2u.kept(h:b2u H a PL)(hB:Bag H b c)(k:D3 b H H'):b2u H' a PL:=by
 obtain⟨ps,h1,h2,h3,h4⟩:=h.ex
 have t:=k.ts hB
 exact⟨ps,k.1 _ _ h1 (Y7 hB h1),h2,h3,fun p hp=>⟨(h4 p hp).1.ts t,(h4 p hp).2.ts t⟩⟩
theorem c1E{ask:Bool}(hB:Bag H b c)(hN:Pl H a PL)(hP:b2u H p PL)(k:∀q H',a8r H' (.ref q) ask->b8f H' PL q->Bag H' b c->D3 b H H'->Q (.ref q) H'):a9O K [.ref b,.ref a,.ref p,.bl ask] H Q E:=by
 refine⟨rfl,?_⟩
 unfold c0M
 nofun
 cases ask with
 | true=>
  exists C3 rfl ?_
  exists a1t hB hN fun v H1 o1 p1 B1 k1=>?_
  refine J5 (by simp) fun q G hq e s=>?_
  exact k q G ⟨q,_,rfl,e,.ask v o1,_,_,rfl,by decide⟩ ⟨_,e,fun u hu=>by
   rw[d3.mp hu]
   exact⟨p1,fun q e=>by rcases o1 with ⟨s,rfl,_⟩ | ⟨n,rfl,_⟩ <;> cases e⟩⟩ (B1.same s) (k1.trans (D3.of_same s))
 | false=>
 exists t7 rfl ?_
 nofun
 exists K7 hB (by decide) (by decide) fun w H1 w0 w1 B1 k1=>?_
 nofun
 have N1:=hN.kept hB k1
 have P1:=hP.kept hB k1
 exists K8 N1.h ?_
 refine K7 B1 (by rw[a8];have:=N1.pos;omega) (by rw[a8];have:=N1.le;omega) fun n2 H2 b0 b1 B2 k2=>?_
 obtain⟨v,hv,hv2⟩:=a1T (xs:=PL.map V.str) b0 b1
 obtain⟨s,hs,rfl⟩:=p9.mp (mI hv2)
 have N2:=N1.kept B1 k2
 have P2:=P1.kept B1 k2
 have k02:=k1.trans k2
 have ns:=N1.nm s hs
 have ps:∀q,(V.str s=V.ref q->a6L H2 PL q):=fun q e=>nomatch e
 have os:OpP PL (.str s):=fun u e=>by cases e;exact hs
 exists E7 N2.h hv ?_
 nofun
 refine a0P (fun _=>?_) (fun _=>?_)
 ·obtain⟨qs,p1,p2,p3,p4⟩:=P2.ex
  have hl:0<qs.length:=b8s.mpr p2
  ext
  exists K8 p1 ?_
  refine K7 B2 (by rw[a8];omega) (by rw[a8];omega) fun n3 H3 c0 c1 B3 k3=>?_
  obtain⟨v,hv,hv2⟩:=a1T (xs:=qs.map V.ref) c0 c1
  obtain⟨d,hd,rfl⟩:=p9.mp (mI hv2)
  refine E7 (k3.1 _ _ p1 (Y7 B2 p1)) hv ?_
  have t3:=k3.ts B2
  ext
  refine J5 (by simp) fun q G hq e s'=>?_
  refine k q G ⟨q,_,rfl,e,.set _ d ns (((p4 d hd).1.ts t3).ts (o7.ts s')),_,_,rfl,by decide⟩ ⟨_,e,fun u hu=>?_⟩ (B3.same s') ((k02.trans k3).trans (D3.of_same s'))
  rcases c8.mp hu with rfl | hu
  ·exact⟨os,fun q e=>nomatch e⟩
  ·rw[d3.mp hu]
   exact⟨(fun s e=>nomatch e),fun q e=>by cases e;exact((p4 d hd).2.ts t3).ts (o7.ts s')⟩
 ext
 nofun
 refine a0P (fun _=>?_) (fun _=>?_)
 ·ext
  exists a1t B2 N2 fun v H3 o1 p1 B3 k3=>?_
  refine J5 (by simp) fun q G hq e s'=>?_
  refine k q G ⟨q,_,rfl,e,.copy _ v ns o1,_,_,rfl,by decide⟩ ⟨_,e,fun u hu=>?_⟩ (B3.same s') ((k02.trans k3).trans (D3.of_same s'))
  rcases c8.mp hu with rfl | hu
  ·exact⟨os,fun q e=>nomatch e⟩
  ·rw[d3.mp hu]
   exact⟨p1,fun q e=>by rcases o1 with ⟨s,rfl,_⟩ | ⟨n,rfl,_⟩ <;> cases e⟩
 ext
 nofun
 refine a0P (fun _=>?_) (fun _=>?_)
 ·ext
  exists J5 (by simp) fun q1 G1 hq1 e1 s1=>?_
  exists a1t (B2.same s1) ⟨s1 _ _ N2.h,N2.pos,N2.le,N2.nm⟩ fun v H3 o1 p1 B3 k3=>?_
  exists J5 (by simp) fun q2 G2 hq2 e2 s2=>?_
  exists J5 (by simp) fun q3 G3 hq3 e3 s3=>?_
  have B2':=B3.same s2
  refine K7 (B2'.same s3) (by decide) (by decide) fun j H4 j0 j1 B4 k4=>?_
  obtain⟨x,hx,hx2⟩:=a1T (xs:=[V.ref q1,V.ref q2]) j0 (by simpa using j1)
  refine E7 (k4.1 _ _ e3 (B2'.nb hq3).1) hx ?_
  have kk:D3 b H H4:=(((k02.trans (D3.of_same s1)).trans k3).trans (D3.of_same (s2.trans s3))).trans k4
  have f1:H4 q1=_:=k4.1 _ _ (s3 _ _ (s2 _ _ (k3.1 _ _ e1 (B2.nb hq1).1))) (B2.nb hq1).1
  have f2:H4 q2=_:=k4.1 _ _ (s3 _ _ e2) (B3.nb hq2).1
  have m:=mI hx2
  simp only[c8,l6,or_false]at m
  rcases m with rfl | rfl
  ·exact k q1 H4 ⟨q1,_,rfl,f1,.take _ ns,_,_,rfl,by decide⟩ ⟨_,f1,fun u hu=>by
    rw[d3.mp hu];exact⟨os,fun q e=>nomatch e⟩⟩ B4 kk
  ·exact k q2 H4 ⟨q2,_,rfl,f2,.tell v o1,_,_,rfl,by decide⟩ ⟨_,f2,fun u hu=>by
    rw[d3.mp hu]
    exact⟨p1,fun q e=>by rcases o1 with ⟨s,rfl,_⟩ | ⟨n,rfl,_⟩ <;> cases e⟩⟩ B4 kk
 ext
 refine J5 (by simp) fun q G hq e s'=>?_
 exact k q G ⟨q,_,rfl,e,.skip,_,_,rfl,by decide⟩ ⟨_,e,fun u hu=>nomatch hu⟩ (B2.same s') (k02.trans (D3.of_same s'))
def b8e(H:Hp)(rs:List Addr)(PL:List Str):Prop:=∀p∈rs,b8f H PL p
theorem b9p(hB:Bag H b c)
  (k:∀p ra na N rs PL H',H' p=some (.tup [.ref ra,.ref na])->P3 H' ra N->H' ra=some (.lst (rs.map V.ref))->b8e H' rs PL->PL.length<=4->D9 H' na N->a0W N->N.length<=24->Bag H' b c->D3 b H H'->Q (.ref p) H'):a6W K [.ref b] H Q E:=by
 refine⟨rfl,?_⟩
 unfold b6B
 nofun
 exists b9m hB fun pa PL H0 P0 B0 k0=>?_
 nofun
 exists K7 B0 (by decide) (by decide) fun n1 H1 b0 b1 B1 k1=>?_
 nofun
 exists K7 B1 (by decide) (by decide) fun n2 H2 c0 c1 B2 k2=>?_
 have k02:=(k0.trans k1).trans k2
 have k012:=k1.trans k2
 exact_mod_cast a0S (P:=fun σ H2=>∃m kd:Nat,σ=[some (.ref b),some (.ref pa),some (.int (m:Int)),some (.int (kd:Int)),none,none,none]/\0<m/\m<=24/\0<kd/\kd<=5/\Bag H2 b c/\D3 b H0 H2) ?_ ?_
 rotate_left
 ·intro nx hnx
  ext
  exists K7 B2 (by decide) (by decide) fun n3 H3 d0 d1 B3 k3=>?_
  refine a0P (fun _=>?_) (fun _=>?_)
  ·nofun
   exists K7 B3 (by decide) (by decide) fun n4 H4 f0 f1 B4 k4=>?_
   exists K7 B4 (by decide) (by decide) fun n5 H5 g0 g1 B5 k5=>?_
   obtain⟨n4,rfl⟩:=F3 f0
   obtain⟨n5,rfl⟩:=F3 g0
   exact hnx _ _ ⟨15+n4,1+n5,rfl,by omega,by omega,by omega,by omega,B5,((k012.trans k3).trans k4).trans k5⟩
  ·ext
   obtain⟨n1,rfl⟩:=F3 b0
   obtain⟨n2,rfl⟩:=F3 c0
   exact hnx _ _ ⟨1+n1,1+n2,rfl,by omega,by omega,by omega,by omega,B3,k012.trans k3⟩
 rintro _ H3 ⟨m,kd,rfl,m0,m1,kd0,kd1,B3,k3⟩
 nofun
 exists c2K B3 m0 m1 fun a N0 H4 n4 l4 s4 z4 B4 k4=>?_
 exists b5n n4 (by omega) (by omega) (by rw[l4];exact s4) (by rw[l4];exact z4) fun na N H5 n5 v5 lN s5=>?_
 have B5:=B4.same s5
 have k05:D3 b H0 H5:=(k3.trans k4).trans (D3.of_same s5)
 have P5:=P0.kept B0 k05
 exact_mod_cast Q7 ?_
 exact_mod_cast c0S ?_
 specialize U6 (a0h ?_)
 refine⟨(kd:Int),rfl,by omega,by omega,fun D hD=>?_⟩
 rw[u8]
 obtain⟨nb,nc⟩:=B5.nb hD
 refine a5s (fun i ys H6=>∃ps:List Addr,ys=ps.map V.ref/\ps.length=i/\(∀p∈ps,a4s H6 p/\a6L H6 PL p)/\H6 D=some (.lst ys)/\Bag H6 b c/\D3 b H5 H6) ⟨[],rfl,rfl,by simp,c6,B5.new hD,D3.new hD⟩ ?_ ?_ ?_
 ·rintro i ys H6 ⟨_,_,_,_,h,_⟩
  exact h
 ·rintro i ys H6 hi ⟨ps,rfl,lp,hp,hd,B6,k6⟩ R hR
  ext
  refine c0o B6 (P5.kept B5 k6) fun p H7 d7 q7 _ B7 k7=>?_
  have hd7:=k7.1 _ _ hd nb
  have tp:U2 H7 (upd H7 D (.lst (ps.map V.ref++[.ref p]))):=U2.put hd7
  refine hR _ _ hd7 (G9 (by rw[a8];omega)) ⟨ps++[p],by simp,by simp[lp],fun q hq=>?_,c6,B7.put nb nc,(k6.trans k7).put hD⟩
  rcases o8.mp hq with z | z
  ·exact⟨((hp q z).1.ts (k7.ts B6)).ts tp,((hp q z).2.ts (k7.ts B6)).ts tp⟩
  ·rw[d3.mp z]
   exact⟨d7.ts tp,q7.ts tp⟩
 rintro ys H6 ⟨ps,rfl,lp,hp,hd6,B6,k6⟩
 have G6:b2u H6 D PL:=⟨ps,hd6,by intro z;subst z;simp at lp;omega,by omega,hp⟩
 have P6:=P5.kept B5 k6
 have n6:=n5.kept B5 v5.two k6
 obtain⟨as,q1,q2,q3⟩:=id n6.ex
 ext
 exact_mod_cast Q7 ?_
 refine a9X ?_
 specialize U6 (O9 ?_)
 refine⟨na,rfl,⟨_,SqL.of q1⟩,fun R' hR'=>?_⟩
 obtain⟨rb,rc⟩:=B6.nb hR'
 refine R0 (xs:=as.map V.ref) (fun i ys H7=>∃rs:List Addr,ys=rs.map V.ref/\rs.length=i/\(∀(j:Nat) x l,rs[j]? = some x->N[j]? = some l->a8r H7 (.ref x) (l.length == 2))/\b8e H7 rs PL/\H7 R'=some (.lst ys)/\Bag H7 b c/\D3 b H6 H7) ⟨[],rfl,rfl,by simp,(fun p hp=>nomatch hp),c6,B6.new hR',D3.new hR'⟩ ?_ ?_ ?_ ?_
 ·rintro i ys H7 ⟨_,_,_,_,_,h,_⟩
  exact h
 ·rintro i ys H7 _ ⟨_,_,_,_,_,_,_,k7⟩
  exact SqL.of (k7.1 _ _ q1 (Y7 B6 q1))
 ·rintro i x ys H7 hx ⟨rs,rfl,lr,hr,rp,hR7,B7,k7⟩ R hR
  rw[b8]at hx
  obtain⟨xa,hxa,rfl⟩:=l7.mp hx
  have hi:i<N.length:=by rw[<-q2];exact(gI hxa)
  have hx6:=q3 i xa _ hxa (F4 hi)
  have hx7:=k7.1 _ _ hx6 (a7E B6 hx6 (by rw[M8];have:=v5.two _ (D2 hi);omega))
  ext
  refine K8 hx7 ?_
  rw[M8]
  ext
  have ea:decide (V.int (N[i].length:Int)=V.int 2)=(N[i].length == 2):=by
   rw[L7,decide_eq_true_iff,beq_iff_eq]
   exact⟨fun z=>by have:=V.int.inj z;omega,fun z=>by rw[z];rfl⟩
  rw[ea]
  refine c1E B7 (P6.kept B6 k7) (G6.kept B6 k7) fun q H8 r8 p8 B8 k8=>?_
  have hR8:=k8.1 _ _ hR7 rb
  have t8:=k8.ts B7
  have tp:U2 H8 (upd H8 R' (.lst (rs.map V.ref++[.ref q]))):=U2.put hR8
  refine hR _ _ hR8 (G9 (by rw[a8];omega)) ⟨rs++[q],by simp,by simp[lr],fun j y l g1 g2=>?_,fun y hy=>?_,c6,B8.put rb rc,(k7.trans k8).put hR'⟩
  ·rcases X7 g1 with ⟨_,f1⟩ | ⟨hj,f1⟩
   ·exact((hr j y l f1 g2).ts t8).ts tp
   ·rw[hj,lr,F4 hi]at g2
    cases g2
    subst f1
    exact r8.ts tp
  ·rcases o8.mp hy with z | z
   ·exact((rp y z).ts t8).ts tp
   ·rw[d3.mp z];exact p8.ts tp
 ·rintro ys H7 ⟨rs,rfl,lr,hr,rp,hR7,B7,k7⟩
  rw[a8]at lr
  ext
  refine J5 (by simp) fun p H8 hp8 e8 s8=>?_
  exact k p R' na N rs PL H8 e8 ((⟨rs,hR7,by rw[lr,q2],hr⟩:P3 H7 R' N).same s8) (s8 _ _ hR7) (fun p hp=>(rp p hp).ts (o7.ts s8)) P0.le ((n6.kept B6 v5.two k7).same s8) v5 lN (B7.same s8) (((k0.trans k05).trans (k6.trans k7)).trans (D3.of_same s8))
end
theorem big{n:Nat}(h:n<=1000000):n<=j9:=C2 h (by rw[a2o];decide)
theorem a6T{K:Fg}{E:XK}(ha:H a=some (.lst xs))(h1:1<=xs.length)(h2:xs.length<=400)(k:Q .non H):Y6 K [.ref a,.int 0,.int 1] H Q E:=by
 refine⟨rfl,?_⟩
 unfold a3r
 nofun
 exists a0U (s := "list") (by simp only[a2r,ha]) (by decide) ?_
 exists t7 (by decide) ?_
 exists K8 ha ?_
 exists t7 (c6w (by omega)) ?_
 exists K8 ha ?_
 exists t7 (c6w (by omega)) ?_
 exact k
theorem a4q{K:Fg}{n:Nat}{E:XK}(ha:H a=some (.lst (u0 n (V.bl true))))(k:∀H',o7 H H'->Q .non H'):Y4 K [.ref a] H Q E:=by
 refine⟨rfl,?_⟩
 unfold a4Y
 specialize V2 (a5g ?_)
 refine⟨a,rfl,⟨_,SqL.of ha⟩,?_⟩
 refine a9x n (fun i σ H2=>∃x1 x2,σ=[some (.ref a),x1,x2]/\o7 H H2) ⟨_,_,rfl,o7.refl _⟩ ?_ ?_ ?_
 ·rintro _ H2 ⟨x1,x2,rfl,s2⟩
  exact⟨⟨_,SqL.of (s2 _ _ ha),by simp⟩,k H2 s2⟩
 ·rintro i _ H2 hi ⟨x1,x2,rfl,s2⟩
  exact⟨_,V.bl true,SqL.of (s2 _ _ ha),by rw[F1,if_pos hi]⟩
 ·rintro i _ H2 hi ⟨x1,x2,rfl,s2⟩ x H3 ⟨p,y,hp,rfl,rfl,hy⟩
  have hy:=hy _ (SqL.of (s2 _ _ ha))
  rw[F1,if_pos hi]at hy
  cases hy
  exists a6Z (SqT.of c6) ?_
  exists t7 rfl ?_
  exact⟨_,_,rfl,s2.trans (v0 hp)⟩
theorem a7s(n:Nat):u0 n (V.bl true)++[V.bl true]=u0 (n+1) (V.bl true):=by
 rw[a1f]
theorem c2N{n:Nat}(h:n=0\/n=1):inV (.int (n:Int)) [.int 0,.int 1]=true:=by
 rcases h with rfl | rfl <;> decide
theorem b0L{K:Fg}{x:Addr}{E:XK}(hv:a8r H v (l.length == 2))(hx:H x=some (.lst (IL l)))(h2:l.length<=2)(hlt:∀t∈l,t<m)(k:∀H',o7 H H'->Q (.bl true) H') :
  a1b K [v,.ref x,.int (m:Int)] H Q E:=by
 obtain⟨p,xs,rfl,hp,_,kd,r,rfl,hk⟩:=hv
 refine⟨rfl,?_⟩
 unfold a6A
 nofun
 exists a0U (s := "list") (by simp only[a2r,hx]) (by decide) ?_
 exists t7 (by decide) ?_
 exact_mod_cast a0S (P:=fun σ H1=>∃w ws,σ=[some (.ref p),some (.ref x),some (.int (m:Int)),some (.ref w)]/\H1 w=some (.tup ws)/\ws.all F2=true/\inV (.int (l.length:Int)) ws=true/\o7 H H1) ?_ ?_
 rotate_left
 ·intro nx hnx
  ext
  exists L8 hp (a3f _ _) ?_
  by_cases e:kd = "ask"
  ·exists C3 (c6x (by rw[e])) ?_
   refine J5 (by simp) fun w H1 hw e1 s1=>?_
   rw[c6x e]at hk
   have:l.length=2:=by simpa using hk.symm
   exact hnx _ _ ⟨w,_,rfl,e1,rfl,by rw[this];decide,s1⟩
  ·exists t7 (c6w (fun z=>e (V.str.inj z))) ?_
   refine J5 (by simp) fun w H1 hw e1 s1=>?_
   rw[c6w e]at hk
   have:¬l.length=2:=by
    intro z
    rw[z]at hk
    exact absurd hk (by decide)
   exact hnx _ _ ⟨w,_,rfl,e1,rfl,c2N (by omega),s1⟩
 rintro _ H1 ⟨w,ws,rfl,hw,fw,iw,s1⟩
 ext
 exists K8 (s1 _ _ hx) ?_
 rw[M8]
 refine a9o hw rfl fw ?_
 exists ⟨_,rfl,C3 iw ?_⟩
 specialize U6 (O9 ?_)
 refine⟨x,rfl,⟨_,SqL.of (s1 _ _ hx)⟩,fun D hD=>?_⟩
 refine R0 (xs:=IL l) (fun i ys H2=>ys=u0 i (V.bl true)/\H2 D=some (.lst ys)/\o7 H1 H2) ⟨rfl,c6,v0 hD⟩ ?_ ?_ ?_ ?_
 ·rintro i ys H2 ⟨_,h,_⟩
  exact h
 ·rintro i ys H2 _ ⟨_,_,s2⟩
  exact SqL.of (s2 _ _ (s1 _ _ hx))
 ·rintro i y ys H2 hy ⟨rfl,hD2,s2⟩ R hR
  have hy:(l.map fun(n:Nat)=>V.int (n:Int))[i]? = some y:=hy
  rw[b8]at hy
  cases ht:l[i]? with
  | none=>rw[ht]at hy;cases hy
  | some t=>
   rw[ht]at hy
   cases hy
   have hi:=(gI ht)
   have:=hlt t (mI ht)
   ext
   refine b0n (by omega) (by omega) ?_
   refine hR _ _ hD2 (G9 (by rw[A5];omega)) ⟨a7s i,c6,fun b o e=>?_⟩
   rw[c9 (c7 e hD)];exact s2 _ _ e
 ·rintro ys H2 ⟨rfl,hD2,s2⟩
  ext
  have e:u0 (IL l).length (V.bl true)=(u0 l.length true).map V.bl:=by rw[M8];simp
  rw[e]at hD2
  refine c4k hD2 ?_
  have:(u0 l.length true).all id=true:=by simp
  rw[this]
  exact k H2 (s1.trans s2)
theorem a8l{K:Fg}{E:XK}(hr:P3 H ra N)(hn:D9 H na N)(h400:N.length<=400)(h2:∀l∈N,l.length<=2)(hlt:∀l∈N,∀t∈l,t<N.length)(k:∀H',o7 H H'->Q .non H') :
  a0g K [.ref ra,.ref na] H Q E:=by
 obtain⟨rs,r1,r2,r3⟩:=id hr.ex
 obtain⟨as,a1,a2,a3⟩:=id hn.ex
 refine⟨rfl,?_⟩
 unfold a4l
 nofun
 exists a0U (s := "list") (by simp only[a2r,a1]) (by decide) ?_
 exists t7 (by decide) ?_
 exists K8 a1 ?_
 exists K8 r1 ?_
 exists t7 (by rw[a8,a8,r2,a2];simp) ?_
 specialize b4c (c1x ?_)
 refine⟨ra,na,rfl,⟨_,SqL.of r1⟩,⟨_,SqL.of a1⟩,fun D hD=>?_⟩
 refine b7Z N.length (fun i ys H2=>ys=u0 i (V.bl true)/\H2 D=some (.lst ys)/\o7 H H2) ⟨rfl,c6,v0 hD⟩ ?_ ?_ ?_ ?_
 ·rintro i ys H2 ⟨_,h,_⟩
  exact h
 ·rintro ys H2 ⟨rfl,hD2,s2⟩
  exists ⟨⟨_,_,SqL.of (s2 _ _ r1),SqL.of (s2 _ _ a1),.inl (by rw[a8,r2];exact d9 _)⟩,?_⟩
  exact a4q hD2 fun H3 s3=>k H3 (s2.trans s3)
 ·rintro i ys H2 hi ⟨_,_,s2⟩
  have e1:rs[i]? = some (rs[i]'(by omega)):=by simp[r2,hi]
  have e2:as[i]? = some (as[i]'(by omega)):=by simp[a2,hi]
  exact⟨_,_,_,_,SqL.of (s2 _ _ r1),SqL.of (s2 _ _ a1),by rw[b8,e1];rfl,by rw[b8,e2];rfl⟩
 ·rintro i ys H2 hi ⟨rfl,hD2,s2⟩ x H3 ⟨p,y1,y2,hp,rfl,rfl,g1,g2⟩
  obtain⟨rx,e1⟩:∃rx,rs[i]? = some rx:=⟨_,j6 (by omega)⟩
  obtain⟨ax,e2⟩:∃ax,as[i]? = some ax:=⟨_,j6 (by omega)⟩
  have g1:=g1 _ (SqL.of (s2 _ _ r1))
  have g2:=g2 _ (SqL.of (s2 _ _ a1))
  rw[b8,e1]at g1
  rw[b8,e2]at g2
  cases g1
  cases g2
  refine⟨p,_,_,rfl,SqT.of c6,fun R S hR hS=>?_⟩
  have s3:o7 H2 (upd H2 p (.tup [V.ref rx,V.ref ax])):=v0 hp
  obtain⟨H3,hH3⟩:∃H3,H3=upd H2 p (.tup [V.ref rx,V.ref ax]):=⟨_,rfl⟩
  rw[<-hH3]at s3 ⊢
  ext
  exists C3 rfl ?_
  have s03:=s2.trans s3
  exists K8 (s03 _ _ r1) ?_
  have hl:=F4 hi
  rw[a8,r2]
  refine b0L ((r3 i _ _ e1 hl).ts (o7.ts s03)) (s03 _ _ (a3 i _ _ e2 hl)) (h2 _ (D2 hi)) (hlt _ (D2 hi)) fun H4 s4=>?_
  refine hR _ _ (s4 _ _ (s3 _ _ hD2)) (G9 (by rw[A5];omega)) ⟨a7s i,c6,fun b o e=>?_⟩
  rw[c9 (c7 e hD)];exact s4 _ _ (s03 _ _ e)
def a3F(N:Nt)(k:Nat):Bool:=(N.getD k []).isEmpty
def a9N(N:Nt):List Nat:=(w4 N.length).filter (a3F N)
theorem b5o{k:Nat}(h:N[k]? = some []):k∈a9N N:=by
 refine J4.mpr ⟨U9.mpr (gI h),?_⟩
 unfold a3F
 simp[L4,h]
theorem b1x{K:Fg}{E:XK}(hn:D9 H na N)(h400:N.length<=400)(k:∀a H',H a=none->H' a=some (.lst (IL (a9N N)))->o7 H H'->Q (.ref a) H'):a1C K [.ref na] H Q E:=by
 obtain⟨as,a1,a2,a3⟩:=id hn.ex
 refine⟨rfl,?_⟩
 unfold a7t
 ext
 specialize b4c (a5g ?_)
 refine⟨na,rfl,⟨_,SqL.of a1⟩,fun D hD=>?_⟩
 refine b7Z N.length (fun i ys H2=>ys=IL ((w4 i).filter (a3F N))/\H2 D=some (.lst ys)/\o7 H H2) ⟨rfl,c6,v0 hD⟩ ?_ ?_ ?_ ?_
 ·rintro i ys H2 ⟨_,h,_⟩
  exact h
 ·rintro ys H2 ⟨rfl,hD2,s2⟩
  exact⟨⟨_,SqL.of (s2 _ _ a1),by rw[a8,a2];exact d9 _⟩,k D H2 hD hD2 s2⟩
 ·rintro i ys H2 hi ⟨_,_,s2⟩
  exact⟨_,_,SqL.of (s2 _ _ a1),by rw[b8,j6 (show i<as.length by omega)];rfl⟩
 ·rintro i ys H2 hi ⟨rfl,hD2,s2⟩ x H3 ⟨p,y,hp,rfl,rfl,g1⟩
  obtain⟨ax,e1⟩:∃ax,as[i]? = some ax:=⟨_,j6 (by omega)⟩
  have g1:=g1 _ (SqL.of (s2 _ _ a1))
  rw[b8,e1]at g1
  cases g1
  refine⟨p,_,_,rfl,SqT.of c6,fun R S hR hS=>?_⟩
  have s3:o7 H2 (upd H2 p (.tup [V.int (i:Int),V.ref ax])):=v0 hp
  obtain⟨H3,hH3⟩:∃H3,H3=upd H2 p (.tup [V.int (i:Int),V.ref ax]):=⟨_,rfl⟩
  rw[<-hH3]at s3 ⊢
  have s03:=s2.trans s3
  have hl:=F4 hi
  ext
  exists K8 (s03 _ _ (a3 i _ _ e1 hl)) ?_
  have hst:a3F N i=decide (V.int ((IL N[i]).length:Int)=V.int 0):=by
   rw[b2f,M8]
   unfold a3F
   simp only[L4,hl,a3c]
   cases N[i] with
   | nil=>rfl
   | cons a r=>
    rw[List.isEmpty_cons,eq_comm,decide_eq_false_iff_not,v7]
    omega
  rw[<-hst]
  cases hb:a3F N i with
  | true=>
   exists C3 rfl ?_
   refine hR _ _ (s3 _ _ hD2) (G9 ?_) ⟨?_,c6,fun b o e=>?_⟩
   ·rw[M8]
    have:=M6 (a3F N) (w4 i)
    rw[a2T]at this
    omega
   ·rw[a0n,a1W]
    unfold IL
    rw[z9]
    congr 1
    simp[hb]
   ·rw[c9 (c7 e hD)];exact s03 _ _ e
  | false=>
   refine t7 rfl ?_
   refine hS _ ⟨?_,s3 _ _ hD2,s03⟩
   rw[a0n,a1W]
   simp[hb]
theorem c0Y{α:Type}{l:List α}(nd:l.Nodup){j:Nat}{x:α}(h1:l[i]? = some x)(h2:l[j]? = some x):i=j:=
 (List.getElem?_inj (gI h1) nd).mp (h1.trans h2.symm)
structure a3H(H0 H:Hp)(a:Addr)(as:List Addr)(M:Nt):Prop where
 same:o7 H0 H
 h:H a=some (.lst (as.map V.ref))
 len:as.length=M.length
 nd:as.Nodup
 na:a∉as
 at_:∀(i:Nat) x l,as[i]? = some x->M[i]? = some l->H x=some (.lst (IL l))
 new:H0 a=none/\∀x∈as,H0 x=none
theorem a3H.next(h:a3H H0 H a as M)(s:o7 H H'):a3H H0 H' a as M:=
 ⟨h.same.trans s,s _ _ h.h,h.len,h.nd,h.na,fun i x l e1 e2=>s _ _ (h.at_ i x l e1 e2),h.new⟩
theorem a3H.add(h:a3H H0 H a as M){t p:Nat}{x:Addr}(e1:as[t]? = some x)(e2:M[t]? = some l) :
  a3H H0 (upd H x (.lst (IL (l++[p])))) a as (M.set t (l++[p])):=by
 have hx:=mI e1
 have hxa:x≠a:=fun z=>h.na (z ▸ hx)
 refine⟨fun b o e=>by rw[c9 (c7 e (h.new.2 x hx))];exact h.same b o e,by rw[c9 hxa.symm];exact h.h,by rw[W4];exact h.len,h.nd,h.na,fun i y l' f1 f2=>?_,h.new⟩
 by_cases e:i=t
 ·subst e
  rw[e1]at f1
  cases f1
  rw[G7 (gI e2)]at f2
  cases f2
  exact c6
 ·rw[K5 (Ne.symm e)]at f2
  have:y≠x:=by
   rintro rfl
   exact e (c0Y h.nd f1 e1)
  rw[c9 this]
  exact h.at_ i y l' f1 f2
theorem a3H.net(h:a3H H0 H a as M):D9 H a M:=⟨as,h.h,h.len,h.at_⟩
theorem a3H.nil(n:H0 a=none)(s:o7 H0 H)(e:H a=some (.lst [])):a3H H0 H a [] []:=⟨s,e,rfl,by simp,by simp,by simp,n,by simp⟩
theorem a3H.snoc(h:a3H H0 H a as M)(hp:H p=none)(ep:H' p=some (.lst (IL [])))(s:o7 H H') :
  a3H H0 (upd H' a (.lst ((as++[p]).map V.ref))) a (as++[p]) (M++[[]]):=by
 have npa:p≠a:=(c7 h.h hp).symm
 have npas:p∉as:=fun z=>by
  obtain⟨i,hi⟩:=J2.mp z
  have hl:i<M.length:=by rw[<-h.len];exact(gI hi)
  have:=h.at_ i p _ hi (F4 hl)
  rw[hp]at this
  cases this
 have fr0:H0 p=none:=h.same.free hp
 refine⟨fun b o e=>by rw[c9 (c7 e h.new.1)];exact s _ _ (h.same b o e),c6,by simp[h.len],?_,?_,fun i x l f1 f2=>?_,h.new.1,fun x hx=>?_⟩
 ·rw[T5]
  exact⟨h.nd,by simp,fun x hx y hy=>by rw[d3.mp hy];intro z;exact npas (z ▸ hx)⟩
 ·intro z
  rcases o8.mp z with q | q
  ·exact h.na q
  ·exact npa (d3.mp q).symm
 ·rcases X7 f1 with ⟨hi,g1⟩ | ⟨hi,g1⟩
  ·rcases X7 f2 with ⟨hj,g2⟩ | ⟨hj,g2⟩
   ·have:x≠a:=fun z=>h.na (z ▸ mI g1)
    rw[c9 this]
    exact s _ _ (h.at_ i x l g1 g2)
   ·have:=h.len;omega
  ·rcases X7 f2 with ⟨hj,g2⟩ | ⟨hj,g2⟩
   ·have:=h.len;omega
   ·subst g1 g2
    rw[c9 npa]
    exact ep
 ·rcases o8.mp hx with q | q
  ·exact h.new.2 x q
  ·rw[d3.mp q];exact fr0
theorem b8L{t u:Nat}{l':List Nat}(h:(M.set t l)[u]? = some l'):(u=t/\l'=l)\/(u≠t/\M[u]? = some l'):=by
 by_cases e:u=t
 ·subst e
  have hl:=(gI h)
  rw[W4]at hl
  rw[G7 hl]at h
  exact .inl ⟨rfl,(Option.some.inj h).symm⟩
 ·rw[K5 (Ne.symm e)]at h
  exact .inr ⟨e,h⟩
theorem b4L{K:Fg}{E:XK}(hn:D9 H na N)(h400:N.length<=400)(h2:∀l∈N,l.length<=2)(hlt:∀l∈N,∀t∈l,t<N.length)
  (k:∀a M H',D9 H' a M->M.length=N.length->(∀(p:Nat) (l:List Nat),N[p]? = some l->∀t∈l,∃l',M[t]? = some l'/\p∈l')->(∀l∈M,l.length<=2 * N.length/\∀p∈l,p<N.length)->o7 H H'->Q (.ref a) H'):a3O K [.ref na] H Q E:=by
 obtain⟨ns,a1,a2,a3⟩:=id hn.ex
 refine⟨rfl,?_⟩
 unfold b1q
 exact_mod_cast Q7 ?_
 specialize U6 (O9 ?_)
 refine⟨na,rfl,⟨_,SqL.of a1⟩,fun A hA=>?_⟩
 refine R0 (xs:=ns.map V.ref) (fun i ys H2=>∃as,ys=as.map V.ref/\a3H H H2 A as (u0 i [])) ?_ ?_ ?_ ?_ ?_
 ·exact⟨[],rfl,.nil hA (v0 hA) c6⟩
 ·rintro i ys H2 ⟨as,rfl,I⟩
  exact I.h
 ·rintro i ys H2 _ ⟨as,rfl,I⟩
  exact SqL.of (I.same _ _ a1)
 ·rintro i x ys H2 hx ⟨as,rfl,I⟩ R hR
  have hi:i<N.length:=by
   have:=(gI hx)
   rw[a8,a2]at this
   exact this
  ext
  refine J5 (by simp) fun p H3 hp e3 s3=>?_
  have:=I.len
  rw[A5]at this
  refine hR _ _ (s3 _ _ I.h) (G9 (by rw[a8];omega)) ⟨as++[p],by simp,?_⟩
  have q:=I.snoc hp e3 s3
  rw[show u0 i ([]:List Nat)++[[]]=u0 (i+1) [] from by rw[a1f]]at q
  rw[show as.map V.ref++[V.ref p]=(as++[p]).map V.ref by simp]
  exact q
 rintro ys H2 ⟨as,rfl,I2⟩
 rw[a8,a2]at I2
 ext
 exact_mod_cast Q7 ?_
 specialize V2 (a5g ?_)
 refine⟨na,rfl,⟨_,SqL.of (I2.same _ _ a1)⟩,?_⟩
 refine a9x N.length (fun i σ H3=>∃x2 x3 x4 M,σ=[some (.ref na),some (.ref A),x2,x3,x4]/\a3H H H3 A as M/\M.length=N.length/\(∀(p:Nat) (l:List Nat),p<i->N[p]? = some l->∀t∈l,∃l',M[t]? = some l'/\p∈l')/\(∀l∈M,l.length<=2 * i/\∀p∈l,p<N.length)) ?_ ?_ ?_ ?_
 ·exact⟨_,_,_,_,rfl,I2,by simp,by omega,fun l hl=>by rw[List.eq_of_mem_replicate hl];simp⟩
 ·rintro _ H3 ⟨x2,x3,x4,M,rfl,I3,lM,g1,g2⟩
  exists ⟨⟨_,SqL.of (I3.same _ _ a1),by rw[a8,a2];exact d9 _⟩,?_⟩
  exact k A M H3 I3.net lM (fun p l hl=>g1 p l (gI hl) hl) g2 I3.same
 ·rintro i _ H3 hi ⟨x2,x3,x4,M,rfl,I3,lM,g1,g2⟩
  exact⟨_,_,SqL.of (I3.same _ _ a1),by rw[b8,j6 (show i<ns.length by omega)];rfl⟩
 ·rintro i _ H3 hi ⟨x2,x3,x4,M,rfl,I3,lM,g1,g2⟩ x H4 ⟨p,y,hp,rfl,rfl,gy⟩
  obtain⟨nx,e1⟩:∃nx,ns[i]? = some nx:=⟨_,j6 (by omega)⟩
  have gy:=gy _ (SqL.of (I3.same _ _ a1))
  rw[b8,e1]at gy
  cases gy
  refine a6Z (SqT.of c6) ?_
  have s4:o7 H3 (upd H3 p (.tup [V.int (i:Int),V.ref nx])):=v0 hp
  obtain⟨H4,hH4⟩:∃H4,H4=upd H3 p (.tup [V.int (i:Int),V.ref nx]):=⟨_,rfl⟩
  rw[<-hH4]at s4 ⊢
  have I4:=I3.next s4
  have hl:=F4 hi
  obtain⟨l,hle⟩:∃l,l=N[i]:=⟨_,rfl⟩
  rw[<-hle]at hl
  have hx:H nx=some (.lst (IL l)):=a3 i nx l e1 hl
  have hll:=h2 l (mI hl)
  specialize V2 (O9 ?_)
  refine⟨nx,rfl,⟨_,SqL.of (I4.same _ _ hx)⟩,a0i (xs:=IL l) (fun j σ H5=>∃x4 M',σ=[some (.ref na),some (.ref A),some (.int (i:Int)),some (.ref nx),x4]/\a3H H H5 A as M'/\M'.length=N.length/\(∀(p:Nat) (l:List Nat),p<i->N[p]? = some l->∀t∈l,∃l',M'[t]? = some l'/\p∈l')/\(∀t∈l.take j,∃l',M'[t]? = some l'/\i∈l')/\(∀l∈M',l.length<=2 * i+j/\∀p∈l,p<N.length)) ?_ ?_ ?_ ?_⟩
  ·exact⟨_,M,rfl,I4,lM,g1,by simp,g2⟩
  ·rintro j σ H5 _ ⟨_,_,_,I5,_⟩
   exact SqL.of (I5.same _ _ hx)
  ·rintro j y _ H5 hy ⟨x4,M',rfl,I5,lM',c1,c2,c3⟩
   have hy:(l.map fun(n:Nat)=>V.int (n:Int))[j]? = some y:=hy
   rw[b8]at hy
   cases ht:l[j]? with
   | none=>rw[ht]at hy;cases hy
   | some t=>
    rw[ht]at hy
    cases hy
    have tm:=mI ht
    have hj:=(gI ht)
    have htn:t<N.length:=hlt l (mI hl) t tm
    ext
    obtain⟨z,hz⟩:∃z,as[t]? = some z:=⟨_,j6 (by have:=I5.len;omega)⟩
    have hMt:=F4 (show t<M'.length by omega)
    have hMz:=I5.at_ t z _ hz hMt
    specialize b3d ?_
    refine E7 I5.h (M3 (by rw[b8,hz];rfl)) ?_
    exists ⟨a1A hMz,?_⟩
    have hb:=c3 _ (D2 (show t<M'.length by omega))
    refine a5j hMz (G9 (by rw[M8];omega)) ?_
    refine⟨_,M'.set t (M'[t]++[i]),rfl,?_,by rw[W4];exact lM',?_,?_,?_⟩
    ·have:=I5.add (p:=i) hz hMt
     rw[show IL M'[t]++[V.int (i:Int)]=IL (M'[t]++[i]) by simp[IL]]
     exact this
    ·intro p' l' hp' hl' u hu
     obtain⟨l'',q1,q2⟩:=c1 p' l' hp' hl' u hu
     by_cases e:u=t
     ·subst e
      rw[hMt]at q1
      cases q1
      exact⟨_,G7 (by omega),C0 _ q2⟩
     ·exact⟨l'',by rw[K5 (Ne.symm e)];exact q1,q2⟩
    ·intro u hu
     rw[E9,ht]at hu
     by_cases e:u=t
     ·subst e
      exact⟨_,G7 (by omega),by simp⟩
     ·rcases o8.mp hu with q | q
      ·obtain⟨l'',q1,q2⟩:=c2 u q
       exact⟨l'',by rw[K5 (Ne.symm e)];exact q1,q2⟩
      ·exact absurd (by simpa using q) e
    ·intro l' hl'
     obtain⟨u,hu⟩:=J2.mp hl'
     rcases b8L hu with ⟨_,rfl⟩ | ⟨_,q⟩
     ·refine⟨by rw[u4,M5];omega,fun p' hp'=>?_⟩
      rcases o8.mp hp' with q | q
      ·exact hb.2 p' q
      ·rw[d3.mp q];exact hi
     ·obtain⟨r1,r2⟩:=c3 l' (mI q)
      exact⟨by omega,r2⟩
  ·rintro _ H5 ⟨x4,M',rfl,I5,lM',c1,c2,c3⟩
   rw[M8,N3]at c2
   refine⟨_,_,x4,M',rfl,I5,lM',fun p' l' hp' hl' t ht=>?_,fun l' hl'=>?_⟩
   ·by_cases e:p'=i
    ·subst e
     rw[hl]at hl'
     cases hl'
     exact c2 t ht
    ·exact c1 p' l' (by omega) hl' t ht
   ·obtain⟨r1,r2⟩:=c3 l' hl'
    rw[M8]at r1
    exact⟨by omega,r2⟩
theorem a7M{K:Fg}{ba la:Addr}{bs:List Nat}{B:Nat}{E:XK}(hb:H ba=some (.lst (IL bs)))(hm:D9 H la M)(h400:M.length<=400)(hB:B<=800)(hl:∀l∈M,l.length<=B/\∀t∈l,t<M.length)(hbs:∀x∈bs,x<M.length)(lb:bs.length<=400)
  (k:∀d S H',H' d=some (.dK (KS S))->S.Nodup->(∀x∈S,x<M.length)->(∀x∈bs,x∈S)->a4Q M S->o7 H H'->Q (.ref d) H'):a1o K [.ref ba,.ref la] H Q E:=by
 refine⟨rfl,?_⟩
 unfold a9h
 nofun
 exists a5Z fun d H1 hd e1 s1=>?_
 nofun
 exists a5i (s1 _ _ hb) fun w H2 hw e2 s2=>?_
 have s02:=s1.trans s2
 have hw0:H w=none:=s1.free hw
 have ndw:d≠w:=c7 e1 hw
 exact_mod_cast Q7 ?_
 exact_mod_cast a9W ?_
 refine⟨fun m σ H3=>∃x4 ws S,σ=[some (.ref ba),some (.ref la),some (.ref d),some (.ref w),x4]/\H3 w=some (.lst (IL ws))/\H3 d=some (.dK (KS S))/\o7 H H3/\S.Nodup/\(∀x∈S,x<M.length)/\(∀x∈ws,x<M.length) /\
  (∀x∈bs,x∈S\/x∈ws)/\(∀k∈S,∀l,M[k]? = some l->∀t∈l,t∈S\/t∈ws)/\ws.length<=400+S.length * B/\m=(M.length - S.length) * (B+1)+ws.length,?_,?_⟩
 ·exact⟨_,_,bs,[],rfl,e2,s2 _ _ e1,s02,by simp,by simp,hbs,fun x hx=>.inr hx,by simp,by omega,rfl⟩
 rintro m _ H3 ⟨x4,ws,S,rfl,hw3,hd3,s3,nd,hS,hws,c1,c2,c3,rfl⟩
 ext
 exists K8 hw3 ?_
 have hSl:=a5n _ _ nd hS
 rcases b2R ws with rfl | ⟨r,p,rfl⟩
 ·exists t7 (c6w (by rw[M8];simp)) ?_
  refine k d S H3 hd3 nd hS (fun x hx=>(c1 x hx).elim id fun z=>by simp at z) (fun a ha l hl' t ht=>(c2 a ha l hl' t ht).elim id fun z=>by simp at z) s3
 refine C3 (c6x (by rw[M8,u4,M5];omega)) ?_
 have hp:p<M.length:=hws p (by simp)
 have eIL:IL (r++[p])=IL r++[V.int (p:Int)]:=by simp[IL]
 rw[eIL]at hw3
 refine⟨fun σ H4=>∃m' x4 ws S',σ=[some (.ref ba),some (.ref la),some (.ref d),some (.ref w),x4]/\H4 w=some (.lst (IL ws))/\H4 d=some (.dK (KS S'))/\o7 H H4/\S'.Nodup/\(∀x∈S',x<M.length)/\(∀x∈ws,x<M.length) /\
  (∀x∈bs,x∈S'\/x∈ws)/\(∀k∈S',∀l,M[k]? = some l->∀t∈l,t∈S'\/t∈ws)/\ws.length<=400+S'.length * B/\m'=(M.length - S'.length) * (B+1)+ws.length/\m'<(M.length - S.length) * (B+1)+(r++[p]).length,?_,?_⟩
 ·rintro σ' H4 ⟨m',x4,ws,S',e,r1,r2,r3,r4,r5,r6,r7,r8,r9,r10,r11⟩
  exact⟨m',r11,x4,ws,S',e,r1,r2,r3,r4,r5,r6,r7,r8,r9,r10⟩
 nofun
 specialize c3W ?_
 exists ⟨a1A hw3,c4f hw3 ?_⟩
 have sW:o7 H (upd H3 w (.lst (IL r))):=fun b o e=>by rw[c9 (c7 e hw0)];exact s3 b o e
 have hdW:(upd H3 w (.lst (IL r))) d=some (.dK (KS S)):=by rw[c9 ndw];exact hd3
 have hwW:(upd H3 w (.lst (IL r))) w=some (.lst (IL r)):=c6
 obtain⟨H4,hH4⟩:∃H4,H4=upd H3 w (.lst (IL r)):=⟨_,rfl⟩
 rw[<-hH4]at sW hdW hwW ⊢
 rw[u4,M5]at c3 ⊢
 specialize a3u ?_
 obtain⟨o,g1,g2⟩:=a3W hdW p
 refine⟨d,o,rfl,g1,?_⟩
 rw[g2]
 ext
 by_cases hps:p∈S
 ·exists t7 (by rw[c6x hps];rfl) ?_
  refine⟨_,_,r,S,rfl,hwW,hdW,sW,nd,hS,fun x hx=>hws x (C0 _ hx),fun x hx=>?_,fun a ha l hl' t ht=>?_,by omega,rfl,by omega⟩
  ·rcases c1 x hx with z | z
   ·exact .inl z
   ·rcases o8.mp z with q | q
    ·exact .inr q
    ·exact .inl (d3.mp q ▸ hps)
  ·rcases c2 a ha l hl' t ht with z | z
   ·exact .inl z
   ·rcases o8.mp z with q | q
    ·exact .inr q
    ·exact .inl (d3.mp q ▸ hps)
 refine C3 (by rw[c6w hps];rfl) ?_
 obtain⟨xs,y,f1,f2,f3,_⟩:=(hm.same sW).at (F4 hp)
 obtain⟨l,hle⟩:∃l,l=M[p]:=⟨_,rfl⟩
 have hlp:M[p]? = some l:=by rw[hle];exact F4 hp
 rw[<-hle]at f3
 obtain⟨b1,b2⟩:=hl l (mI hlp)
 have hput:a3y S p=S++[p]:=by unfold a3y;rw[if_neg hps]
 have hS1:S.length<M.length:=by
  have:=a5n _ _ (a7b (k:=p) nd) fun x hx=>(W8.mp hx).elim (hS x) fun z=>z ▸ hp
  rw[hput,u4,M5]at this
  omega
 exact_mod_cast Q7 ?_
 specialize a2A ?_
 refine⟨d,_,rfl,b0w hdW (by omega) p,?_⟩
 rw[hput]
 obtain⟨H5,hH5⟩:∃H5,H5=upd H4 d (.dK (KS (S++[p]))):=⟨_,rfl⟩
 have hd5:H5 d=some (.dK (KS (S++[p]))):=hH5 ▸ c6
 have oth:∀b o,H4 b=some o->b≠d->H5 b=some o:=fun b o e n=>by rw[hH5,c9 n];exact e
 have s5:o7 H H5:=fun b o e=>oth b o (sW b o e) (c7 e hd)
 rw[<-hH5]
 have hw5:=oth w _ hwW (Ne.symm ndw)
 have fx5:=oth _ _ f1 (G5 f1 hdW (by intro z;cases z))
 have fy5:=oth _ _ f3 (G5 f3 hdW (by intro z;cases z))
 ext
 specialize b3d ?_
 exists ⟨a1A hw5,?_⟩
 refine E7 fx5 f2 ?_
 have hSB:S.length * B<=400 * 800:=Nat.mul_le_mul (by omega) hB
 ext
 refine b1H hw5 fy5 (big (by rw[M8,M8];omega)) ?_
 have e6:IL r++IL l=IL (r++l):=by simp[IL]
 rw[e6]
 ext
 have key:(M.length - (S.length+1)) * (B+1)+(B+1)=(M.length - S.length) * (B+1):=by
  rw[<-Nat.succ_mul]
  congr 1
  omega
 refine⟨_,_,r++l,S++[p],rfl,c6,by rw[c9 ndw];exact hd5,fun b o e=>by rw[c9 (c7 e hw0)];exact s5 b o e,hput ▸ a7b nd,fun x hx=>?_,fun x hx=>?_,fun x hx=>?_,fun a ha l' hl' t ht=>?_,?_,rfl,?_⟩
 ·rcases o8.mp hx with q | q
  ·exact hS x q
  ·rw[d3.mp q];exact hp
 ·rcases o8.mp hx with q | q
  ·exact hws x (C0 _ q)
  ·exact b2 x q
 ·rcases c1 x hx with z | z
  ·exact .inl (C0 _ z)
  ·rcases o8.mp z with q | q
   ·exact .inr (C0 _ q)
   ·exact .inl (t6 _ q)
 ·rcases o8.mp ha with q | q
  ·rcases c2 a q l' hl' t ht with z | z
   ·exact .inl (C0 _ z)
   ·rcases o8.mp z with u | u
    ·exact .inr (C0 _ u)
    ·exact .inl (t6 _ u)
  ·rw[d3.mp q,hlp]at hl'
   cases hl'
   exact .inr (t6 _ ht)
 ·rw[u4,u4,M5,Nat.succ_mul]
  omega
 ·rw[u4,u4,M5]
  omega
theorem a8O{K:Fg}{E:XK}(hn:D9 H na N)(hv:a0W N)(k:∀H',o7 H H'->Q .non H'):a0w K [.ref na] H Q E:=by
 refine⟨rfl,?_⟩
 unfold a4X
 nofun
 exists J5 (by simp) fun p1 H1 hp1 e1 s1=>?_
 exists a7M (bs:=[0]) (B:=2) e1 (hn.same s1) hv.le (by decide) (fun l hl=>⟨hv.two l hl,hv.lt l hl⟩) (by simpa using hv.pos) (by simp) fun d1 S1 H2 hd1 nd1 hS1 hb1 cl1 s2=>?_
 have in1:∀x,Rc N x->x∈S1:=by
  intro x h
  induction h with
  | zero=>exact hb1 0 (by simp)
  | @step a t l _ hl ht ih=>exact cl1 a ih l hl t ht
 nofun
 exists b1x ((hn.same s1).same s2) hv.le fun sa H3 _ e3 s3=>?_
 exists b4L (((hn.same s1).same s2).same s3) hv.le hv.two hv.lt fun ta M H4 m4 lM hM1 hM2 s4=>?_
 have lst:(a9N N).length<=N.length:=by
  have:=M6 (a3F N) (w4 N.length)
  rwa [a2T]at this
 have hle:=hv.le
 refine a7M (bs:=a9N N) (B:=2 * N.length) (s4 _ _ e3) m4 (by omega) (by omega) (fun l hl=>⟨(hM2 l hl).1,by rw[lM];exact(hM2 l hl).2⟩) (fun x hx=>by
  rw[lM]
  exact U9.mp (J4.mp hx).1) (by omega) fun d2 S2 H5 hd2 nd2 hS2 hb2 cl2 s5=>?_
 have in2:∀x,Gd N x->x∈S2:=by
  intro x h
  induction h with
  | @stop a h=>exact hb2 a (b5o h)
  | @step a t l h ht _ ih=>
   obtain⟨l',q1,q2⟩:=hM1 a l h t ht
   exact cl2 t ih l' q1 a q2
 have s05:=(((s1.trans s2).trans s3).trans s4).trans s5
 have hd1':H5 d1=_:=s5 _ _ (s4 _ _ (s3 _ _ hd1))
 obtain⟨ys,hy,ly⟩:=(hn.same s05).len
 ext
 specialize V2 (a0h ?_)
 refine K8 hy ?_
 refine⟨N.length,by rw[ly],by omega,by omega,?_⟩
 rw[u8]
 refine V6 (fun i σ H6=>∃x3,σ=[some (.ref na),some (.ref d1),some (.ref d2),x3]/\H6=H5) ⟨_,rfl,rfl⟩ ?_ ?_
 ·rintro i _ H6 hi ⟨x3,rfl,rfl⟩
  ext
  rw[W1]
  specialize a3u ?_
  obtain⟨o,g1,g2⟩:=a3W hd1' i
  refine⟨d1,o,rfl,g1,?_⟩
  rw[g2,c6x (in1 i (hv.rc i hi))]
  ext
  exists t7 rfl ?_
  specialize a3u ?_
  obtain⟨o',g1',g2'⟩:=a3W hd2 i
  refine⟨d2,o',rfl,g1',?_⟩
  rw[g2',c6x (in2 i (hv.gd i hi))]
  ext
  exists t7 rfl ?_
  exact⟨_,rfl,rfl⟩
 ·rintro _ H6 ⟨x3,rfl,rfl⟩
  exact k _ s05
abbrev Stp:=Int×Int
variable{s:Stp}
def FST:Stp:=(-1,0)
def a2t(N:Nt)(p:Nat):List Stp:=(w4 (N.getD p []).length).map fun(a:Nat)=>((p:Int),(a:Int))
def a4x(N:Nt)(i:Nat):List Stp:=FST::(w4 i).flatMap (a2t N)
def a1n(N:Nt):List Stp:=a4x N N.length
def a3E(N:Nt)(s:Stp):Nat:=if s=FST then 0 else (N.getD s.1.toNat []).getD s.2.toNat 0
theorem a6E(N:Nt)(i:Nat):a4x N (i+1)=a4x N i++a2t N i:=by
 unfold a4x
 rw[a0n,List.flatMap_append]
 simp
def b3R(N:Nt)(s:Stp):Prop:=s=FST\/∃(p q:Nat) (l:List Nat) (t:Nat),s=((p:Int),(q:Int))/\N[p]? = some l/\l[q]? = some t
theorem b5u(h:s∈a1n N):b3R N s:=by
 rcases c8.mp h with z | z
 ·exact .inl z
 ·obtain⟨p,hp,q⟩:=List.mem_flatMap.mp z
  have hp:=U9.mp hp
  obtain⟨a,ha,rfl⟩:=p9.mp q
  have ha:=U9.mp ha
  have e:N.getD p []=N[p]:=by simp[L4,hp]
  rw[e]at ha
  exact .inr ⟨p,a,N[p],N[p][a],rfl,F4 hp,by simp⟩
theorem c0d(hv:a0W N)(h:b3R N s):a3E N s<N.length:=by
 unfold a3E
 rcases h with rfl | ⟨p,q,l,t,rfl,h1,h2⟩
 ·rw[if_pos rfl];exact hv.pos
 ·split
  ·exact hv.pos
  ·have:(N.getD ((p:Int),(q:Int)).1.toNat []).getD ((p:Int),(q:Int)).2.toNat 0=t:=by
    show(N.getD (p:Int).toNat []).getD (q:Int).toNat 0=t
    rw[u8,u8]
    simp[L4,h1,h2]
   rw[this]
   exact hv.lt l (mI h1) t (mI h2)
def a2Z(K:Fg)(H:Hp)(a:Addr)(s:Stp):Prop:=H a=some (.tup [.int s.1,.int s.2])\/(s=FST/\∀H,SqT K H a [.int (-1),.int 0])
theorem a2Z.ts{K:Fg}(h:a2Z K H a s)(t:U2 H H'):a2Z K H' a s:=by
 rcases h with h | h
 ·exact .inl (t _ _ h)
 ·exact .inr h
theorem a2Z.sq{K:Fg}(h:a2Z K H a s):SqT K H a [.int s.1,.int s.2]:=by
 rcases h with h | ⟨e,h⟩
 ·exact SqT.of h
 ·subst e;exact h H
structure V9(K:Fg)(H:Hp)(l:Addr)(S:List Stp):Prop where
 ex:∃vs:List Addr,H l=some (.lst (vs.map V.ref))/\vs.length=S.length/\∀(i:Nat) x s,vs[i]? = some x->S[i]? = some s->a2Z K H x s
theorem V9.same{K:Fg}{l:Addr}{S:List Stp}(h:V9 K H l S)(s:o7 H H'):V9 K H' l S:=by
 obtain⟨vs,h1,h2,h3⟩:=h.ex
 exact⟨vs,s _ _ h1,h2,fun i x t e1 e2=>(h3 i x t e1 e2).ts (o7.ts s)⟩
theorem V9.kept{K:Fg}{l:Addr}{S:List Stp}(h:V9 K H l S)(hB:Bag H b c)(k:D3 b H H'):V9 K H' l S:=by
 obtain⟨vs,h1,h2,h3⟩:=h.ex
 exact⟨vs,k.1 _ _ h1 (Y7 hB h1),h2,fun i x t e1 e2=>(h3 i x t e1 e2).ts (D3.ts k hB)⟩
theorem V9.put{K:Fg}{l y:Addr}{S:List Stp}(h:V9 K H l S)(hy:H y=some (.lst xs))(n:l≠y):V9 K (upd H y (.lst ys)) l S:=by
 obtain⟨vs,h1,h2,h3⟩:=h.ex
 exact⟨vs,by rw[c9 n];exact h1,h2,fun i x t e1 e2=>(h3 i x t e1 e2).ts (U2.put hy)⟩
theorem b1y{K:Fg}{c:Cn}{E:XK}(ck:a4d K c)(hn:D9 H na N)(h400:N.length<=400)(h2:∀l∈N,l.length<=2)
  (k:∀a H',H a=none->V9 K H' a (a1n N)->o7 H H'->Q (.ref a) H'):a1D K c [.ref na] H Q E:=by
 obtain⟨ns,a1,a2,a3⟩:=id hn.ex
 refine⟨rfl,?_⟩
 unfold a7u
 nofun
 exists J5 (by simp) fun D H1 hD e1 s1=>?_
 exact_mod_cast Q7 ?_
 specialize V2 (a5g ?_)
 refine⟨na,rfl,⟨_,SqL.of (s1 _ _ a1)⟩,?_⟩
 refine a9x N.length (fun i σ H2=>∃x2 x3 vs,σ=[some (.ref na),some (.ref D),x2,x3]/\H2 D=some (.lst ((vs:List Addr).map V.ref))/\vs.length=(a4x N i).length/\vs.length<=1+2 * i/\(∀(j:Nat) x s,vs[j]? = some x->(a4x N i)[j]? = some s->a2Z K H2 x s)/\o7 H H2) ?_ ?_ ?_ ?_
 ·refine⟨_,_,[c.R6],rfl,e1,rfl,by simp,fun j x s f1 f2=>?_,s1⟩
  cases j with
  | zero=>
   cases f1
   cases f2
   exact .inr ⟨rfl,ck.a2U⟩
  | succ j=>simp at f1
 ·rintro _ H2 ⟨x2,x3,vs,rfl,hD2,lv,_,at2,s2⟩
  exists ⟨⟨_,SqL.of (s2 _ _ a1),by rw[a8,a2];exact d9 _⟩,?_⟩
  exact k D H2 hD ⟨vs,hD2,lv,at2⟩ s2
 ·rintro i _ H2 hi ⟨x2,x3,vs,rfl,hD2,lv,_,at2,s2⟩
  exact⟨_,_,SqL.of (s2 _ _ a1),by rw[b8,j6 (show i<ns.length by omega)];rfl⟩
 ·rintro i _ H2 hi ⟨x2,x3,vs,rfl,hD2,lv,lv2,at2,s2⟩ x H3 ⟨p,y,hp,rfl,rfl,gy⟩
  obtain⟨nx,f1⟩:∃nx,ns[i]? = some nx:=⟨_,j6 (by omega)⟩
  have gy:=gy _ (SqL.of (s2 _ _ a1))
  rw[b8,f1]at gy
  cases gy
  refine a6Z (SqT.of c6) ?_
  have s3:o7 H2 (upd H2 p (.tup [V.int (i:Int),V.ref nx])):=v0 hp
  obtain⟨H3,hH3⟩:∃H3,H3=upd H2 p (.tup [V.int (i:Int),V.ref nx]):=⟨_,rfl⟩
  rw[<-hH3]at s3 ⊢
  have s03:=s2.trans s3
  have hl:=F4 hi
  obtain⟨l,hle⟩:∃l,l=N[i]:=⟨_,rfl⟩
  rw[<-hle]at hl
  have hll:=h2 l (mI hl)
  have hx:=s03 _ _ (a3 i nx l f1 hl)
  ext
  specialize b3d ?_
  exists ⟨a1A (s3 _ _ hD2),?_⟩
  specialize U6 (a0h ?_)
  refine K8 hx ?_
  rw[M8]
  refine⟨l.length,rfl,by omega,by omega,fun A hA=>?_⟩
  rw[u8]
  refine a5s (fun j ys H4=>∃ws:List Addr,ys=ws.map V.ref/\ws.length=j/\(∀(q:Nat) x,ws[q]? = some x->H4 x=some (.tup [.int (i:Int),.int (q:Int)]))/\H4 A=some (.lst ys)/\o7 H3 H4) ?_ ?_ ?_ ?_
  ·exact⟨[],rfl,rfl,by simp,c6,v0 hA⟩
  ·rintro j ys H4 ⟨_,_,_,_,h,_⟩
   exact h
  ·rintro j ys H4 hj ⟨ws,rfl,lw,at4,hA4,s4⟩ R hR
   ext
   refine J5 (by simp) fun z H5 hz e5 s5=>?_
   rw[W1]at e5
   have nzA:z≠A:=(c7 hA4 hz).symm
   refine hR _ _ (s5 _ _ hA4) (G9 (by rw[a8];omega)) ⟨ws++[z],by simp,by simp[lw],fun q x hq=>?_,c6,fun b o e=>?_⟩
   ·rcases X7 hq with ⟨_,g⟩ | ⟨hq',g⟩
    ·have:=s5 _ _ (at4 q x g)
     rw[c9 (G5 this (s5 _ _ hA4) (by intro z;cases z))]
     exact this
    ·subst g
     rw[c9 nzA,e5,hq',lw]
   ·rw[c9 (c7 e hA)];exact s5 _ _ (s4 _ _ e)
  ·rintro ys H4 ⟨ws,rfl,lw,at4,hA4,s4⟩
   ext
   have hD4:H4 D=_:=s4 _ _ (s3 _ _ hD2)
   have s04:=s03.trans s4
   refine b1H hD4 hA4 (big (by rw[a8,a8];omega)) ?_
   rw[<-z9]
   have hon:a2t N i=(w4 l.length).map fun(a:Nat)=>((i:Int),(a:Int)):=by
    unfold a2t
    simp[L4,hl]
   have hU:=a6E N i
   have lon:(a2t N i).length=l.length:=by rw[hon];simp
   refine⟨_,_,vs++ws,rfl,c6,by rw[hU,u4,u4,lv,lw,lon],by rw[u4];omega,fun j x s g1 g2=>?_,fun b o e=>?_⟩
   ·rw[hU]at g2
    by_cases hj:j<vs.length
    ·rw[D1 hj]at g1
     rw[D1 (by omega)]at g2
     exact((at2 j x s g1 g2).ts (o7.ts (s3.trans s4))).ts (U2.put hD4)
    ·rw[X9 (by omega)]at g1
     rw[X9 (by omega),<-lv,hon,b8]at g2
     have hq:j - vs.length<l.length:=by
      have:=(gI g1)
      omega
     rw[a5D hq]at g2
     cases g2
     have:=at4 _ _ g1
     exact .inl (by rw[c9 (G5 this hD4 (by intro z;cases z))];exact this)
   ·rw[c9 (c7 e hD)];exact s04 _ _ e
def b8g(c:Cn)(H:Hp)(x:Addr)(N:Nt):Prop:=∃dx fs n,H x=some (.ins c.P4 dx fs)/\fs.lookup ("nexts" : Str)=some (V.ref n)/\D9 H n N
theorem eq2(p q:Int):a0v [.int p,.int q] [.int (-1),.int 0]=decide ((p,q)=FST):=by
 unfold a0v
 simp only[v7,a4g,Nat.zero_add,Nat.reduceAdd,Nat.min_self]
 rw[show w4 2=[0,1] from rfl]
 simp only[P9,b4v,c4K,L4,a3i,List.getElem?_cons_succ,a3c,beq_self_eq_true]
 unfold FST
 by_cases h:p = -1
 ·by_cases h':q=0
  ·subst h h';decide
  ·subst h
   simp[eqV,h']
 ·simp[eqV,h]
theorem b1X{K:Fg}{c:Cn}{x:Addr}{E:XK}(ck:a4d K c)(hp:b8g c H x N)(ha:a2Z K H a s)(hs:b3R N s)(k:Q (.int (a3E N s:Nat)) H):X4 K c [.ref x,.ref a] H Q E:=by
 refine⟨rfl,?_⟩
 unfold a2Y
 nofun
 refine⟨_,_,_,_,rfl,rfl,ha.sq,ck.a2U H,rfl,rfl,?_⟩
 rw[eq2]
 ext
 by_cases e:s=FST
 ·exists C3 (c6x e) ?_
  unfold a3E at k
  rw[if_pos e]at k
  exact k
 ·exists t7 (c6w e) ?_
  rcases hs with z | ⟨p,q,l,t,rfl,h1,h2⟩
  ·exact(e z).elim
  rcases ha with ha | ⟨z,_⟩
  rotate_left
  ·exact(e z).elim
  obtain⟨dx,fs,n,hx,hf,hn⟩:=hp
  specialize a4n ?_
  exists ⟨x,_,dx,fs,_,rfl,hx,ck.R7,ck.T0,hf,?_⟩
  refine L8 ha (a3f _ _) ?_
  obtain⟨xs,y,f1,f2,f3,_⟩:=hn.at h1
  exists E7 f1 f2 ?_
  refine L8 ha (a2Q _ _ _) ?_
  refine E7 f3 (c1c h2) ?_
  have:a3E N ((p:Int),(q:Int))=t:=by
   unfold a3E
   rw[if_neg e]
   show(N.getD (p:Int).toNat []).getD (q:Int).toNat 0=t
   rw[u8,u8]
   simp[L4,h1,h2]
  rw[this]at k
  exact k
structure b8m(K:Fg)(H0 H:Hp)(e:Addr)(es:List Addr)(P:List (List Stp)):Prop where
 same:o7 H0 H
 h:H e=some (.lst (es.map V.ref))
 len:es.length=P.length
 nd:es.Nodup
 na:e∉es
 at_:∀(i:Nat) y S,es[i]? = some y->P[i]? = some S->V9 K H y S
 new:H0 e=none/\∀y∈es,H0 y=none
theorem b8m.add{K:Fg}{e:Addr}{es:List Addr}{P:List (List Stp)}(h:b8m K H0 H e es P){t:Nat}{y:Addr}{S:List Stp}{vs:List Addr}(e1:es[t]? = some y)(e2:P[t]? = some S)(hy:H y=some (.lst (vs.map V.ref)))
  (lv:vs.length=S.length) (at2:∀(i:Nat) x s,vs[i]? = some x->S[i]? = some s->a2Z K H x s) (ha:a2Z K H a s):b8m K H0 (upd H y (.lst ((vs++[a]).map V.ref))) e es (P.set t (S++[s])):=by
 have hm:=mI e1
 have ye:y≠e:=fun z=>h.na (z ▸ hm)
 refine⟨fun b o q=>by rw[c9 (c7 q (h.new.2 y hm))];exact h.same b o q,by rw[c9 ye.symm];exact h.h,by rw[W4];exact h.len,h.nd,h.na,fun i z S' f1 f2=>?_,h.new⟩
 by_cases q:i=t
 ·subst q
  rw[e1]at f1
  cases f1
  rw[G7 (gI e2)]at f2
  cases f2
  refine⟨vs++[a],c6,by simp[lv],fun j x s' g1 g2=>?_⟩
  rcases X7 g1 with ⟨_,k1⟩ | ⟨j1,k1⟩
  ·rcases X7 g2 with ⟨_,k2⟩ | ⟨j2,k2⟩
   ·exact(at2 j x s' k1 k2).ts (U2.put hy)
   ·omega
  ·rcases X7 g2 with ⟨_,k2⟩ | ⟨j2,k2⟩
   ·omega
   ·subst k1 k2
    exact ha.ts (U2.put hy)
 ·rw[K5 (Ne.symm q)]at f2
  have:z≠y:=by
   rintro rfl
   exact q (c0Y h.nd f1 e1)
  exact(h.at_ i z S' f1 f2).put hy this
structure c5m(K:Fg)(c:Cn)(H:Hp)(x:Addr)(N:Nt):Prop where
 ex:∃dx r n e es,H x=some (.ins c.P4 dx [("rows",.ref r),("nexts",.ref n),("entries",.ref e)])/\P3 H r N/\D9 H n N/\H e=some (.lst ((es:List Addr).map V.ref))/\es.length=N.length /\
  ∀(t:Nat) y,es[t]? = some y->V9 K H y ((a1n N).filter fun s=>decide (a3E N s=t))
structure a4r(K:Fg)(c:Cn)(Z:Addr->Prop)(rs:List Addr)(H:Hp)(x:Addr)(N:Nt):Prop where
 ex:∃dx r n e es ns,H x=some (.ins c.P4 dx [("rows",.ref r),("nexts",.ref n),("entries",.ref e)])/\(P3 H r N/\H r=some (.lst (rs.map V.ref)))/\H n=some (.lst ((ns:List Addr).map V.ref))/\ns.length=N.length/\(∀(i:Nat) y l,ns[i]? = some y->N[i]? = some l->H y=some (.lst (IL l))) /\
  H e=some (.lst ((es:List Addr).map V.ref))/\es.length=N.length/\(∀(t:Nat) y,es[t]? = some y->V9 K H y ((a1n N).filter fun s=>decide (a3E N s=t)))/\∀z,Z z->z≠r/\z≠n/\z≠e/\z∉ns/\z∉es
theorem a4r.same{K:Fg}{c:Cn}{Z:Addr->Prop}{x:Addr}(h:a4r K c Z rs H x N)(s:o7 H H'):a4r K c Z rs H' x N:=by
 obtain⟨dx,r,n,e,es,ns,h1,⟨h2,h2r⟩,h3,h4,h5,h6,h7,h8,h9⟩:=h.ex
 exact⟨dx,r,n,e,es,ns,s _ _ h1,⟨h2.same s,s _ _ h2r⟩,s _ _ h3,h4,fun i y l a b=>s _ _ (h5 i y l a b),s _ _ h6,h7,fun t y q=>(h8 t y q).same s,h9⟩
theorem a4r.kept{K:Fg}{c:Cn}{Z:Addr->Prop}{x:Addr}(h:a4r K c Z rs H x N)(hB:Bag H b d)(h2':∀l∈N,l.length<=2)(k:D3 b H H'):a4r K c Z rs H' x N:=by
 obtain⟨dx,r,n,e,es,ns,h1,⟨h2,h2r⟩,h3,h4,h5,h6,h7,h8,h9⟩:=h.ex
 obtain⟨bs,hb⟩:=hB.lst
 refine⟨dx,r,n,e,es,ns,k.1 _ _ h1 (G5 h1 hb (by intro z;cases z)),⟨h2.kept hB k,k.1 _ _ h2r (Y7 hB h2r)⟩,k.1 _ _ h3 (Y7 hB h3),h4,fun i y l a b=>?_,k.1 _ _ h6 (Y7 hB h6),h7,fun t y q=>(h8 t y q).kept hB k,h9⟩
 have q:=h5 i y l a b
 exact k.1 _ _ q (a7E hB q (by rw[M8];have:=h2' l (mI b);omega))
theorem D9.ins{H:Hp}{a x C dx:Addr}{N:Nt}{fs:List (Str×V)}{o:HO}(h:D9 H a N)(hx:H x=some (.ins C dx fs)):D9 (upd H x o) a N:=by
 obtain⟨as,q1,q2,q3⟩:=h.ex
 exact⟨as,by rw[c9 (G5 q1 hx (by intro z;cases z))];exact q1,q2,fun j y l e1 e2=>by
  have q:=q3 j y l e1 e2
  rw[c9 (G5 q hx (by intro z;cases z))];exact q⟩
theorem U2.ins{H:Hp}{x C dx:Addr}{fs:List (Str×V)}{o:HO}(hx:H x=some (.ins C dx fs)):U2 H (upd H x o):=fun a xs e=>by
 rw[c9 (G5 e hx (by intro z;cases z))];exact e
theorem P3.ins{H:Hp}{a x C dx:Addr}{N:Nt}{fs:List (Str×V)}{o:HO}(h:P3 H a N)(hx:H x=some (.ins C dx fs)):P3 (upd H x o) a N:=by
 obtain⟨as,q1,q2,q3⟩:=h.ex
 exact⟨as,by rw[c9 (G5 q1 hx (by intro z;cases z))];exact q1,q2,fun j y l e1 e2=>(q3 j y l e1 e2).ts (U2.ins hx)⟩
theorem b4O(h:∀l∈N,l.length<=2):(a1n N).length<=1+2 * N.length:=by
 have go:∀i,i<=N.length->(a4x N i).length<=1+2 * i:=by
  intro i
  induction i with
  | zero=>intro _;show 1<=1;exact d9 _
  | succ i ih=>
   intro hi
   rw[a6E,u4]
   have:=ih (by omega)
   have h2:(a2t N i).length<=2:=by
    unfold a2t
    rw[a8,a2T]
    have e:N.getD i []=N[i]:=by simp[L4,show i<N.length by omega]
    rw[e]
    exact h _ (D2 _)
   omega
 exact go _ (d9 _)
theorem b3J{S:List Stp}{f:Stp->Nat}{t:Nat}(h:S[i]? = some s):(S.take (i+1)).filter (fun s=>decide (f s=t))=(S.take i).filter (fun s=>decide (f s=t))++(if f s=t then [s] else []):=by
 rw[E9,h,a1W]
 congr 1
 by_cases e:f s=t
 ·rw[if_pos e];simp[e]
 ·rw[if_neg e];simp[e]
theorem b0e{K:Fg}{c:Cn}{x:Addr}{E:XK}(ck:a4d K c)(hrs:H ra=some (.lst (rs.map V.ref)))(hr:P3 H ra N)(hn:D9 H na N)(hv:a0W N)(hx:H x=some (.ins c.P4 dx []))
  (k:∀H',a4r K c (fun z=>∃o,H z=some o/\z≠x) rs H' x N->(∀b o,H b=some o->b≠x->H' b=some o)->Q .non H'):a1c K c [.ref x,.ref ra,.ref na] H Q E:=by
 obtain⟨rs',r1,r2,r3⟩:=id hr.ex
 obtain rfl:rs'=rs:=by
  rw[hrs]at r1
  exact(a0o (f:=V.ref) (fun a b h=>V.ref.inj h) |>.mp (HO.lst.inj (Option.some.inj r1))).symm
 obtain⟨ns,n1,n2,n3⟩:=id hn.ex
 have hpos:=hv.pos
 have h400:=hv.le
 refine⟨rfl,?_⟩
 unfold a6B
 nofun
 exists a6T r1 (by rw[a8];omega) (by rw[a8];omega) ?_
 nofun
 specialize U6 (O9 ?_)
 refine⟨ra,rfl,⟨_,SqL.of r1⟩,fun D hD=>?_⟩
 refine R0 (xs:=rs'.map V.ref) (fun i ys H2=>ys=u0 i (V.bl true)/\H2 D=some (.lst ys)/\o7 H H2) ⟨rfl,c6,v0 hD⟩ ?_ ?_ ?_ ?_
 ·rintro i ys H2 ⟨_,h,_⟩
  exact h
 ·rintro i ys H2 _ ⟨_,_,s2⟩
  exact SqL.of (s2 _ _ r1)
 ·rintro i y ys H2 hy ⟨rfl,hD2,s2⟩ R hR
  rw[b8]at hy
  cases hrx:rs'[i]? with
  | none=>rw[hrx]at hy;cases hy
  | some rx=>
   rw[hrx]at hy
   cases hy
   have hi:i<N.length:=by rw[<-r2];exact(gI hrx)
   ext
   refine b5t ck ((r3 i rx _ hrx (F4 hi)).ts (o7.ts s2)) fun H3 s3=>?_
   refine hR _ _ (s3 _ _ hD2) (G9 (by rw[A5];omega)) ⟨a7s i,c6,fun b o e=>?_⟩
   rw[c9 (c7 e hD)];exact s3 _ _ (s2 _ _ e)
 rintro ys H2 ⟨rfl,hD2,s2⟩
 ext
 refine a4q hD2 fun H3 s3=>?_
 have s03:=s2.trans s3
 ext
 nofun
 refine a8l (hr.same s03) (hn.same s03) h400 hv.two hv.lt fun H4 s4=>?_
 have s04:=s03.trans s4
 ext
 nofun
 refine a8O (hn.same s04) hv fun H5 s5=>?_
 have s05:=s04.trans s5
 ext
 exact_mod_cast Q7 ?_
 specialize b3a ?_
 refine a5i (s05 _ _ r1) fun rp H6 hrp e6 s6=>?_
 have s06:=s05.trans s6
 ext
 refine⟨x,_,dx,[],rfl,s06 _ _ hx,ck.R7,ck.R5,by simp,?_⟩
 obtain⟨H7,hH7⟩:∃H7,H7=upd H6 x (.ins c.P4 dx (a1y "rows" (.ref rp) [])):=⟨_,rfl⟩
 have x7:H7 x=some (.ins c.P4 dx [("rows",.ref rp)]):=hH7 ▸ c6
 have f7:∀b o,H6 b=some o->b≠x->H7 b=some o:=fun b o e n=>by rw[hH7,c9 n];exact e
 have rows7:P3 H7 rp N:=by
  have q:P3 H6 rp N:=⟨rs',e6,r2,fun i y l a b=>(r3 i y l a b).ts (o7.ts s06)⟩
  rw[hH7]
  exact q.ins (s06 _ _ hx)
 have net7:D9 H7 na N:=by rw[hH7];exact(hn.same s06).ins (s06 _ _ hx)
 have ra7:H7 ra=some (.lst (rs'.map V.ref)):=f7 _ _ (s06 _ _ r1) (G5 r1 hx (by intro z;cases z))
 rw[<-hH7]
 clear hH7
 exact_mod_cast Q7 ?_
 exact_mod_cast b3a ?_
 exact_mod_cast U6 (O9 ?_)
 obtain⟨ns',m1,m2,m3⟩:=id net7.ex
 ext
 refine⟨na,rfl,⟨_,SqL.of m1⟩,fun np hnp=>?_⟩
 refine R0 (xs:=ns'.map V.ref) (fun i ys H8=>∃as:List Addr,ys=as.map V.ref/\as.length=i/\(∀(j:Nat) y l,as[j]? = some y->N[j]? = some l->H8 y=some (.lst (IL l))/\y≠np)/\H8 np=some (.lst ys)/\o7 H7 H8/\∀y∈as,H7 y=none) ?_ ?_ ?_ ?_ ?_
 ·exact⟨[],rfl,rfl,by simp,c6,v0 hnp,by simp⟩
 ·rintro i ys H8 ⟨_,_,_,_,h,_⟩
  exact h
 ·rintro i ys H8 _ ⟨_,_,_,_,_,s8,_⟩
  exact SqL.of (s8 _ _ m1)
 ·rintro i y ys H8 hy ⟨as,rfl,la,at8,hnp8,s8,fr8⟩ R hR
  rw[b8]at hy
  cases hnx:ns'[i]? with
  | none=>rw[hnx]at hy;cases hy
  | some nx=>
   rw[hnx]at hy
   cases hy
   have hi:i<N.length:=by rw[<-m2];exact(gI hnx)
   ext
   refine a5i (s8 _ _ (m3 i nx _ hnx (F4 hi))) fun q H9 hq e9 s9=>?_
   have nq:q≠np:=(c7 hnp8 hq).symm
   refine hR _ _ (s9 _ _ hnp8) (G9 (by rw[a8];omega)) ⟨as++[q],by simp,by simp[la],fun j y l g1 g2=>?_,c6,fun b o e=>?_,fun y hy=>?_⟩
   ·rcases X7 g1 with ⟨_,f1⟩ | ⟨hj,f1⟩
    ·obtain⟨f2,f3⟩:=at8 j y l f1 g2
     exact⟨by rw[c9 f3];exact s9 _ _ f2,f3⟩
    ·rw[hj,la,F4 hi]at g2
     cases g2
     subst f1
     exact⟨by rw[c9 nq];exact e9,nq⟩
   ·rw[c9 (c7 e hnp)];exact s9 _ _ (s8 _ _ e)
   ·rcases o8.mp hy with z | z
    ·exact fr8 y z
    ·rw[d3.mp z];exact s8.free hq
 rintro ys H8 ⟨as,rfl,la,at8,hnp8,s8,fr8⟩
 rw[a8,m2]at la
 have net8:D9 H8 np N:=⟨as,hnp8,la,fun i y l a b=>(at8 i y l a b).1⟩
 ext
 refine⟨x,_,dx,_,rfl,s8 _ _ x7,ck.R7,ck.T0,by simp,?_⟩
 obtain⟨H9,hH9⟩:∃H9,H9=upd H8 x (.ins c.P4 dx (a1y "nexts" (.ref np) [("rows",.ref rp)])):=⟨_,rfl⟩
 have x9:H9 x=some (.ins c.P4 dx [("rows",.ref rp),("nexts",.ref np)]):=by
  rw[hH9,c6]
  simp only[a1y]
  rw[if_neg (by decide)]
 have f9:∀b o,H8 b=some o->b≠x->H9 b=some o:=fun b o e n=>by rw[hH9,c9 n];exact e
 have rows9:P3 H9 rp N:=by rw[hH9];exact(rows7.same s8).ins (s8 _ _ x7)
 have net9:D9 H9 np N:=by rw[hH9];exact net8.ins (s8 _ _ x7)
 have ra9:H9 ra=some (.lst (rs'.map V.ref)):=f9 _ _ (s8 _ _ ra7) (G5 ra7 x7 (by intro z;cases z))
 rw[<-hH9]
 clear hH9
 exact_mod_cast Q7 ?_
 exact_mod_cast b3a ?_
 specialize U6 (O9 ?_)
 refine⟨ra,rfl,⟨_,SqL.of ra9⟩,fun ep hep=>?_⟩
 refine R0 (xs:=rs'.map V.ref) (fun i ys H10=>∃es,ys=es.map V.ref/\a3H H9 H10 ep es (u0 i [])) ?_ ?_ ?_ ?_ ?_
 ·exact⟨[],rfl,.nil hep (v0 hep) c6⟩
 ·rintro i ys H10 ⟨es,rfl,I⟩
  exact I.h
 ·rintro i ys H10 _ ⟨es,rfl,I⟩
  exact SqL.of (I.same _ _ ra9)
 ·rintro i y ys H10 hy ⟨es,rfl,I⟩ R hR
  have hi:i<N.length:=by
   have:=(gI hy)
   rw[a8,r2]at this
   exact this
  ext
  refine J5 (by simp) fun p H11 hp e11 s11=>?_
  have:=I.len
  rw[A5]at this
  refine hR _ _ (s11 _ _ I.h) (G9 (by rw[a8];omega)) ⟨es++[p],by simp,?_⟩
  have q:=I.snoc hp e11 s11
  rw[show u0 i ([]:List Nat)++[[]]=u0 (i+1) [] from by rw[a1f]]at q
  rw[show es.map V.ref++[V.ref p]=(es++[p]).map V.ref by simp]
  exact q
 rintro ys H10 ⟨es,rfl,I10⟩
 rw[a8,r2]at I10
 ext
 have x10:=I10.same _ _ x9
 refine⟨x,_,dx,_,rfl,x10,ck.R7,ck.Z1,by simp,?_⟩
 obtain⟨F,hF⟩:∃F:List (Str×V),F=([("rows",.ref rp),("nexts",.ref np),("entries",.ref ep)]:List (Str×V)):=⟨_,rfl⟩
 have hput:a1y "entries" (.ref ep) [("rows",.ref rp),("nexts",.ref np)]=F:=by
  rw[hF]
  simp only[a1y]
  rw[if_neg (by decide),if_neg (by decide)]
 rw[hput]
 obtain⟨H11,hH11⟩:∃H11,H11=upd H10 x (.ins c.P4 dx F):=⟨_,rfl⟩
 obtain⟨H0,hH0⟩:∃H0,H0=upd H9 x (.ins c.P4 dx F):=⟨_,rfl⟩
 have x0:H0 x=some (.ins c.P4 dx F):=hH0 ▸ c6
 have f0:∀b o,H9 b=some o->b≠x->H0 b=some o:=fun b o e n=>by rw[hH0,c9 n];exact e
 have rows0:P3 H0 rp N:=by rw[hH0];exact rows9.ins x9
 have net0:D9 H0 np N:=by rw[hH0];exact net9.ins x9
 have np0:H0 np=some (.lst (as.map V.ref)):=by
  have:=f9 _ _ hnp8 (G5 hnp8 (s8 _ _ x7) (by intro z;cases z))
  exact f0 _ _ this (G5 this x9 (by intro z;cases z))
 have rp0:H0 rp=some (.lst (rs'.map V.ref)):=by
  have q:=s8 _ _ (f7 _ _ e6 (G5 e6 (s06 _ _ hx) (by intro z;cases z)))
  have q:=f9 _ _ q (G5 q (s8 _ _ x7) (by intro z;cases z))
  exact f0 _ _ q (G5 q x9 (by intro z;cases z))
 have at0:∀(i:Nat) y l,as[i]? = some y->N[i]? = some l->H0 y=some (.lst (IL l)):=fun i y l a b=>by
  have q:=(at8 i y l a b).1
  have q:=f9 _ _ q (G5 q (s8 _ _ x7) (by intro z;cases z))
  exact f0 _ _ q (G5 q x9 (by intro z;cases z))
 have old9:∀b o,H b=some o->b≠x->H9 b=some o:=fun b o e n=>f9 _ _ (s8 _ _ (f7 _ _ (s06 _ _ e) n)) n
 have ent11:b8m K H0 H11 ep es (u0 N.length []):=by
  have nxe:x≠ep:=c7 x9 hep
  have nxes:∀y∈es,x≠y:=fun y hy=>c7 x9 (I10.new.2 y hy)
  refine⟨fun b o e=>?_,by rw[hH11,c9 nxe.symm];exact I10.h,by rw[A5];have:=I10.len;rwa [A5]at this,I10.nd,I10.na,fun i y S a b=>?_,by rw[hH0,c9 nxe.symm];exact hep,fun y hy=>by rw[hH0,c9 (nxes y hy).symm];exact I10.new.2 y hy⟩
  ·rw[hH0]at e
   rw[hH11]
   by_cases q:b=x
   ·subst q
    rw[c6]at e ⊢
    exact e
   ·rw[c9 q]at e ⊢
    exact I10.same _ _ e
  ·have hi:=(gI b)
   rw[A5]at hi
   have q:=I10.at_ i y [] a (by rw[F1,if_pos hi])
   rw[F1,if_pos hi]at b
   cases b
   refine⟨[],?_,rfl,by simp⟩
   rw[hH11,c9 (G5 q x10 (by intro z;cases z))]
   exact q
 have old:∀b o,H b=some o->b≠x->H0 b=some o:=fun b o e n=>f0 _ _ (f9 _ _ (s8 _ _ (f7 _ _ (s06 _ _ e) n)) n) n
 rw[<-hH11]
 clear hH11 hH0 I10 x10 f0 f9 x9 ra9 net9 rows9
 specialize V2 (O9 ?_)
 specialize a4n ?_
 exists ⟨x,_,dx,F,.ref np,rfl,ent11.same _ _ x0,ck.R7,ck.T0,by rw[hF];rfl,?_⟩
 refine b1y ck (net0.same ent11.same) h400 hv.two fun sl H12 hsl S12 s12=>?_
 obtain⟨vs,v1,v2,v3⟩:=id S12.ex
 have nsl:sl∉es:=fun z=>by
  obtain⟨i,hi⟩:=J2.mp z
  have hil:i<N.length:=by
   have:=ent11.len
   rw[A5]at this
   rw[<-this];exact(gI hi)
  obtain⟨ws,w1,_⟩:=(ent11.at_ i sl [] hi (by rw[F1,if_pos hil])).ex
  rw[hsl]at w1
  cases w1
 refine⟨sl,rfl,⟨_,SqL.of v1⟩,a0i (xs:=vs.map V.ref) (fun i σ H13=>∃x3 P,σ=[some (.ref x),some (.ref ra),some (.ref na),x3]/\b8m K H0 H13 ep es P/\P.length=N.length/\(∀t,t<N.length->P[t]? = some (((a1n N).take i).filter fun s=>decide (a3E N s=t)))/\V9 K H13 sl (a1n N)/\H13 sl=some (.lst (vs.map V.ref))) ?_ ?_ ?_ ?_⟩
 ·refine⟨_,u0 N.length [],rfl,⟨ent11.same.trans s12,s12 _ _ ent11.h,ent11.len,ent11.nd,ent11.na,fun i y S a b=>(ent11.at_ i y S a b).same s12,ent11.new⟩,by simp,fun t ht=>by rw[F1,if_pos ht];simp,S12,v1⟩
 ·rintro i σ H13 _ ⟨_,_,_,_,_,_,_,h⟩
  exact SqL.of h
 ·rintro i y _ H13 hy ⟨x3,P,rfl,I13,lP,hP,S13,hsl13⟩
  rw[b8]at hy
  cases hvx:vs[i]? with
  | none=>rw[hvx]at hy;cases hy
  | some vx=>
   rw[hvx]at hy
   cases hy
   obtain⟨ws,w1,w2,w3⟩:=S13.ex
   have ews:ws=vs:=by
    rw[hsl13]at w1
    have:=a0o (f:=V.ref) (fun a b h=>V.ref.inj h) |>.mp (HO.lst.inj (Option.some.inj w1))
    exact this.symm
   subst ews
   have hi:i<(a1n N).length:=by rw[<-w2];exact(gI hvx)
   obtain⟨s,hs⟩:∃s,(a1n N)[i]? = some s:=⟨_,j6 hi⟩
   have hst:=w3 i vx s hvx hs
   have hm:=mI hs
   have his:=b5u hm
   have hlt:=c0d hv his
   have x13:=I13.same _ _ x0
   ext
   specialize b3d ?_
   specialize a4n ?_
   refine⟨x,_,dx,F,.ref ep,rfl,x13,ck.R7,ck.Z1,by rw[hF];rfl,?_⟩
   specialize c1v ?_
   exists ⟨x,dx,F,rfl,x13,by rw[hF];rfl,?_⟩
   refine b1X ck ⟨dx,F,np,x13,by rw[hF];rfl,net0.same I13.same⟩ hst his ?_
   obtain⟨z,hz⟩:∃z,es[a3E N s]? = some z:=⟨_,j6 (by have:=I13.len;omega)⟩
   refine E7 I13.h (M3 (by rw[b8,hz];rfl)) ?_
   have hPt:=hP _ hlt
   obtain⟨us,u1,u2,u3⟩:=(I13.at_ _ z _ hz hPt).ex
   exists ⟨a1A u1,?_⟩
   have hul:us.length<=i:=by
    rw[u2]
    refine C2 (M6 _ _) ?_
    rw[K0];omega
   have hlen1:(a1n N).length<=1000:=by
    rw[<-w2]
    have:(a1n N).length<=1+2 * N.length:=b4O hv.two
    omega
   refine a5j u1 (G9 (by rw[a8];omega)) ?_
   have add:=I13.add (a:=vx) (s:=s) hz hPt u1 u2 u3 hst
   rw[show us.map V.ref++[V.ref vx]=(us++[vx]).map V.ref by simp]
   have nz:sl≠z:=fun q=>nsl (q ▸ mI hz)
   refine⟨_,_,rfl,add,by rw[W4];exact lP,fun t ht=>?_,S13.put u1 nz,by rw[c9 nz];exact hsl13⟩
   rw[b3J hs]
   by_cases q:a3E N s=t
   ·subst q
    rw[G7 (by omega),if_pos rfl]
   ·rw[K5 q,if_neg q,a1x]
    exact hP t ht
 ·rintro _ H13 ⟨x3,P,rfl,I13,lP,hP,S13,hsl13⟩
  have f8:∀b o,H b=some o->b≠x->H7 b=some o:=fun b o e n=>f7 _ _ (s06 _ _ e) n
  refine k H13 ⟨dx,rp,np,ep,es,as,hF ▸ I13.same _ _ x0,⟨rows0.same I13.same,I13.same _ _ rp0⟩,I13.same _ _ np0,la,fun i y l a b=>I13.same _ _ (at0 i y l a b),I13.h,by rw[I13.len,lP],fun t y hy=>?_,fun z ⟨o,ho,hzx⟩=>⟨c7 (s05 _ _ ho) hrp,c7 (f8 _ _ ho hzx) hnp,c7 (old9 _ _ ho hzx) hep,fun q=>c7 (f8 _ _ ho hzx) (fr8 z q) rfl,fun q=>c7 (old _ _ ho hzx) (I13.new.2 z q) rfl⟩⟩ fun b o e n=>I13.same _ _ (old b o e n)
  have ht:t<N.length:=by
   have:=(gI hy)
   have:=I13.len
   omega
  have q:=I13.at_ t y _ hy (hP t ht)
  rw[a8,v2,N3]at q
  exact q
structure c5s(H:Hp)(d:Addr)(ds:List V):Prop where
 h:H d=some (.tup ds)
 ex:∃k v1 v2,ds=[.str k,v1,v2]/\OpN v1/\OpN v2
def b3P(H:Hp)(p:Addr)(xs:List V):Prop:=H p=some (.tup xs)/\a4O H xs
theorem b3P.ts(h:b3P H p xs)(t:U2 H H'):b3P H' p xs:=⟨t _ _ h.1,h.2.ts t⟩
theorem a8r.x{a:Bool}(h:a8r H (.ref p) a):∃xs,b3P H p xs:=by
 obtain⟨q,xs,e,h1,h2,_⟩:=h
 cases e
 exact⟨xs,h1,h2⟩
theorem a4O.head(h:a4O H xs):∃k r,xs=.str k::r:=by cases h <;> exact⟨_,_,rfl⟩
theorem a7J{to ti:TE}(h:to σ H fun x H1=>ti σ H1 fun y H2=>∃a v,x=.ref a/\a1z H2 a y (some v)/\Q v H2):a6D to ti σ H Q:=h
theorem c3X{n:Nat}{ti:TIp}{x:V}(e:σ[n]? = some (some x))(h:te σ H fun y H1=>ti x y H1 fun z H2=>D.nx (σ.set n (some z)) H2):b8I n te ti D σ H:=⟨x,e,h⟩
theorem c4D{K:Fg}(k:∀d H',H d=none->H' d=some (.dK [(Sum.inl 0,.ref a)])->o7 H H'->Q (.ref d) H'):b1w ((tC (.int 0),tC (.ref a))::[]) σ H Q:=by
 intro d hd
 refine⟨c6,[(Sum.inl 0,.ref a)],rfl,by simp,?_⟩
 have e:(upd (upd H d (.dK [])) d (.dK (a4K [] [(Sum.inl 0,V.ref a)])))=upd H d (.dK [(Sum.inl 0,.ref a)]):=by rw[a6U];rfl
 rw[e]
 exact k d _ hd c6 (v0 hd)
def Jst(N:Nt)(Do Sp:Nat->Bool)(S:List Nat)(i:Nat)(s:Stp)(t:Nat):Prop:=
 (i=0/\s=FST/\t=0)\/∃(p q:Nat) (l:List Nat),s=((p:Int),(q:Int))/\N[p]? = some l/\l[q]? = some t/\(Sp p=true\/∃j,j<i/\S[j]? = some p/\Do p=false)
theorem Jst.grow{Sp:Nat->Bool}{S ext:List Nat}{t:Nat}(h:Jst N Do Sp S i s t):Jst N Do Sp (S++ext) i s t:=by
 rcases h with h | ⟨p,q,l,h1,h2,h3,h4⟩
 ·exact .inl h
 ·refine .inr ⟨p,q,l,h1,h2,h3,?_⟩
  rcases h4 with h4 | ⟨j,j1,j2,j3⟩
  ·exact .inl h4
  ·exact .inr ⟨j,j1,by rw[D1 (gI j2)];exact j2,j3⟩
structure CbK(K:Fg)(H:Hp)(d:Addr)(N:Nt)(Do Sp:Nat->Bool)(S:List Nat)(kvs:List (Key×V)):Prop where
 hd:H d=some (.dK kvs)
 nd:S.Nodup
 lt:∀t∈S,t<N.length
 len:kvs.length=S.length
 z:S[0]? = some 0
 at_:∀(i:Nat) t,S[i]? = some t->∃a s,kvs[i]? = some (Sum.inl (t:Int),.ref a)/\a2Z K H a s/\Jst N Do Sp S i s t
theorem CbK.keys{K:Fg}{Sp:Nat->Bool}{S:List Nat}(h:CbK K H d N Do Sp S kvs):kvs.map (·.1)=S.map fun(t:Nat)=>(Sum.inl (t:Int):Key):=by
 apply List.ext_getElem?
 intro i
 rw[b8,b8]
 cases e:S[i]? with
 | none=>
  have:kvs[i]? = none:=by
   rw[List.getElem?_eq_none_iff]at e ⊢
   have:=h.len
   omega
  rw[this];rfl
 | some t=>
  obtain⟨a,s,q,_⟩:=h.at_ i t e
  rw[q];rfl
theorem CbK.ndk{K:Fg}{Sp:Nat->Bool}{S:List Nat}(h:CbK K H d N Do Sp S kvs):(kvs.map (·.1)).Nodup:=by
 rw[h.keys]
 refine List.Pairwise.map _ (fun a b hab z=>hab ?_) h.nd
 have:=Sum.inl.inj z
 omega
theorem CbK.in_{K:Fg}{Sp:Nat->Bool}{S:List Nat}(h:CbK K H d N Do Sp S kvs)(t:Nat):(Y3 kvs (Sum.inl (t:Int))).isSome=decide (t∈S):=by
 by_cases ht:t∈S
 ·rw[c6x ht]
  obtain⟨i,hi⟩:=J2.mp ht
  obtain⟨a,s,q,_⟩:=h.at_ i t hi
  rw[b1p h.ndk (mI q)]
  rfl
 ·rw[c6w ht]
  cases e:Y3 kvs (Sum.inl (t:Int))with
  | none=>rfl
  | some v=>
   have:=b8D e
   rw[h.keys]at this
   obtain⟨u,hu,z⟩:=p9.mp this
   have:=Sum.inl.inj z
   exact absurd (show t ∈ S from (by have : u = t := by omega
                                     exact this ▸ hu)) ht
theorem CbK.notin{K:Fg}{Sp:Nat->Bool}{S:List Nat}(h:CbK K H d N Do Sp S kvs)(t:Nat):∃o,a1z H d (.int (t:Int)) o/\o.isSome=decide (t∈S):=⟨_,a1z.k (k:=Sum.inl (t:Int)) h.hd,h.in_ t⟩
theorem CbK.same{K:Fg}{Sp:Nat->Bool}{S:List Nat}(h:CbK K H d N Do Sp S kvs)(s:o7 H H'):CbK K H' d N Do Sp S kvs:=
 ⟨s _ _ h.hd,h.nd,h.lt,h.len,h.z,fun i t e=>let⟨a,st,q1,q2,q3⟩:=h.at_ i t e; ⟨a,st,q1,q2.ts (o7.ts s),q3⟩⟩
theorem CbK.add{K:Fg}{Sp:Nat->Bool}{S:List Nat}{t:Nat}(h:CbK K H d N Do Sp S kvs)(ht:¬t∈S)(hlt:t<N.length)(ha:a2Z K H a s)(hj:Jst N Do Sp S S.length s t) :
  CbK K (upd H d (.dK (Z8 kvs (Sum.inl (t:Int)) (.ref a)))) d N Do Sp (S++[t]) (Z8 kvs (Sum.inl (t:Int)) (.ref a)):=by
 have e:Z8 kvs (Sum.inl (t:Int)) (.ref a)=kvs++[(Sum.inl (t:Int),.ref a)]:=by
  unfold Z8
  rw[a2g,h.in_,c6w ht,if_neg (by decide)]
 rw[e]
 have ts:U2 H (upd H d (.dK (kvs++[(Sum.inl (t:Int),.ref a)]))):=fun b xs q=>by rw[c9 (G5 q h.hd (by intro z;cases z))];exact q
 refine⟨c6,?_,fun u hu=>?_,by simp[h.len],?_,fun i u hu=>?_⟩
 ·rw[T5]
  exact⟨h.nd,by simp,fun x hx y hy=>by rw[d3.mp hy];intro z;exact ht (z ▸ hx)⟩
 ·rcases o8.mp hu with q | q
  ·exact h.lt u q
  ·rw[d3.mp q];exact hlt
 ·rw[D1 (j8.mp h.z).1];exact h.z
 ·rcases X7 hu with ⟨hi,g⟩ | ⟨hi,g⟩
  ·obtain⟨a',s',q1,q2,q3⟩:=h.at_ i u g
   exact⟨a',s',by rw[D1 (gI q1)];exact q1,q2.ts ts,q3.grow⟩
  ·subst g
   refine⟨a,s,?_,ha.ts ts,?_⟩
   ·rw[hi,<-h.len];simp
   ·rw[hi];exact hj.grow
structure CbI(K:Fg)(H0 H:Hp)(d o:Addr)(N:Nt)(Do Sp:Nat->Bool)(S:List Nat)(kvs:List (Key×V)):Prop where
 cb:CbK K H d N Do Sp S kvs
 same:o7 H0 H
 ho:H o=some (.lst (IL S))
 fr:H0 d=none/\H0 o=none
theorem CbI.next{K:Fg}{o:Addr}{Sp:Nat->Bool}{S:List Nat}(h:CbI K H0 H d o N Do Sp S kvs)(s:o7 H H'):CbI K H0 H' d o N Do Sp S kvs:=⟨h.cb.same s,h.same.trans s,s _ _ h.ho,h.fr⟩
theorem c0s{K:Fg}{o:Addr}{Sp:Nat->Bool}{S:List Nat}{a b e f g p q t:Nat}(ha:σ[a]? = some (some (.int (t:Int))))(hb:σ[b]? = some (some (.ref d)))(he:σ[e]? = some (some (.int (p:Int))))(hf:σ[f]? = some (some (.int (q:Int))))(hg:σ[g]? = some (some (.ref o)))
  (I:CbI K H0 H d o N Do Sp S kvs) (h400:N.length<=400) (hl:N[p]? = some l) (ht:l[q]? = some t) (htn:t<N.length) (hj:Sp p=true\/∃j:Nat,S[j]? = some p/\Do p=false)
  (k:∀H' S' kvs',CbI K H0 H' d o N Do Sp S' kvs'->(∃ext,S'=S++ext)->t∈S'->D.nx σ H') :
  J8 (tB (a0Z (b5 a) (b5 b))) (u7 (a0T (b5 b) (b5 a) (a3e (a9 (b5 e) (a9 (b5 f) (j5))))) (a0G (tBM K "list" a0y (b5 g) (a9 (b5 a) (j5))))) (D0) D σ H:=by
 exact_mod_cast c3V ?_
 exact_mod_cast c3P ?_
 exact_mod_cast a3u ?_
 exact_mod_cast a5e ha ?_
 exact_mod_cast a5e hb ?_
 obtain⟨o',g1,g2⟩:=I.cb.notin t
 refine⟨d,o',rfl,g1,?_⟩
 rw[g2]
 refine⟨_,rfl,?_⟩
 by_cases hts:t∈S
 ·refine t7 (by rw[c6x hts];rfl) ?_
  exact_mod_cast b6N ?_
  exact k H S kvs I ⟨[],by simp⟩ hts
 refine C3 (by rw[c6w hts];rfl) ?_
 exact_mod_cast Q7 ?_
 exact_mod_cast a2A ?_
 exact_mod_cast c0P ?_
 exact_mod_cast b0b ?_
 exact_mod_cast a5e he ?_
 exact_mod_cast b0b ?_
 exact_mod_cast a5e hf ?_
 exact_mod_cast b6M ?_
 refine J5 (by simp) fun z H1 hz e1 s1=>?_
 have I1:=I.next s1
 exact_mod_cast a5e hb ?_
 exact_mod_cast a5e ha ?_
 have hlen:S.length<=400:=C2 (a5n _ _ I.cb.nd I.cb.lt) h400
 refine⟨d,_,rfl,a4P.k (k:=Sum.inl (t:Int)) I1.cb.hd (G9 (by rw[I.cb.len];omega)),?_⟩
 have add:=I1.cb.add (a:=z) (s:=((p:Int),(q:Int))) hts htn (.inl e1) (.inr ⟨p,q,l,rfl,hl,ht,hj.imp id fun⟨j,j1,j2⟩=>⟨j,(gI j1),j1,j2⟩⟩)
 obtain⟨kvs',hk⟩:∃kvs',kvs'=Z8 kvs (Sum.inl (t:Int)) (.ref z):=⟨_,rfl⟩
 rw[<-hk]at add ⊢
 obtain⟨H2,hH2⟩:∃H2,H2=upd H1 d (.dK kvs'):=⟨_,rfl⟩
 rw[<-hH2]at add ⊢
 have nod:o≠d:=G5 I1.ho I1.cb.hd (by intro z;cases z)
 have ho2:H2 o=some (.lst (IL S)):=by rw[hH2,c9 nod];exact I1.ho
 have s2:o7 H0 H2:=fun b' o'' q'=>by rw[hH2,c9 (c7 q' I.fr.1)];exact I1.same _ _ q'
 exact_mod_cast b6P ?_
 exact_mod_cast b3d ?_
 exact_mod_cast a5e hg ?_
 refine⟨a1A ho2,?_⟩
 exact_mod_cast b0b ?_
 exact_mod_cast a5e ha ?_
 exact_mod_cast b6M ?_
 refine a5j ho2 (G9 (by rw[M8];omega)) ?_
 have e3:IL S++[V.int (t:Int)]=IL (S++[t]):=by simp[IL]
 rw[e3]
 have ts:U2 H2 (upd H2 o (.lst (IL (S++[t])))):=U2.put ho2
 refine k _ (S++[t]) kvs' ⟨⟨by rw[c9 nod.symm];exact add.hd,add.nd,add.lt,add.len,add.z,fun i u hu=>let⟨a',s',q1,q2,q3⟩:=add.at_ i u hu; ⟨a',s',q1,q2.ts ts,q3⟩⟩,fun b' o'' q'=>by rw[c9 (c7 q' I.fr.2)];exact s2 _ _ q',c6,I.fr⟩ ⟨[t],rfl⟩ (by simp)
structure a3J(c:Cn)(H:Hp)(x:Addr)(N:Nt)(rs:List Addr):Prop where
 ex:∃dx fs n r,H x=some (.ins c.P4 dx fs)/\fs.lookup ("nexts" : Str)=some (V.ref n)/\D9 H n N/\fs.lookup ("rows" : Str)=some (V.ref r)/\H r=some (.lst (rs.map V.ref))/\rs.length=N.length
theorem a3J.x{c:Cn}{x:Addr}(h:a3J c H x N rs):b8g c H x N:=by
 obtain⟨dx,fs,n,r,h1,h2,h3,_⟩:=h.ex
 exact⟨dx,fs,n,h1,h2,h3⟩
theorem a3J.same{c:Cn}{x:Addr}(h:a3J c H x N rs)(s:o7 H H'):a3J c H' x N rs:=by
 obtain⟨dx,fs,n,r,h1,h2,h3,h4,h5,h6⟩:=h.ex
 exact⟨dx,fs,n,r,s _ _ h1,h2,h3.same s,h4,s _ _ h5,h6⟩
theorem a4r.r{K:Fg}{c:Cn}{Z:Addr->Prop}{x:Addr}(h:a4r K c Z rs H x N):a3J c H x N rs:=by
 obtain⟨dx,r,n,e,es,ns,h1,⟨h2,h2r⟩,h3,h4,h5,h6,h7,h8,_⟩:=h.ex
 refine⟨dx,_,n,r,h1,rfl,⟨ns,h3,h4,h5⟩,rfl,h2r,?_⟩
 obtain⟨rs',q1,q2,_⟩:=h2.ex
 rw[h2r]at q1
 have:=congrArg b6a (HO.lst.inj (Option.some.inj q1))
 rw[a8,a8]at this
 omega
theorem a7R{K:Fg}{c:Cn}{x o:Addr}{Sp:Nat->Bool}{S:List Nat}{p:Nat}{E:XK}(ck:a4d K c)(hp:b8g c H0 x N)(hv:a0W N)(I:CbI K H0 H d o N Do Sp S kvs)(hl:N[p]? = some l)(hj:Sp p=true\/∃j:Nat,S[j]? = some p/\Do p=false)
  (k:∀H' S' kvs',CbI K H0 H' d o N Do Sp S' kvs'->(∃ext,S'=S++ext)->(∀t∈l,t∈S')->Q .non H'):a1p K [.ref x,.int (p:Int),.ref d,.ref o] H Q E:=by
 obtain⟨dx,fs,n,hx,hf,hn⟩:=hp
 refine⟨rfl,?_⟩
 unfold a9i
 specialize V2 (a5g ?_)
 specialize a4n ?_
 exists ⟨x,_,dx,fs,_,rfl,I.same _ _ hx,ck.R7,ck.T0,hf,?_⟩
 obtain⟨xs,y,f1,f2,f3,_⟩:=hn.at hl
 exists E7 (I.same _ _ f1) f2 ?_
 refine⟨y,rfl,⟨_,SqL.of (I.same _ _ f3)⟩,?_⟩
 have hlt:=hv.lt l (mI hl)
 refine a9x l.length (fun i σ H'=>∃y4 y5 S' kvs',σ=[some (.ref x),some (.int (p:Int)),some (.ref d),some (.ref o),y4,y5]/\CbI K H0 H' d o N Do Sp S' kvs'/\(∃ext,S'=S++ext)/\∀t∈l.take i,t∈S') ?_ ?_ ?_ ?_
 ·exact⟨_,_,S,kvs,rfl,I,⟨[],by simp⟩,by simp⟩
 ·rintro _ H' ⟨y4,y5,S',kvs',rfl,I',e',g'⟩
  rw[N3]at g'
  exact⟨⟨_,SqL.of (I'.same _ _ f3),by rw[M8];exact d9 _⟩,k H' S' kvs' I' e' g'⟩
 ·rintro i _ H' hi ⟨y4,y5,S',kvs',rfl,I',e',g'⟩
  exact⟨_,_,SqL.of (I'.same _ _ f3),by unfold IL;rw[b8,j6 hi];rfl⟩
 ·rintro i _ H' hi ⟨y4,y5,S',kvs',rfl,I',⟨ext,e'⟩,g'⟩ v H1 ⟨pp,w,hpp,rfl,rfl,gw⟩
  obtain⟨t,ht⟩:∃t,l[i]? = some t:=⟨_,j6 hi⟩
  have gw:=gw _ (SqL.of (I'.same _ _ f3))
  unfold IL at gw
  rw[b8,ht]at gw
  cases gw
  refine a6Z (SqT.of c6) ?_
  have I1:=I'.next (v0 (o:=.tup [V.int (i:Int),V.int (t:Int)]) hpp)
  refine c0s (p:=p) (q:=i) (t:=t) (l:=l) rfl rfl rfl rfl rfl I1 hv.le hl ht (hlt t (mI ht)) ?_ fun H2 S2 kvs2 I2 ⟨ext2,e2⟩ t2=>?_
  ·rcases hj with hj | ⟨j,j1,j2⟩
   ·exact .inl hj
   ·exact .inr ⟨j,by rw[e',D1 (gI j1)];exact j1,j2⟩
  ·refine⟨_,_,S2,kvs2,rfl,I2,⟨ext++ext2,by rw[e2,e',List.append_assoc]⟩,fun u hu=>?_⟩
   rw[E9,ht]at hu
   rcases o8.mp hu with q | q
   ·rw[e2];exact C0 _ (g' u q)
   ·have:u=t:=by simpa using q
    subst this;exact t2
structure c4G(N:Nt)(Do Sp:Nat->Bool)(S:List Nat):Prop where
 sp:∀(p:Nat) l,Sp p=true->N[p]? = some l->∀t∈l,t∈S
 no:∀(p:Nat) l,p∈S->Do p=false->N[p]? = some l->∀t∈l,t∈S
theorem b8c{K:Fg}{c:Cn}{o:Addr}{Sp:Nat->Bool}(ck:a4d K c)(hv:a0W N)(hd:H d=some (.dK [(Sum.inl 0,.ref c.R6)]))(ho:H o=some (.lst [.int 0]))(s:o7 H0 H)(f1:H0 d=none)(f2:H0 o=none):CbI K H0 H d o N Do Sp [0] [(Sum.inl 0,.ref c.R6)]:=by
 refine⟨⟨hd,by simp,by simpa using hv.pos,rfl,rfl,fun i t hi=>?_⟩,s,ho,f1,f2⟩
 cases i with
 | zero=>
  cases hi
  exact⟨_,FST,rfl,.inr ⟨rfl,ck.a2U⟩,.inl ⟨rfl,rfl,rfl⟩⟩
 | succ i=>simp at hi
def BL(n:Nat)(f:Nat->Bool):List V:=(w4 n).map fun p=>V.bl (f p)
theorem b8o(n:Nat)(f:Nat->Bool):(BL n f).length=n:=by simp[BL]
theorem c1d{n p:Nat}{f:Nat->Bool}(h:p<n):atI (BL n f) (p:Int)=some (V.bl (f p)):=M3 (by unfold BL;rw[b8,a5D h];rfl)
theorem a5N{K:Fg}{c:Cn}{x ma br:Addr}{Sp:Nat->Bool}{E:XK}(ck:a4d K c)(hp:a3J c H x N rs)(hv:a0W N)(hm:H ma=some (.lst (BL N.length Do)))(hb:H br=some (.lst (BL N.length Sp)))
  (k:∀d H' S kvs,CbK K H' d N Do Sp S kvs->c4G N Do Sp S->o7 H H'->Q (.ref d) H'):X3 K c [.ref x,.ref ma,.ref br] H Q E:=by
 have h400:=hv.le
 obtain⟨dx,fs,n,r,hx,hfn,hn,hfr,hr,lr⟩:=hp.ex
 refine⟨rfl,?_⟩
 unfold a2X
 nofun
 exists c4D (K:=K) fun d H1 hd1 e1 s1=>?_
 nofun
 exists J5 (by simp) fun o H2 ho e2 s2=>?_
 have I2:CbI K H H2 d o N Do Sp [0] _:=b8c ck hv (s2 _ _ e1) e2 (s1.trans s2) hd1 (s1.free ho)
 exact_mod_cast a0S (P:=fun σ H3=>∃y5 S kvs,σ=[some (.ref x),some (.ref ma),some (.ref br),some (.ref d),some (.ref o),y5,none]/\CbI K H H3 d o N Do Sp S kvs/\∀(p:Nat) l,Sp p=true->N[p]? = some l->∀t∈l,t∈S) ?_ ?_
 rotate_left
 ·intro nx hnx
  specialize V2 (a0h ?_)
  specialize a4n ?_
  exists ⟨x,_,dx,fs,_,rfl,I2.same _ _ hx,ck.R7,ck.R5,hfr,?_⟩
  refine K8 (I2.same _ _ hr) ?_
  rw[a8,lr]
  refine⟨N.length,rfl,by omega,by omega,?_⟩
  rw[u8]
  refine V6 (fun i σ H3=>∃y5 S kvs,σ=[some (.ref x),some (.ref ma),some (.ref br),some (.ref d),some (.ref o),y5,none]/\CbI K H H3 d o N Do Sp S kvs/\∀(p:Nat) l,p<i->Sp p=true->N[p]? = some l->∀t∈l,t∈S) ⟨_,[0],_,rfl,I2,by omega⟩ ?_ ?_
  ·rintro i _ H3 hi ⟨y5,S,kvs,rfl,I3,g3⟩
   rw[W1]
   ext
   exists E7 (I3.same _ _ hb) (c1d hi) ?_
   refine a0P (fun e=>?_) (fun e=>?_)
   ·ext
    refine a7R ck hp.x hv I3 (F4 hi) (.inl e) fun H6 S6 kvs6 I6 ⟨ext,e6⟩ g6=>?_
    refine⟨_,S6,kvs6,rfl,I6,fun p l hpi hsp hl t ht=>?_⟩
    by_cases q:p=i
    ·subst q
     rw[F4 hi]at hl
     cases hl
     exact g6 t ht
    ·rw[e6]
     exact C0 _ (g3 p l (by omega) hsp hl t ht)
   ·ext
    refine⟨_,S,kvs,rfl,I3,fun p l hpi hsp hl t ht=>?_⟩
    by_cases q:p=i
    ·subst q;exact(e hsp).elim
    ·exact g3 p l (by omega) hsp hl t ht
  ·rintro _ H3 ⟨y5,S,kvs,rfl,I3,g3⟩
   exact hnx _ _ ⟨y5,S,kvs,rfl,I3,fun p l a b=>g3 p l (gI b) a b⟩
 rintro _ H3 ⟨y5,S3,kvs3,rfl,I3,g3⟩
 nofun
 exact_mod_cast Q7 ?_
 exact_mod_cast a9W ?_
 refine⟨fun m σ H4=>∃(y5:Option V) (S:List Nat) (kvs:List (Key×V)) (dn:Nat),σ=[some (.ref x),some (.ref ma),some (.ref br),some (.ref d),some (.ref o),y5,some (.int (dn:Int))]/\CbI K H H4 d o N Do Sp S kvs/\(∀(p:Nat) l,Sp p=true->N[p]? = some l->∀t∈l,t∈S)/\dn<=S.length/\(∀(j p:Nat) l,j<dn->S[j]? = some p->Do p=false->N[p]? = some l->∀t∈l,t∈S)/\m=N.length - dn,
  ⟨_,y5,S3,kvs3,0,rfl,I3,g3,by omega,by omega,rfl⟩,?_⟩
 rintro m _ H4 ⟨y5,S,kvs,dn,rfl,I4,g4,hdn,c4,rfl⟩
 ext
 exists K8 I4.ho ?_
 rw[M8]
 have hSl:S.length<=N.length:=a5n _ _ I4.cb.nd I4.cb.lt
 by_cases hlt:dn<S.length
 ·refine C3 (c6x (by omega)) ?_
  obtain⟨p,hpS⟩:∃p,S[dn]? = some p:=⟨_,j6 hlt⟩
  have hpn:=I4.cb.lt p (mI hpS)
  refine⟨fun σ H5=>∃(m':Nat) (y5:Option V) (S:List Nat) (kvs:List (Key×V)) (dn':Nat),σ=[some (.ref x),some (.ref ma),some (.ref br),some (.ref d),some (.ref o),y5,some (.int (dn':Int))]/\CbI K H H5 d o N Do Sp S kvs/\(∀(p:Nat) l,Sp p=true->N[p]? = some l->∀t∈l,t∈S)/\dn'<=S.length/\(∀(j p:Nat) l,j<dn'->S[j]? = some p->Do p=false->N[p]? = some l->∀t∈l,t∈S)/\m'=N.length - dn'/\m'<N.length - dn,?_,?_⟩
  ·rintro σ' H5 ⟨m',y4,S,kvs,dn',e,r1,r2,r3,r4,r5,r6⟩
   exact⟨m',r6,y4,S,kvs,dn',e,r1,r2,r3,r4,r5⟩
  nofun
  exists E7 I4.ho (c1c hpS) ?_
  exact_mod_cast Q7 ?_
  specialize c3X rfl ?_
  exists E7 (I4.same _ _ hm) (c1d hpn) ?_
  have e1:(dn:Int)+1=((dn+1:Nat):Int):=by omega
  cases hDo:Do p with
  | true=>
   exists t7 rfl ?_
   rw[e1]
   refine⟨_,_,S,kvs,dn+1,rfl,I4,g4,by omega,fun j p' l hj hj2 hD hl t ht=>?_,rfl,by omega⟩
   by_cases q:j=dn
   ·subst q
    rw[hpS]at hj2
    cases hj2
    rw[hDo]at hD
    cases hD
   ·exact c4 j p' l (by omega) hj2 hD hl t ht
  | false=>
   exists C3 rfl ?_
   rw[e1]
   refine a7R ck hp.x hv I4 (F4 hpn) (.inr ⟨dn,hpS,hDo⟩) fun H6 S6 kvs6 I6 ⟨ext,e6⟩ g6=>?_
   refine⟨_,_,S6,kvs6,dn+1,rfl,I6,fun p' l a b t ht=>by rw[e6];exact C0 _ (g4 p' l a b t ht),by rw[e6,u4];omega,fun j p' l hj hj2 hD hl t ht=>?_,rfl,by omega⟩
   have hj3:S[j]? = some p':=by rw[e6,D1 (by omega)]at hj2;exact hj2
   by_cases q:j=dn
   ·subst q
    rw[hpS]at hj3
    cases hj3
    rw[F4 hpn]at hl
    cases hl
    exact g6 t ht
   ·rw[e6];exact C0 _ (c4 j p' l (by omega) hj3 hD hl t ht)
 ·exists t7 (c6w (by omega)) ?_
  refine k d H4 S kvs I4.cb ⟨g4,fun p l hp' hD hl t ht=>?_⟩ I4.same
  obtain⟨j,hj⟩:=J2.mp hp'
  have:=(gI hj)
  exact c4 j p l (by omega) hj hD hl t ht
inductive UnR(N:Nt)(Do Sp:Nat->Bool):Nat->Prop
 | zero:UnR N Do Sp 0
 | spoil {p t:Nat} {l:List Nat}:N[p]? = some l->t∈l->Sp p=true->UnR N Do Sp t
 | step {p t:Nat} {l:List Nat}:UnR N Do Sp p->Do p=false->N[p]? = some l->t∈l->UnR N Do Sp t
theorem b2J{Sp:Nat->Bool}{S:List Nat}(z:0∈S)(h:c4G N Do Sp S):∀t,UnR N Do Sp t->t∈S:=by
 intro t u
 induction u with
 | zero=>exact z
 | spoil h1 h2 h3=>exact h.sp _ _ h3 h1 _ h2
 | step _ h2 h3 h4 ih=>exact h.no _ _ ih h2 h3 _ h4
theorem b6v{K:Fg}{Sp:Nat->Bool}{S:List Nat}(h:CbK K H d N Do Sp S kvs):∀(i t:Nat),S[i]? = some t->UnR N Do Sp t:=by
 intro i
 induction i using Nat.strongRecOn with
 | _ i ih=>
  intro t e
  obtain⟨a,s,_,_,j⟩:=h.at_ i t e
  rcases j with ⟨_,_,rfl⟩ | ⟨p,q,l,_,h2,h3,h4⟩
  ·exact .zero
  ·rcases h4 with h4 | ⟨j,j1,j2,j3⟩
   ·exact .spoil h2 (mI h3) h4
   ·exact .step (ih j j1 p j2) j3 h2 (mI h3)
theorem b3M{K:Fg}(hn:D9 H a N)(h400:N.length<=400)(hi:σ[i]? = some (some (.ref a)))(k:∀a' H',D9 H' a' N->o7 H H'->Q (.ref a') H'):U1 (Q9 K (b5 i)) T8 (tCB a1J (a9 (b5 0) j5)) σ H Q:=by
 obtain⟨ns,m1,m2,m3⟩:=id hn.ex
 exact_mod_cast U6 (O9 ?_)
 refine⟨_,hi,a,rfl,⟨_,SqL.of m1⟩,fun np hnp=>?_⟩
 refine R0 (xs:=ns.map V.ref) (fun i ys H8=>∃as:List Addr,ys=as.map V.ref/\as.length=i/\(∀(j:Nat) y l,as[j]? = some y->N[j]? = some l->H8 y=some (.lst (IL l))/\y≠np)/\H8 np=some (.lst ys)/\o7 H H8) ⟨[],rfl,rfl,by simp,c6,v0 hnp⟩ ?_ ?_ ?_ ?_
 ·rintro i ys H8 ⟨_,_,_,_,h,_⟩
  exact h
 ·rintro i ys H8 _ ⟨_,_,_,_,_,s8⟩
  exact SqL.of (s8 _ _ m1)
 ·rintro i y ys H8 hy ⟨as,rfl,la,at8,hnp8,s8⟩ R hR
  rw[b8]at hy
  obtain⟨nx,hnx,rfl⟩:=l7.mp hy
  have hi:i<N.length:=by rw[<-m2];exact(gI hnx)
  ext
  refine a5i (s8 _ _ (m3 i nx _ hnx (F4 hi))) fun q H9 hq e9 s9=>?_
  have nq:q≠np:=(c7 hnp8 hq).symm
  refine hR _ _ (s9 _ _ hnp8) (G9 (by rw[a8];omega)) ⟨as++[q],by simp,by simp[la],fun j y l g1 g2=>?_,c6,fun b o e=>by rw[c9 (c7 e hnp)];exact s9 _ _ (s8 _ _ e)⟩
  rcases X7 g1 with ⟨_,f1⟩ | ⟨hj,f1⟩
  ·obtain⟨f2,f3⟩:=at8 j y l f1 g2
   exact⟨by rw[c9 f3];exact s9 _ _ f2,f3⟩
  ·rw[hj,la,F4 hi]at g2
   cases g2
   subst f1
   exact⟨by rw[c9 nq];exact e9,nq⟩
 ·rintro ys H8 ⟨as,rfl,la,at8,hnp8,s8⟩
  rw[a8,m2]at la
  exact k np H8 ⟨as,hnp8,la,fun i y l a b=>(at8 i y l a b).1⟩ s8
def inK(ks:List (List Key))(k:List Key):Bool:=ks.any fun u=>decide (u=k)
theorem b0o{ks:List (List Key)}{k:List Key}:inK ks k=true↔k∈ks:=by
 unfold inK
 rw[Z0]
 exact⟨fun⟨u,h,e⟩=>of_decide_eq_true e ▸ h,fun h=>⟨k,h,c6x rfl⟩⟩
def b0N(ks:List (List Key))(o:Option (List Key)):List (List Key):=match o with
 | some k=>if inK ks k=true then ks else ks++[k]
 | none=>ks
def a1v(D:Nat->Option (List Key))(n:Nat):List (List Key):=((w4 n).map D).foldl b0N []
def KM(ks:List (List Key))(g:List Key->V):List (List Key×V):=ks.map fun k=>(k,g k)
section
variable {D:Nat->Option (List Key)}{n:Nat}{k:List Key}{ks:List (List Key)}{g:List Key->V}
theorem a1u:a1v D (n+1)=b0N (a1v D n) (D n):=by
 unfold a1v
 rw[a0n,z9,List.foldl_append];rfl
theorem b1W{o:Option (List Key)}:k∈b0N ks o↔k∈ks\/o=some k:=by
 unfold b0N
 cases o with
 | none=>simp
 | some u=>
  simp only
  split
  ·rename_i h
   exact⟨.inl,fun z=>z.elim id fun e=>by cases e;exact b0o.mp h⟩
  ·rw[o8,d3]
   exact⟨fun z=>z.imp id fun e=>by rw[e],fun z=>z.imp id fun e=>(Option.some.inj e).symm⟩
theorem b7J{o:Option (List Key)}:(b0N ks o).length<=ks.length+1:=by
 unfold b0N
 cases o with
 | none=>simp
 | some u=>
  simp only
  split
  ·omega
  ·simp
theorem a9u(D:Nat->Option (List Key)):∀n,(a1v D n).length<=n
 | 0=>by simp[a1v]
 | n+1=>by
  rw[a1u]
  have:=b7J (ks:=a1v D n) (o:=D n)
  have:=a9u D n
  omega
theorem a9t:∀n,i<n->D i=some k->k∈a1v D n
 | 0,h,_=>by omega
 | n+1,h,e=>by
  rw[a1u,b1W]
  by_cases q:i=n
  ·subst q;exact .inr e
  ·exact .inl (a9t n (by omega) e)
theorem c0B(ks:List (List Key))(g:List Key->V):(KM ks g).map (·.1)=ks:=by
 unfold KM
 rw[N7]
 exact(L3 fun _ _=>rfl).trans (a8Y _)
theorem c3t:(KM ks g).length=ks.length:=by unfold KM;rw[a8]
theorem c3r(ks:List (List Key))(g:List Key->V)(k:List Key):Y3 (KM ks g) k=if inK ks k=true then some (g k)else none:=by
 induction ks with
 | nil=>rfl
 | cons u ks ih=>
  unfold KM Y3 at ih ⊢
  rw[F7,T3]
  by_cases e:u=k
  ·rw[show decide (((u,g u):List Key×V).1=k)=true from c6x e]
   subst e
   rw[if_pos (b0o.mpr D5)];rfl
  ·rw[show decide (((u,g u):List Key×V).1=k)=false from c6w e]
   refine ih.trans ?_
   have:inK (u::ks) k=inK ks k:=by unfold inK;rw[P8,c6w e,c4J]
   rw[this]
theorem c3s(ks:List (List Key))(g:List Key->V)(k:List Key)(v:V):Z8 (KM ks g) k v=KM (b0N ks (some k)) fun u=>if u=k then v else g u:=by
 unfold Z8
 rw[a2g,c3r]
 by_cases h:inK ks k=true
 ·rw[if_pos h,if_pos (show(some (g k)).isSome=true from rfl)]
  unfold b0N
  simp only[if_pos h]
  unfold KM
  rw[N7]
  apply L3
  intro u _
  show(if u=k then (u,v)else (u,g u))=(u,if u=k then v else g u)
  split <;> rfl
 ·rw[if_neg h,if_neg (by intro z;cases z)]
  unfold b0N
  simp only[if_neg h]
  unfold KM
  rw[z9]
  congr 1
  ·apply L3
   intro u hu
   show(u,g u)=(u,if u=k then v else g u)
   rw[if_neg fun z:u=k=>h (b0o.mpr (z ▸ hu))]
  ·simp
end
theorem c0p{K:Fg}(h:a4s H p)(n:Nat):Dq K H (n+1) (.ref p) (.ref p):=by
 obtain⟨kd,v1,v2,g,o1,o2,_⟩:=h
 refine .tup (SqT.of g) (SqT.of g) rfl fun j x y e1 e2=>?_
 rw[e1]at e2
 cases e2
 have m:=mI e1
 simp only[c8,l6,or_false]at m
 rcases m with rfl | rfl | rfl
 ·exact .flat rfl
 ·exact .flat o1.flat
 ·exact .flat o2.flat
theorem c1F{K:Fg}{x:Addr}{b:Bool}(h:a8r H (.ref x) b):Dq K H 2 (.ref x) (.ref x):=by
 obtain⟨p,xs,ep,hp,rS,_⟩:=h
 cases ep
 refine .tup (SqT.of hp) (SqT.of hp) rfl fun j u v e1 e2=>?_
 rw[e1]at e2
 cases e2
 have m:=mI e1
 cases rS with
 | set n p2 nm d2=>
  simp only[c8,l6,or_false]at m
  rcases m with rfl | rfl | rfl
  ·exact .flat rfl
  ·exact .flat rfl
  ·exact c0p d2 0
 | copy n w nm o=>
  simp only[c8,l6,or_false]at m
  rcases m with rfl | rfl | rfl
  ·exact .flat rfl
  ·exact .flat rfl
  ·exact .flat o.flat
 | take n nm=>
  simp only[c8,l6,or_false]at m
  rcases m with rfl | rfl <;> exact .flat rfl
 | tell w o=>
  simp only[c8,l6,or_false]at m
  rcases m with rfl | rfl
  ·exact .flat rfl
  ·exact .flat o.flat
 | ask w o=>
  simp only[c8,l6,or_false]at m
  rcases m with rfl | rfl
  ·exact .flat rfl
  ·exact .flat o.flat
 | skip=>
  simp only[c8,l6,or_false]at m
  rw[m];exact .flat rfl
theorem b8U{K:Fg}(hr:P3 H a N)(ha:H a=some (.lst (rs.map V.ref)))(hb:H b=some (.lst (rs.map V.ref))):Dq K H 3 (.ref b) (.ref a):=by
 obtain⟨rs',r1,r2,r3⟩:=hr.ex
 obtain rfl:rs'=rs:=by
  rw[ha]at r1
  exact(a0o (f:=V.ref) (fun a b h=>V.ref.inj h) |>.mp (HO.lst.inj (Option.some.inj r1))).symm
 refine .lst (SqL.of hb) (SqL.of ha) rfl fun j x y f1 f2=>?_
 rw[f1]at f2
 cases f2
 rw[b8]at f1
 cases e:rs'[j]? with
 | none=>rw[e]at f1;cases f1
 | some z=>
  rw[e]at f1
  cases f1
  have hj:=(gI e)
  exact c1F (r3 j z _ e (F4 (by omega)))
theorem c2L{K:Fg}(ha:D9 H a N)(hb:D9 H b N):Dq K H 2 (.ref a) (.ref b):=by
 obtain⟨as,a1,a2,a3⟩:=ha.ex
 obtain⟨bs,b1,b2,b3⟩:=hb.ex
 refine .lst (SqL.of a1) (SqL.of b1) (by simp[a2,b2]) fun j x y f1 f2=>?_
 rw[b8]at f1 f2
 cases e1:as[j]? with
 | none=>rw[e1]at f1;cases f1
 | some u=>
  cases e2:bs[j]? with
  | none=>rw[e2]at f2;cases f2
  | some v=>
   rw[e1]at f1
   rw[e2]at f2
   cases f1
   cases f2
   have hj:=(gI e1)
   have hl:=F4 (show j<N.length by omega)
   refine .lst (SqL.of (a3 j u _ e1 hl)) (SqL.of (b3 j v _ e2 hl)) rfl fun i p q g1 g2=>?_
   rw[g1]at g2
   cases g2
   exact .flat (N4.mp (b4u _) _ (mI g1))
abbrev Al:=List (Str×V)
variable{B:Al}
def KD(A:Al):List (Key×V):=A.map fun p=>(Sum.inr p.1,p.2)
def ndA(A:Al):Prop:=(A.map (·.1)).Nodup
def sbV(xs:List V):Option Str:=match xs with
 | .str k :: .str n::_=>if k=("set" : Str)\/k=("copy" : Str)\/k=("take" : Str)then some n else none
 | _=>none
def cpV(xs:List V):Option (Str×V):=match xs with
 | [.str k,.str n,v]=>if k=("copy" : Str)then some (n,v)else none
 | _=>none
def b0p(xs:List V)(n:Str)(v:V):Bool:=decide (cpV xs=some (n,v))
def a8S(xs:List V)(n:Str)(v:V):Bool := !b0p xs n v&&match sbV xs with
 | some m=>decide (m=n)||decide (v=.str m)
 | none=>false
def BhM(xs:List V)(A:Al)(n:Str)(v:V):Prop:=((n,v)∈A/\∀m,sbV xs=some m->n≠m/\v≠.str m)\/(cpV xs=some (n,v)/\v≠.str n)
abbrev UnC(N:Nt)(RC:Nat->List V)(n:Str)(v:V)(t:Nat):Prop:=UnR N (fun i=>b0p (RC i) n v) (fun i=>a8S (RC i) n v) t
section
variable {A M:Al}{n:Str}
theorem a1U:(KD A).length=A.length:=by unfold KD;rw[a8]
theorem b4t{p:Str×V}:KD (p::A)=(Sum.inr p.1,p.2)::KD A:=rfl
theorem a2R(nd:ndA A):Y3 (KD A) (Sum.inr n)=some v↔(n,v)∈A:=by
 induction A with
 | nil=>constructor <;> intro h <;> cases h
 | cons p A ih=>
  obtain⟨n1,n2⟩:=L6.mp nd
  rw[b4t]
  by_cases e:p.1=n
  ·rw[a3p (by rw[e])]
   constructor
   ·intro h
    cases h
    rw[<-e]
    exact D5 ..
   ·intro h
    rcases c8.mp h with z | z
    ·rw[<-z]
    ·exact(n1 (p9.mpr ⟨_,z,e.symm⟩)).elim
  ·rw[a3q (by intro z;exact e (Sum.inr.inj z)),ih n2]
   exact⟨fun h=>C4 _ h,fun h=>(c8.mp h).elim (fun z=>(e (by rw[<-z])).elim) id⟩
theorem b4s(nd:ndA A):Y3 (KD A) (Sum.inr n)=none↔∀v,(n,v)∉A:=by
 constructor
 ·intro h v m
  rw[(a2R nd).mpr m]at h
  cases h
 ·intro h
  cases z:Y3 (KD A) (Sum.inr n)with
  | none=>rfl
  | some v=>exact(h v ((a2R nd).mp z)).elim
theorem b0S(h:∀v,(n,v)∉A):Z8 (KD A) (Sum.inr n) v=KD (A++[(n,v)]):=by
 unfold Z8
 rw[if_neg]
 ·unfold KD
  rw[z9];rfl
 ·rw[Z0]
  rintro⟨q,hq,e⟩
  obtain⟨p,hp,rfl⟩:=p9.mp hq
  have e:=Sum.inr.inj (of_decide_eq_true e)
  exact h p.2 (by rw[<-e];exact hp)
theorem b7G(nd:ndA A)(h:∀v,(n,v)∉A):ndA (A++[(n,v)]):=by
 unfold ndA
 rw[z9,T5]
 refine⟨nd,by simp,fun a ha b hb e=>?_⟩
 obtain⟨p,hp,rfl⟩:=p9.mp ha
 simp at hb
 exact h p.2 (by rw[<-hb,<-e];exact hp)
theorem b7F(nd:ndA A)(h1:(n,v)∈A)(h2:(n,w)∈A):v=w:=Option.some.inj (((a2R nd).mpr h1).symm.trans ((a2R nd).mpr h2))
theorem a7a:∀(l m:List Str),l.Nodup->(∀x∈l,x∈m)->l.length<=m.length
 | [],m,_,_=>L9 _
 | x::l,m,nd,h=>by
  obtain⟨n1,n2⟩:=L6.mp nd
  have hx:=h x (D5 ..)
  have:=a7a l (m.erase x) n2 fun y hy=>(b5Z (fun e=>n1 (by rw[<-e];exact hy))).mpr (h y (C4 _ hy))
  rw[a3d hx]at this
  have:=a3Y hx
  rw[v7]
  omega
end
structure StI(N:Nt)(RC:Nat->List V)(S:Nat->Option Al):Prop where
 z:S 0=some []
 nd:∀t A,S t=some A->ndA A
 cp:∀t A,S t=some A->∀n v,v≠.str n->¬UnC N RC n v t->(n,v)∈A
 src:∀t A,S t=some A->∀p∈A,p.2≠.str p.1/\∃i,i<N.length/\cpV (RC i)=some p
def a5c(S:Nat->Option Al)(t:Nat)(M:Al):Nat->Option Al:=fun j=>if j=t then some M else S j
def szS(N:Nt)(S:Nat->Option Al)(t:Nat):Nat:=match S t with
 | none=>N.length+1
 | some A=>A.length
def muS(N:Nt)(S:Nat->Option Al):Nat:=((w4 N.length).map (szS N S)).sum
section
variable {S:Nat->Option Al}{A A1 At M:Al}{k t:Nat}
theorem StI.le(h:StI N RC S)(e:S t=some A):A.length<=N.length:=by
 have nd:(A.map Prod.fst).Nodup:=h.nd t A e
 have:=a7a (A.map Prod.fst) ((w4 N.length).filterMap fun i=>(cpV (RC i)).map Prod.fst) nd fun x hx=>by
  obtain⟨p,hp,rfl⟩:=p9.mp hx
  obtain⟨_,i,hi,hc⟩:=h.src t A e p hp
  exact a6N.mpr ⟨i,U9.mpr hi,by rw[hc];rfl⟩
 rw[a8]at this
 exact C2 this (C2 (List.length_filterMap_le _ _) (by rw[a2T];exact d9 _))
theorem b6G(f:Nat->Nat)(a:Nat):∀n,t<n->((w4 n).map fun j=>if j=t then a else f j).sum+f t=((w4 n).map f).sum+a
 | 0,h=>by omega
 | n+1,h=>by
  rw[a0n,z9,z9,c3w,c3w]
  simp only[F7,a7i,List.sum_cons,List.sum_nil,Nat.add_zero]
  by_cases e:n=t
  ·rw[if_pos e]
   have:((w4 n).map fun j=>if j=t then a else f j)=(w4 n).map f:=L3 fun j hj=>by rw[if_neg (by have:=U9.mp hj;omega)]
   rw[this,e]
   omega
  ·rw[if_neg e]
   have:=b6G f a n (by omega)
   omega
theorem b7H(ht:t<N.length):muS N (a5c S t M)+szS N S t=muS N S+M.length:=by
 unfold muS
 have:(w4 N.length).map (szS N (a5c S t M))=(w4 N.length).map fun j=>if j=t then M.length else szS N S j:=L3 fun j _=>by
  unfold szS a5c
  by_cases e:j=t
  ·rw[if_pos e,if_pos e]
  ·rw[if_neg e,if_neg e]
 rw[this]
 exact b6G (szS N S) M.length N.length ht
theorem StI.put(h:StI N RC S)(hl:N[k]? = some l)(hcp:∀n v,v≠.str n->¬UnC N RC n v k->(n,v)∈A)(hsrc:∀p∈A,p.2≠.str p.1/\∃i,i<N.length/\cpV (RC i)=some p)(ht:t∈l)(h1:∀n v,(n,v)∈A1↔BhM (RC k) A n v)(nM:ndA M)(hM:(S t=none/\M=A1)\/∃At,S t=some At/\∀n v,(n,v)∈M↔(n,v)∈At/\(n,v)∈A1):StI N RC (a5c S t M):=by
 have hkn:=(gI hl)
 have inA1:∀n v,v≠.str n->¬UnC N RC n v t->(n,v)∈A1:=fun n v nv un=>by
  refine(h1 n v).mpr ?_
  by_cases d:b0p (RC k) n v=true
  ·exact .inr ⟨of_decide_eq_true d,nv⟩
  ·have d:b0p (RC k) n v=false:=by simpa using d
   have sp:a8S (RC k) n v=false:=by
    cases z:a8S (RC k) n v with
    | false=>rfl
    | true=>exact(un (.spoil hl ht z)).elim
   refine .inl ⟨hcp n v nv fun z=>un (.step z d hl ht),fun m hm=>?_⟩
   unfold a8S at sp
   rw[d,hm]at sp
   simp at sp
   exact⟨fun e=>sp.1 e.symm,sp.2⟩
 have srcA1:∀p∈A1,p.2≠.str p.1/\∃i,i<N.length/\cpV (RC i)=some p:=fun p hp=>by
  rcases(h1 p.1 p.2).mp hp with ⟨a,_⟩ | ⟨a,b⟩
  ·exact hsrc p a
  ·exact⟨b,k,hkn,a⟩
 have other:∀ {P:Nat->Al->Prop},(∀u A,S u=some A->P u A)->P t M->∀u A,a5c S t M u=some A->P u A:=fun {P} f g u A e=>by
  unfold a5c at e
  split at e
  ·rename_i q
   cases e
   rw[q];exact g
  ·exact f u A e
 refine⟨?_,other h.nd nM,other h.cp fun n v nv un=>?_,other h.src fun p hp=>?_⟩
 ·unfold a5c
  split
  ·rename_i q
   rcases hM with ⟨a,_⟩ | ⟨At,a,b⟩
   ·rw[<-q,h.z]at a;cases a
   ·rw[<-q,h.z]at a
    cases a
    cases M with
    | nil=>rfl
    | cons p M=>exact nomatch ((b p.1 p.2).mp (D5 ..)).1
  ·exact h.z
 ·rcases hM with ⟨_,rfl⟩ | ⟨At,a,b⟩
  ·exact inA1 n v nv un
  ·exact(b n v).mpr ⟨h.cp t At a n v nv un,inA1 n v nv un⟩
 ·rcases hM with ⟨_,rfl⟩ | ⟨At,a,b⟩
  ·exact srcA1 p hp
  ·exact srcA1 p ((b p.1 p.2).mp hp).2
def ClS(N:Nt)(RC:Nat->List V)(S:Nat->Option Al)(k:Nat):Prop:=∀l A,N[k]? = some l->S k=some A->∀t∈l,∃A',S t=some A'/\∀n v,(n,v)∈A'->BhM (RC k) A n v
theorem StI.all(h:StI N RC S)(cl:∀k,ClS N RC S k):∀t,Rc N t->∃A,S t=some A:=by
 intro t r
 induction r with
 | zero=>exact⟨[],h.z⟩
 | step _ hl ht ih=>
  obtain⟨A,hA⟩:=ih
  obtain⟨A',h1,_⟩:=cl _ _ _ hl hA _ ht
  exact⟨A',h1⟩
theorem StI.fin(h:StI N RC S)(hv:a0W N)(cl:∀k,ClS N RC S k)(ht:t<N.length):∃A,S t=some A/\ndA A/\∀n v,(n,v)∈A↔v≠.str n/\¬UnC N RC n v t:=by
 obtain⟨A,hA⟩:=h.all cl t (hv.rc t ht)
 refine⟨A,hA,h.nd t A hA,fun n v=>⟨fun m=>⟨(h.src t A hA _ m).1,fun un=>?_⟩,fun m=>h.cp t A hA n v m.1 m.2⟩⟩
 have key:∀u,UnC N RC n v u->∀A,S u=some A->(n,v)∉A:=by
  intro u un
  induction un with
  | zero=>
   intro A e m
   rw[h.z]at e
   cases e
   cases m
  | @spoil p u l hl hu sp=>
   intro A e m
   obtain⟨Ap,hp⟩:=h.all cl p (hv.rc p (gI hl))
   obtain⟨A',e',b⟩:=cl p l Ap hl hp u hu
   rw[e]at e'
   cases e'
   unfold a8S at sp
   rw[Q0,a0B]at sp
   rcases b n v m with ⟨_,g⟩ | ⟨g,_⟩
   ·cases z:sbV (RC p)with
    | none=>rw[z]at sp;exact nomatch sp.2
    | some q=>
     rw[z]at sp
     obtain⟨g1,g2⟩:=g q z
     rcases Bool.or_eq_true _ _ ▸ sp.2 with w | w
     ·exact g1 (of_decide_eq_true w).symm
     ·exact g2 (of_decide_eq_true w)
   ·exact nomatch sp.1.symm.trans (c6x g)
  | @step p u l _ d hl hu ih=>
   intro A e m
   obtain⟨Ap,hp⟩:=h.all cl p (hv.rc p (gI hl))
   obtain⟨A',e',b⟩:=cl p l Ap hl hp u hu
   rw[e]at e'
   cases e'
   rcases b n v m with ⟨g,_⟩ | ⟨g,_⟩
   ·exact ih Ap hp g
   ·exact nomatch d.symm.trans (c6x g)
 exact key t un A hA m
end
theorem c0R{P:Addr->Prop}(h:ta σ H fun x H1=>∃a kvs,x=.ref a/\H1 a=some (.dK kvs)/\(P a->∀ob,R (Itk ob a kvs) (upd H1 a (.frz ob (.dK kvs))))):b3E P ta σ H R:=h
def FlA(A:Al):Prop:=∀p∈A,OpN p.2
def nmV(o:Option Str):V:=match o with
 | some s=>.str s
 | none=>.non
theorem b7D(o:Option Str):nmV o=.non\/∃s,nmV o=.str s:=by
 cases o with
 | none=>exact .inl rfl
 | some s=>exact .inr ⟨s,rfl⟩
def a2k(o:Option Str)(A:Al):Al:=A.filter fun p => !decide (V.str p.1=nmV o) && !decide (p.2=nmV o)
theorem a9y{α:Type}{l:List α}{f:α->Bool}{s:α}(h:l[i]? = some s):(l.take (i+1)).filter f=(l.take i).filter f++if f s=true then [s] else []:=by
 rw[E9,h,a1W]
 congr 1
 simp only[Option.toList_some,List.filter_cons,List.filter_nil]
theorem ndA.sub{A:Al}(h:ndA A)(s:List.Sublist B A):ndA B:=List.Nodup.sublist (s.map _) h
section
variable {K:Fg}{ka kb:Addr}{A:Al}{E:XK}
theorem b7A(h:OpN v)(hw:w=.non\/∃s,w=.str s):a9S v w=true:=by
 rcases h with ⟨s,rfl,_⟩ | ⟨n,rfl,_⟩ <;> rcases hw with rfl | ⟨s,rfl⟩ <;> rfl
theorem b4g(h:OpN v)(hw:w=.non\/∃s,w=.str s):eqO v w H=some (decide (v=w)):=by
 unfold eqO
 rw[if_pos (b7A h hw)]
theorem c3N{s:Str}(hw:w=.non\/∃s,w=.str s):eqO (.str s) w H=some (decide (V.str s=w)):=by
 unfold eqO
 rw[if_pos (by rcases hw with rfl | ⟨u,rfl⟩ <;> rfl)]
theorem a8a{o:Option Str}{n:Str}(fl:FlA A):(n,v)∈a2k o A↔(n,v)∈A/\∀m,o=some m->n≠m/\v≠.str m:=by
 unfold a2k
 rw[J4]
 constructor
 ·rintro⟨h,g⟩
  rw[Q0,a0B,a0B,decide_eq_false_iff_not,decide_eq_false_iff_not]at g
  refine⟨h,fun m e=>?_⟩
  subst e
  exact⟨fun z=>g.1 (by rw[z];rfl),g.2⟩
 ·rintro⟨h,g⟩
  refine⟨h,?_⟩
  rw[Q0,a0B,a0B,decide_eq_false_iff_not,decide_eq_false_iff_not]
  cases o with
  | none=>exact⟨nofun,fun z=>by rcases fl _ h with ⟨s,e,_⟩ | ⟨i,e,_⟩ <;> rw[show v=_ from e]at z <;> cases z⟩
  | some m=>exact⟨fun z=>(g m rfl).1 (V.str.inj z),(g m rfl).2⟩
theorem c1L{l:Addr}{s:Str}(h:H l=some (.lst (ss.map V.str)))(k:Q (.bl (decide (s∈ss))) H):qIn false (.str s) (.ref l) H Q:=by
 have e:inV (.str s) (ss.map V.str)=decide (s∈ss):=by
  unfold inV
  rw[L7,Z0,decide_eq_true_iff]
  constructor
  ·rintro⟨z,hz,e⟩
   obtain⟨u,hu,rfl⟩:=p9.mp hz
   have:u=s:=by simpa[eqV]using e
   rw[<-this];exact hu
  ·intro h
   exact⟨_,p9.mpr ⟨s,h,rfl⟩,by simp[eqV]⟩
 unfold qIn
 simp only[h]
 refine⟨rfl,?_,?_⟩
 ·rw[N4]
  intro x hx
  obtain⟨u,_,rfl⟩:=p9.mp hx
  rfl
 ·rw[e];exact k
theorem b5O(hr:b3P H p xs)(ha:H ka=some (.dK (KD A)))(nd:ndA A)(fl:FlA A)(lA:A.length<=400)
  (k:∀d A' H',H d=none->H' d=some (.dK (KD A'))->ndA A'->FlA A'->(∀n v,(n,v)∈A'↔BhM xs A n v)->o7 H H'->Q (.ref d) H'):a3S K [.ref p,.ref ka] H Q E:=by
 obtain⟨hp,rS⟩:=id hr
 refine⟨rfl,?_⟩
 unfold b1u
 nofun
 exact_mod_cast a0S (P:=fun σ H1=>σ=[some (.ref p),some (.ref ka),some (nmV (sbV xs)),none,none]/\o7 H H1) ?_ ?_
 rotate_left
 ·intro nx hnx
  obtain⟨k0,r,rfl⟩:=rS.head
  ext
  exists L8 hp (a3f _ _) ?_
  refine J5 (by simp) fun l H1 hl e1 s1=>?_
  refine c1L (ss:=["set","copy","take"]) e1 ?_
  refine⟨_,rfl,?_⟩
  have hp1:=s1 _ _ hp
  cases rS with
  | set n p2 nm d2=>
   exists C3 (by decide) ?_
   exists L8 hp1 (a2Q _ _ _) ?_
   exact hnx _ _ ⟨rfl,s1⟩
  | copy n v nm o=>
   exists C3 (by decide) ?_
   exists L8 hp1 (a2Q _ _ _) ?_
   exact hnx _ _ ⟨rfl,s1⟩
  | take n nm=>
   exists C3 (by decide) ?_
   exists L8 hp1 (a2Q _ _ _) ?_
   exact hnx _ _ ⟨rfl,s1⟩
  | tell v o=>
   exists t7 (by decide) ?_
   exact hnx _ _ ⟨by rcases o with ⟨s,rfl,_⟩ | ⟨i,rfl,_⟩ <;> rfl,s1⟩
  | ask v o=>
   exists t7 (by decide) ?_
   exact hnx _ _ ⟨by rcases o with ⟨s,rfl,_⟩ | ⟨i,rfl,_⟩ <;> rfl,s1⟩
  | skip=>
   exists t7 (by decide) ?_
   exact hnx _ _ ⟨rfl,s1⟩
 rintro _ H1 ⟨rfl,s1⟩
 have hw:=b7D (sbV xs)
 nofun
 refine a5Z fun d H2 hd e2 s2=>?_
 have s02:=s1.trans s2
 have hd0:H d=none:=s1.free hd
 have ha2:=s02 _ _ ha
 have nda:d≠ka:=(c7 (s1 _ _ ha) hd).symm
 ext
 exact_mod_cast Q7 ?_
 intro PP
 specialize V2 (c0R ?_)
 refine⟨ka,KD A,rfl,ha2,fun hP ob=>?_⟩
 refine a9x (J:=Itk ob ka (KD A)) A.length (fun i σ Hi=>∃y4,σ=[some (.ref p),some (.ref ka),some (nmV (sbV xs)),some (.ref d),y4]/\Hi d=some (.dK (KD (a2k (sbV xs) (A.take i))))/\Hi ka=some (.frz ob (.dK (KD A)))/\∀b o,H2 b=some o->b≠d->b≠ka->Hi b=some o) ⟨_,rfl,by rw[c9 nda];exact e2,c6,fun b o e _ n2=>by rw[c9 n2];exact e⟩ ?_ ?_ ?_
 ·rintro _ Hi ⟨y4,rfl,hdi,hki,oth⟩
  rw[N3]at hdi
  refine⟨⟨by rw[a1U];exact d9 _,hki⟩,ka,ob,KD A,hki,hP,?_⟩
  obtain⟨H4,hH4⟩:∃H4,H4=upd Hi ka (.dK (KD A)):=⟨_,rfl⟩
  have d4:H4 d=some (.dK (KD (a2k (sbV xs) A))):=by rw[hH4,c9 nda];exact hdi
  have s04:o7 H H4:=fun b o e=>by
   by_cases z:b=ka
   ·rw[z,ha]at e
    cases e
    rw[z,hH4];exact c6
   ·rw[hH4,c9 z]
    exact oth b o (s02 _ _ e) (c7 e hd0) z
  rw[<-hH4]
  have lk:(a2k (sbV xs) A).length<=400:=C2 (M6 _ _) lA
  have ndk:ndA (a2k (sbV xs) A):=nd.sub a5E
  have flk:FlA (a2k (sbV xs) A):=fun q hq=>fl q (J4.mp hq).1
  have hp4:=s04 _ _ hp
  have plain:cpV xs=none\/(∃n v,cpV xs=some (n,v)/\v=.str n)->∀n v,(n,v)∈a2k (sbV xs) A↔BhM xs A n v:=fun h n v=>by
   rw[a8a fl]
   unfold BhM
   constructor
   ·exact .inl
   ·rintro(z | ⟨z1,z2⟩)
    ·exact z
    ·rcases h with h | ⟨n',v',h,h'⟩
     ·rw[h]at z1;cases z1
     ·rw[h]at z1
      cases z1
      exact(z2 h').elim
  exact_mod_cast Q7 ?_
  obtain⟨k0,r,rfl⟩:=rS.head
  ext
  exists L8 hp4 (a3f _ _) ?_
  cases rS with
  | copy n v nm o=>
   exists C3 (by decide) ?_
   exists L8 hp4 (a8T _ _ _ _) ?_
   refine⟨_,b4g o hw,?_⟩
   refine⟨_,rfl,?_⟩
   by_cases z:v=.str n
   ·exists t7 (by rw[c6x (show v=nmV (sbV [.str "copy",.str n,v])from z)];rfl) ?_
    exact k d _ H4 hd0 d4 ndk flk (plain (.inr ⟨n,v,rfl,z⟩)) s04
   ·refine C3 (by rw[c6w (show ¬v=nmV (sbV [.str "copy",.str n,v])from z)];rfl) ?_
    have no:∀u,(n,u)∉a2k (sbV [.str "copy",.str n,v]) A:=fun u m=>((a8a fl).mp m).2 n rfl |>.1 rfl
    specialize a2A ?_
    exists L8 hp4 (a8T _ _ _ _) ?_
    refine⟨d,_,rfl,a4P.k (k:=Sum.inr n) d4 (G9 (by rw[a1U];omega)),?_⟩
    rw[b0S no]
    ext
    refine k d _ _ hd0 c6 (b7G ndk no) (fun q hq=>?_) (fun n' v'=>?_) fun b o e=>by rw[c9 (c7 e hd0)];exact s04 _ _ e
    ·rcases o8.mp hq with y | y
     ·exact flk q y
     ·rw[d3.mp y];exact o
    ·rw[o8,a8a fl,d3]
     unfold BhM
     refine or_congr Iff.rfl ⟨fun y=>?_,fun⟨y,_⟩=>?_⟩
     ·cases y;exact⟨rfl,z⟩
     ·exact(Option.some.inj y).symm
  | set n p2 nm d2=>
   refine t7 (by decide) ?_
   exists t7 rfl ?_
   exact k d _ H4 hd0 d4 ndk flk (plain (.inl rfl)) s04
  | take n nm=>
   refine t7 (by decide) ?_
   exists t7 rfl ?_
   exact k d _ H4 hd0 d4 ndk flk (plain (.inl rfl)) s04
  | tell v o=>
   refine t7 (by decide) ?_
   exists t7 rfl ?_
   exact k d _ H4 hd0 d4 ndk flk (plain (.inl (by rcases o with ⟨s,rfl,_⟩ | ⟨i,rfl,_⟩ <;> rfl))) s04
  | ask v o=>
   refine t7 (by decide) ?_
   exists t7 rfl ?_
   exact k d _ H4 hd0 d4 ndk flk (plain (.inl (by rcases o with ⟨s,rfl,_⟩ | ⟨i,rfl,_⟩ <;> rfl))) s04
  | skip=>
   refine t7 (by decide) ?_
   exists t7 rfl ?_
   exact k d _ H4 hd0 d4 ndk flk (plain (.inl rfl)) s04
 ·rintro i _ Hi hi ⟨y4,rfl,hdi,hki,oth⟩
  exact⟨by rw[a1U];exact hi,hki⟩
 ·rintro i _ Hi0 hi ⟨y4,rfl,hdi,hki,oth⟩ v Hi ⟨rfl,kk,hk,rfl⟩
  unfold KD at hk
  rw[b8]at hk
  obtain⟨⟨n,v⟩,hq,rfl⟩:=l7.mp hk
  have mq:=mI hq
  have tk:a2k (sbV xs) (A.take (i+1))=a2k (sbV xs) (A.take i)++if(!decide (V.str n=nmV (sbV xs)) && !decide (v=nmV (sbV xs)))=true then [(n,v)] else []:=a9y hq
  have gt:a1z Hi ka (.str n) (some v):=.inl ⟨KD A,Sum.inr n,.inr ⟨ob,hki⟩,rfl,((a2R nd).mpr mq).symm⟩
  ext
  refine⟨_,c3N hw,?_⟩
  refine⟨_,rfl,?_⟩
  by_cases z1:V.str n=nmV (sbV xs)
  ·rw[c6x z1]at tk
   rw[c4I,c3D,if_neg (by decide),a1x]at tk
   refine t7 (by rw[c6x z1];rfl) ?_
   exists t7 rfl ?_
   exact⟨_,rfl,by rw[tk];exact hdi,hki,oth⟩
  rw[c6w z1,b1c,b2A]at tk
  exists C3 (by rw[c6w z1];rfl) ?_
  specialize a7J ?_
  exists ⟨ka,v,rfl,gt,?_⟩
  refine⟨_,b4g (fl _ mq) hw,?_⟩
  refine⟨_,rfl,?_⟩
  by_cases z2:v=nmV (sbV xs)
  ·rw[c6x z2,c4I,if_neg (by decide),a1x]at tk
   exists t7 (by rw[c6x z2];rfl) ?_
   exact⟨_,rfl,by rw[tk];exact hdi,hki,oth⟩
  rw[c6w z2,b1c,if_pos rfl]at tk
  refine C3 (by rw[c6w z2];rfl) ?_
  have no:∀u,(n,u)∉a2k (sbV xs) (A.take i):=fun u m=>by
   have m1:=(J4.mp m).1
   have nd':ndA (A.take (i+1)):=nd.sub (a7h _ _)
   rw[E9,hq]at nd'
   unfold ndA at nd'
   rw[z9,T5]at nd'
   exact nd'.2.2 n (p9.mpr ⟨_,m1,rfl⟩) n (by simp) rfl
  have lt:(a2k (sbV xs) (A.take i)).length<=400:=by
   refine C2 (M6 _ _) ?_
   rw[K0];omega
  exact_mod_cast a2A ?_
  specialize a7J ?_
  exists ⟨ka,v,rfl,gt,?_⟩
  refine⟨d,_,rfl,a4P.k (k:=Sum.inr n) hdi (G9 (by rw[a1U];omega)),?_⟩
  rw[b0S no]
  exact⟨_,rfl,by rw[tk];exact c6,by rw[c9 nda.symm];exact hki,fun b o e n1 n2=>by rw[c9 n1];exact oth b o e n1 n2⟩
end
section
variable {K:Fg}{ka kb:Addr}{A:Al}{S:Nat->Option Al}{E:XK}
theorem c0X(h:OpN v)(g:OpN w):eqO v w H=some (decide (v=w)):=by
 unfold eqO
 rw[if_pos (by rcases h with ⟨s,rfl,_⟩ | ⟨n,rfl,_⟩ <;> rcases g with ⟨u,rfl,_⟩ | ⟨m,rfl,_⟩ <;> rfl)]
theorem c0t(h1:H ka=some (.dK (KD A)))(h2:H kb=some (.dK (KD B)))(n1:ndA A)(n2:ndA B)(f1:FlA A)(f2:FlA B)(lA:A.length<=400)
  (k:∀d H',H d=none->H' d=some (.dK (KD (A.filter fun p=>decide (p∈B))))->o7 H H'->Q (.ref d) H'):a5b K [.ref ka,.ref kb] H Q E:=by
 refine⟨rfl,?_⟩
 unfold b6F
 nofun
 refine a5Z fun d H2 hd e2 s2=>?_
 have ha2:=s2 _ _ h1
 have hb2:=s2 _ _ h2
 have nda:d≠ka:=(c7 h1 hd).symm
 have ndb:d≠kb:=(c7 h2 hd).symm
 ext
 exact_mod_cast Q7 ?_
 intro PP
 specialize V2 (c0R ?_)
 refine⟨ka,KD A,rfl,ha2,fun hP ob=>?_⟩
 refine a9x (J:=Itk ob ka (KD A)) A.length (fun i σ Hi=>∃y3,σ=[some (.ref ka),some (.ref kb),some (.ref d),y3]/\Hi d=some (.dK (KD ((A.take i).filter fun p=>decide (p∈B))))/\Hi ka=some (.frz ob (.dK (KD A)))/\∀b o,H2 b=some o->b≠d->b≠ka->Hi b=some o) ⟨_,rfl,by rw[c9 nda];exact e2,c6,fun b o e _ n2=>by rw[c9 n2];exact e⟩ ?_ ?_ ?_
 ·rintro _ Hi ⟨y3,rfl,hdi,hki,oth⟩
  rw[N3]at hdi
  exists ⟨⟨by rw[a1U];exact d9 _,hki⟩,ka,ob,KD A,hki,hP,?_⟩
  refine k d _ hd (by rw[c9 nda];exact hdi) fun b o e=>?_
  by_cases z:b=ka
  ·rw[z,h1]at e
   cases e
   rw[z];exact c6
  ·rw[c9 z]
   exact oth b o (s2 _ _ e) (c7 e hd) z
 ·rintro i _ Hi hi ⟨y3,rfl,hdi,hki,oth⟩
  exact⟨by rw[a1U];exact hi,hki⟩
 ·rintro i _ Hi0 hi ⟨y3,rfl,hdi,hki,oth⟩ v Hi ⟨rfl,kk,hk,rfl⟩
  unfold KD at hk
  rw[b8]at hk
  obtain⟨⟨n,v⟩,hq,rfl⟩:=l7.mp hk
  have mq:=mI hq
  have tk:(A.take (i+1)).filter (fun p=>decide (p∈B))=(A.take i).filter (fun p=>decide (p∈B))++if decide ((n,v)∈B)=true then [(n,v)] else []:=a9y hq
  have ga:a1z Hi ka (.str n) (some v):=.inl ⟨KD A,Sum.inr n,.inr ⟨ob,hki⟩,rfl,((a2R n1).mpr mq).symm⟩
  have rb:Rd Hi kb (.dK (KD B)):=by
   by_cases z:kb=ka
   ·rw[z,h1]at h2
    rw[z,<-Option.some.inj h2]
    exact .inr ⟨ob,hki⟩
   ·exact .inl (oth _ _ hb2 ndb.symm z)
  have gb:a1z Hi kb (.str n) (Y3 (KD B) (Sum.inr n)):=.inl ⟨KD B,Sum.inr n,rb,rfl,rfl⟩
  ext
  specialize b4b ?_
  refine⟨kb,_,rfl,gb,?_⟩
  refine⟨_,rfl,?_⟩
  have skip:(n,v)∉B->∃y3,[some (V.ref ka),some (.ref kb),some (.ref d),some (.str n)]=[some (.ref ka),some (.ref kb),some (.ref d),y3]/\Hi d=some (.dK (KD ((A.take (i+1)).filter fun p=>decide (p∈B))))/\Hi ka=some (.frz ob (.dK (KD A)))/\∀b o,H2 b=some o->b≠d->b≠ka->Hi b=some o:=fun m=>by
   rw[c6w m,if_neg (by decide),a1x]at tk
   exact⟨_,rfl,by rw[tk];exact hdi,hki,oth⟩
  cases hw:Y3 (KD B) (Sum.inr n)with
  | none=>
   refine t7 rfl ?_
   exists t7 rfl ?_
   exact skip ((b4s n2).mp hw v)
  | some w=>
   rw[hw]at gb
   have mw:=(a2R n2).mp hw
   exists C3 rfl ?_
   specialize a7J ?_
   refine⟨ka,v,rfl,ga,?_⟩
   specialize a7J ?_
   refine⟨kb,w,rfl,gb,?_⟩
   refine⟨_,c0X (f1 _ mq) (f2 _ mw),?_⟩
   refine⟨_,rfl,?_⟩
   by_cases z:v=w
   ·refine C3 (c6x z) ?_
    rw[c6x (show(n,v)∈B by rw[z];exact mw),if_pos rfl]at tk
    have no:∀u,(n,u)∉(A.take i).filter fun p=>decide (p∈B):=fun u m=>by
     have m1:=(J4.mp m).1
     have nd':ndA (A.take (i+1)):=n1.sub (a7h _ _)
     rw[E9,hq]at nd'
     unfold ndA at nd'
     rw[z9,T5]at nd'
     exact nd'.2.2 n (p9.mpr ⟨_,m1,rfl⟩) n (by simp) rfl
    have lt:((A.take i).filter fun p=>decide (p∈B)).length<=400:=by
     refine C2 (M6 _ _) ?_
     rw[K0];omega
    exact_mod_cast a2A ?_
    specialize a7J ?_
    exists ⟨ka,v,rfl,ga,?_⟩
    refine⟨d,_,rfl,a4P.k (k:=Sum.inr n) hdi (G9 (by rw[a1U];omega)),?_⟩
    rw[b0S no]
    exact⟨_,rfl,by rw[tk];exact c6,by rw[c9 nda.symm];exact hki,fun b o e n1 n2=>by rw[c9 n1];exact oth b o e n1 n2⟩
   ·exists t7 (c6w z) ?_
    exact skip fun m=>z (b7F n2 m mw)
def StA(N:Nt)(H:Hp)(vs:List V)(S:Nat->Option Al):Prop:=vs.length=N.length/\∀t,t<N.length->(S t=none/\vs[t]? = some .non)\/∃A d,S t=some A/\vs[t]? = some (.ref d)/\H d=some (.dK (KD A))/\FlA A
theorem StA.same(h:StA N H vs S)(s:o7 H H'):StA N H' vs S:=⟨h.1,fun t ht=>(h.2 t ht).imp id fun⟨A,d,a,b,c,e⟩=>⟨A,d,a,b,s _ _ c,e⟩⟩
theorem StA.put{sa:Addr}{t:Nat}{M:Al}(h:StA N H vs S)(hs:H sa=some (.lst vs))(ht:t<N.length)(hd:H d=some (.dK (KD M)))(fM:FlA M):StA N (upd H sa (.lst (vs.set t (.ref d)))) (vs.set t (.ref d)) (a5c S t M):=by
 have up:∀ {a:Addr} {kvs:List (Key×V)} {zs:List V},H a=some (.dK kvs)->upd H sa (.lst zs) a=some (.dK kvs):=fun e=>by rw[c9 (G5 e hs (by intro z;cases z))];exact e
 refine⟨by rw[W4];exact h.1,fun u hu=>?_⟩
 unfold a5c
 rw[List.getElem?_set]
 by_cases e:t=u
 ·rw[if_pos e,if_pos e.symm,if_pos (by rw[h.1];omega)]
  exact .inr ⟨M,d,rfl,rfl,up hd,fM⟩
 ·rw[if_neg e,if_neg (Ne.symm e)]
  exact(h.2 u hu).imp id fun⟨A,d,a,b,c,f⟩=>⟨A,d,a,b,up c,f⟩
theorem b2b(nd:ndA A)(fl:FlA A):∀B:Al,(∀p∈B,p∈A)->b5w (KD A) (KD B)=true
 | [],_=>rfl
 | p::B,h=>by
  rw[b4t]
  unfold b5w
  have m:=h p (D5 ..)
  simp only[(a2R nd).mpr (show(p.1,p.2)∈A from m)]
  rw[b2c (fl p m).flat,b2b nd fl B fun q hq=>h q (C4 _ hq)]
  rfl
theorem c0C(fl:FlA A):(KD A).all (fun p=>F2 p.2)=true:=by
 rw[N4]
 intro q hq
 obtain⟨p,hp,rfl⟩:=p9.mp hq
 exact(fl p hp).flat
theorem b8l(fl:FlA A):∀k y,Y3 (KD A) k=some y->F2 y=true:=fun k y h=>by
 unfold Y3 at h
 obtain⟨q,hq,rfl⟩:=l7.mp h
 obtain⟨p,hp,rfl⟩:=p9.mp (List.mem_of_find?_eq_some hq)
 exact(fl p hp).flat
def a3I(H:Hp)(rs:List Addr)(RC:Nat->List V):Prop:=∀(i:Nat) p,rs[i]? = some p->b3P H p (RC i)
theorem a3I.ts(h:a3I H rs RC)(t:U2 H H'):a3I H' rs RC:=fun i p e=>(h i p e).ts t
end
section
variable {K:Fg}{S:Nat->Option Al}{E:XK}
theorem b3K{α:Type}{l:List α}{f:α->Bool}(h:(l.filter f).length=l.length):l.filter f=l/\∀x∈l,f x=true:=by
 have e:l.filter f=l:=List.Sublist.eq_of_length a5E h
 exact⟨e,fun x hx=>by rw[<-e]at hx;exact(J4.mp hx).2⟩
theorem c0n{sa da:Addr}{A A1:Al}{k t:Nat}{ch:Bool}{y0 y1 y4 y6:Option V}(h0:H0 sa=none)(s0:o7 H0 H)(hs:H sa=some (.lst vs))(hA:StA N H vs S)(hI:StI N RC S)(h400:N.length<=400)
  (hl:N[k]? = some l) (ht:t∈l) (htn:t<N.length) (hcp:∀n v,v≠.str n->¬UnC N RC n v k->(n,v)∈A) (hsrc:∀p∈A,p.2≠.str p.1/\∃i,i<N.length/\cpV (RC i)=some p)
  (hd:H da=some (.dK (KD A1))) (nd1:ndA A1) (fl1:FlA A1) (h1:∀n v,(n,v)∈A1↔BhM (RC k) A n v)
  (kk:∀ch' y7 H' S' vs',o7 H0 H'->H' sa=some (.lst vs')->StA N H' vs' S'->StI N RC S'->H' da=some (.dK (KD A1))->(ch'=ch/\S'=S/\∃A',S t=some A'/\∀n v,(n,v)∈A'->BhM (RC k) A n v)\/(ch'=true/\muS N S'<muS N S)->D.nx [y0,y1,some (.ref sa),some (.bl ch'),y4,some (.ref da),some (.int (t:Int)),y7] H') :
  u7 (D8 (b5 5) (o0 7)) (u7 (J8 (C9 (tOp a7P (tOp qIx (b5 2) (b5 6)) (tC .non))) (D8 (v4 (a5b K) [] E0 (a9 (tOp qIx (b5 2) (b5 6)) (a9 (b5 5) (j5)))) (o0 7)) (D0)) (J8 (C9 (tOp b8X (b5 7) (tOp qIx (b5 2) (b5 6)))) (u7 (D8 (b5 7) (b0t (b5 2) (b5 6) a6Q)) (D8 (tC (.bl true)) (o0 3))) (D0))) D [y0,y1,some (.ref sa),some (.bl ch),y4,some (.ref da),some (.int (t:Int)),y6] H:=by
 nofun
 exact_mod_cast Q7 ?_
 have lv:=hA.1
 have ixn:ixN vs.length (t:Int)=some t:=by unfold ixN;simp;omega
 rcases hA.2 t htn with ⟨e1,e2⟩ | ⟨At,dt,e1,e2,e3,fl2⟩
 ·-- none yet
  ext
  exists E7 hs (M3 e2) ?_
  exists ⟨rfl,_,rfl,t7 rfl ?_⟩
  refine E7 hs (M3 e2) ?_
  refine .inl ⟨da,KD A1,rfl,rfl,hd,?_⟩
  refine⟨_,rfl,C3 rfl ?_⟩
  nofun
  exists a7N hs ixn ?_
  have I':=hI.put hl hcp hsrc ht h1 nd1 (.inl ⟨e1,rfl⟩)
  have le:=I'.le (t:=t) (A:=A1) (by unfold a5c;rw[if_pos rfl])
  have mu:=b7H (S:=S) (M:=A1) htn
  have sz:szS N S t=N.length+1:=by unfold szS;rw[e1]
  refine kk true _ _ _ _ (fun b o e=>by rw[c9 (c7 e h0)];exact s0 _ _ e) c6 (hA.put hs htn hd fl1) I' (by rw[c9 (G5 hd hs (by intro z;cases z))];exact hd) (.inr ⟨rfl,by omega⟩)
 ·-- what both know
  ext
  exists E7 hs (M3 e2) ?_
  exists ⟨rfl,_,rfl,C3 rfl ?_⟩
  exists E7 hs (M3 e2) ?_
  have lt:=hI.le e1
  have n2:=hI.nd t At e1
  exists c0t e3 hd n2 nd1 fl2 fl1 (by omega) fun dm H2 hdm e4 s2=>?_
  have hs2:=s2 _ _ hs
  refine E7 hs2 (M3 e2) ?_
  have flM:FlA (At.filter fun p=>decide (p∈A1)):=fun p hp=>fl2 p (J4.mp hp).1
  refine .inr ⟨dm,dt,_,_,rfl,rfl,e4,s2 _ _ e3,c0C flM,b8l fl2,?_⟩
  refine⟨_,rfl,?_⟩
  rw[a1U,a1U]
  by_cases z:(At.filter fun p=>decide (p∈A1)).length=At.length
  ·obtain⟨q1,q2⟩:=b3K z
   exists t7 (by rw[q1,b2b n2 fl2 At fun _ h=>h];simp) ?_
   exact kk ch _ H2 S vs (s0.trans s2) hs2 (hA.same s2) hI (s2 _ _ hd) (.inl ⟨rfl,rfl,At,e1,fun n v m=>(h1 n v).mp (of_decide_eq_true (q2 _ m))⟩)
  ·refine C3 (by rw[show((At.filter fun p=>decide (p∈A1)).length == At.length)=false from beq_eq_false_iff_ne.mpr z];rfl) ?_
   have zl:(At.filter fun p=>decide (p∈A1)).length<At.length:=Nat.lt_of_le_of_ne (M6 _ _) z
   nofun
   exists a7N hs2 ixn ?_
   have I':=hI.put (M:=At.filter fun p=>decide (p∈A1)) hl hcp hsrc ht h1 (n2.sub a5E) (.inr ⟨At,e1,fun n v=>by rw[J4,decide_eq_true_iff]⟩)
   have mu:=b7H (S:=S) (M:=At.filter fun p=>decide (p∈A1)) htn
   have sz:szS N S t=At.length:=by unfold szS;rw[e1]
   refine kk true _ _ _ _ (fun b o e=>by rw[c9 (c7 e h0)];exact s2 _ _ (s0 _ _ e)) c6 ((hA.same s2).put hs2 htn e4 flM) I' (by rw[c9 (G5 (s2 _ _ hd) hs2 (by intro z;cases z))];exact s2 _ _ hd) (.inr ⟨rfl,by omega⟩)
theorem b1z(hra:H ra=some (.lst (rs.map V.ref)))(lrs:rs.length=N.length)(hr:a3I H rs RC)(hn:D9 H na N)(hv:a0W N)
  (k:∀sa vs S H',H sa=none->H' sa=some (.lst vs)->StA N H' vs S->StI N RC S->(∀k,ClS N RC S k)->o7 H H'->Q (.ref sa) H'):a1E K [.ref ra,.ref na] H Q E:=by
 have h400:=hv.le
 have pos:=hv.pos
 obtain⟨as,hna,las,hat⟩:=id hn.ex
 refine⟨rfl,?_⟩
 unfold a7v
 exact_mod_cast Q7 ?_
 refine a9X ?_
 specialize U6 (O9 ?_)
 refine⟨ra,rfl,⟨_,SqL.of hra⟩,fun sa hsa=>?_⟩
 refine R0 (xs:=rs.map V.ref) (fun i ys H4=>ys=u0 i V.non/\H4 sa=some (.lst ys)/\o7 H H4) ⟨rfl,c6,v0 hsa⟩ ?_ ?_ ?_ ?_
 ·rintro i ys H4 ⟨_,h,_⟩
  exact h
 ·rintro i ys H4 _ ⟨_,_,s4⟩
  exact SqL.of (s4 _ _ hra)
 ·rintro i x ys H4 hx ⟨rfl,hd,s4⟩ R hR
  have hi:=(gI hx)
  rw[a8,lrs]at hi
  ext
  refine hR _ _ hd (G9 (by rw[A5];omega)) ⟨by rw[a1f],c6,fun b o e=>by rw[c9 (c7 e hsa)];exact s4 _ _ e⟩
 rintro ys H1 ⟨rfl,hs1,s1⟩
 rw[a8,lrs]at hs1
 ext
 nofun
 exists a5Z fun d0 H2 hd0 e2 s2=>?_
 have hs2:=s2 _ _ hs1
 exists a7N (k:=0) hs2 (by rw[A5];unfold ixN;simp[pos]) ?_
 have s02:=s1.trans s2
 have A0:StA N H2 (u0 N.length V.non) fun _=>none:=⟨by rw[A5],fun t ht=>.inl ⟨rfl,by rw[F1,if_pos ht]⟩⟩
 have A3:=A0.put (M:=[]) hs2 pos e2 fun p hp=>nomatch hp
 obtain⟨H3,hH3⟩:∃H3,H3=upd H2 sa (.lst ((u0 N.length V.non).set 0 (.ref d0))):=⟨_,rfl⟩
 have hs3:H3 sa=some (.lst ((u0 N.length V.non).set 0 (.ref d0))):=hH3 ▸ c6
 have s03:o7 H H3:=fun b o e=>by rw[hH3,c9 (c7 e hsa)];exact s02 _ _ e
 rw[<-hH3]at A3 ⊢
 have I3:StI N RC (a5c (fun _=>none) 0 []):=by
  have at_:∀t A,a5c (fun _=>none) 0 [] t=some A->t=0/\A=[]:=fun t A e=>by
   unfold a5c at e
   split at e
   ·rename_i q;cases e;exact⟨q,rfl⟩
   ·cases e
  exact⟨rfl,fun t A e=>by rw[(at_ t A e).2];exact b1b,fun t A e n v nv un=>by rw[(at_ t A e).1]at un;exact(un .zero).elim,fun t A e p hp=>by rw[(at_ t A e).2]at hp;cases hp⟩
 generalize (u0 N.length V.non).set 0 (.ref d0)=vs3 at hs3 A3
 generalize a5c (fun _=>none) 0 []=S3 at A3 I3
 nofun
 exact_mod_cast Q7 ?_
 exact_mod_cast a9W ?_
 refine⟨fun m σ Hi=>∃ch y4 y5 y6 y7 S vs,σ=[some (.ref ra),some (.ref na),some (.ref sa),some (.bl ch),y4,y5,y6,y7]/\Hi sa=some (.lst vs)/\StA N Hi vs S/\StI N RC S/\o7 H Hi/\(ch=false->∀k,ClS N RC S k)/\m=2 * muS N S+(if ch=true then 1 else 0),⟨_,true,_,_,_,_,S3,vs3,rfl,hs3,A3,I3,s03,(fun z=>nomatch z),rfl⟩,?_⟩
 rintro m _ Hi ⟨ch,y4,y5,y6,y7,S,vs,rfl,hsi,Ai,Ii,si,cl,rfl⟩
 ext
 cases ch with
 | false=>
  exists t7 rfl ?_
  exact k sa vs S Hi hsa hsi Ai Ii (cl rfl) si
 | true=>
 refine C3 rfl ?_
 refine⟨fun σ Hj=>∃ch y4 y5 y6 y7 S' vs,σ=[some (.ref ra),some (.ref na),some (.ref sa),some (.bl ch),y4,y5,y6,y7]/\Hj sa=some (.lst vs)/\StA N Hj vs S'/\StI N RC S'/\o7 H Hj/\(ch=false->∀k,ClS N RC S' k)/\2 * muS N S'+(if ch=true then 1 else 0)<2 * muS N S+1,?_,?_⟩
 ·rintro σ' Hj ⟨ch,y4,y5,y6,y7,S',vs,e,q1,q2,q3,q4,q5,q6⟩
  exact⟨_,q6,ch,y4,y5,y6,y7,S',vs,e,q1,q2,q3,q4,q5,rfl⟩
 nofun
 specialize V2 (a0h ?_)
 refine K8 (si _ _ hra) ?_
 rw[a8,lrs]
 refine⟨N.length,rfl,by omega,by omega,?_⟩
 rw[u8]
 refine V6 (fun i σ Hj=>∃ch y4 y5 y6 y7 S' vs,σ=[some (.ref ra),some (.ref na),some (.ref sa),some (.bl ch),y4,y5,y6,y7]/\Hj sa=some (.lst vs)/\StA N Hj vs S'/\StI N RC S'/\o7 H Hj/\(ch=true->muS N S'<muS N S)/\(ch=false->S'=S/\∀k,k<i->ClS N RC S k)) ⟨false,_,_,_,_,S,vs,rfl,hsi,Ai,Ii,si,(fun z=>nomatch z),fun _=>⟨rfl,by omega⟩⟩ ?_ ?_
 ·rintro i _ Hj hi ⟨ch,y4,y5,y6,y7,S',vs',rfl,hsj,Aj,Ij,sj,c1,c2⟩
  rw[W1]
  have hl:=F4 hi
  obtain⟨l,hle⟩:∃l,l=N[i]:=⟨_,rfl⟩
  rw[<-hle]at hl
  obtain⟨us,y,f1,f2,f3,_⟩:=(hn.same sj).at hl
  obtain⟨rx,hrx⟩:∃rx,rs[i]? = some rx:=⟨_,j6 (by omega)⟩
  ext
  rcases Aj.2 i hi with ⟨e1,e2⟩ | ⟨A,dk,e1,e2,e3,flA⟩
  ·exists E7 hsj (M3 e2) ?_
   exists ⟨rfl,_,rfl,t7 rfl ?_⟩
   refine⟨ch,_,_,_,_,S',vs',rfl,hsj,Aj,Ij,sj,c1,fun z=>⟨(c2 z).1,fun k' hk'=>?_⟩⟩
   by_cases q:k'=i
   ·intro l' A' _ hA'
    rw[q,<-(c2 z).1,e1]at hA'
    cases hA'
   ·exact(c2 z).2 k' (by omega)
  ·exists E7 hsj (M3 e2) ?_
   refine⟨rfl,_,rfl,C3 rfl ?_⟩
   nofun
   exists E7 (sj _ _ hra) (M3 (by rw[b8,hrx];rfl)) ?_
   exists E7 hsj (M3 e2) ?_
   have lA:=Ij.le e1
   exists b5O ((hr i rx hrx).ts (o7.ts sj)) e3 (Ij.nd i A e1) flA (by omega) fun da A1 H5 hda d5 nd1 fl1 h1 s5=>?_
   have sj5:=sj.trans s5
   specialize V2 (O9 ?_)
   refine E7 (s5 _ _ f1) f2 ?_
   refine⟨y,rfl,⟨_,SqL.of (s5 _ _ f3)⟩,a0i (xs:=IL l) (fun j σ Hk=>∃ch y6 y7 S'' vs,σ=[some (.ref ra),some (.ref na),some (.ref sa),some (.bl ch),some (.int (i:Int)),some (.ref da),y6,y7]/\Hk sa=some (.lst vs)/\StA N Hk vs S''/\StI N RC S''/\o7 H Hk/\Hk da=some (.dK (KD A1))/\Hk y=some (.lst (IL l))/\(ch=true->muS N S''<muS N S)/\(ch=false->S''=S/\S'=S/\(∀k,k<i->ClS N RC S k)/\∀t∈l.take j,∃A',S t=some A'/\∀n v,(n,v)∈A'->BhM (RC i) A n v)) ?_ ?_ ?_ ?_⟩
   ·exact⟨ch,_,_,S',vs',rfl,s5 _ _ hsj,Aj.same s5,Ij,sj5,d5,s5 _ _ f3,c1,fun z=>⟨(c2 z).1,(c2 z).1,(c2 z).2,fun t ht=>by simp at ht⟩⟩
   ·rintro j σ Hk _ ⟨_,_,_,_,_,_,_,_,_,_,_,q,_⟩
    exact SqL.of q
   ·rintro j v _ Hk hy ⟨ch',z6,z7,S'',vs'',rfl,hsk,Ak,Ik,sk,dk',yk,g1,g2⟩
    unfold IL at hy
    rw[b8]at hy
    obtain⟨t,ht,rfl⟩:=l7.mp hy
    have mt:=mI ht
    have htn:=hv.lt l (mI hl) t mt
    have tk:l.take (j+1)=l.take j++[t]:=by rw[E9,ht];rfl
    refine a3U ?_
    have yH:∀ {Hz:Hp},o7 H Hz->Hz y=some (.lst (IL l)):=fun sz=>by
     obtain⟨y',hy'⟩:∃y',as[i]? = some y':=⟨_,j6 (by omega)⟩
     have q1:=hat i y' l hy' hl
     have q2:y'=y:=by
      have a1:atI (as.map V.ref) (i:Int)=some (.ref y'):=M3 (by rw[b8,hy'];rfl)
      have a2:=hn.same sj |>.at hl
      rw[sj _ _ hna]at f1
      have:=HO.lst.inj (Option.some.inj f1)
      rw[<-this,a1]at f2
      exact V.ref.inj (Option.some.inj f2)
     rw[<-q2];exact sz _ _ q1
    refine c0n hsa sk hsk Ak Ik h400 hl mt htn (Ij.cp i A e1) (Ij.src i A e1) dk' nd1 fl1 h1 fun ch2 y7' H6 S6 vs6 s6 hs6 A6 I6 d6 r6=>?_
    refine⟨ch2,_,_,S6,vs6,rfl,hs6,A6,I6,s6,d6,yH s6,fun z=>?_,fun z=>?_⟩
    ·rcases r6 with ⟨r1,r2,_⟩ | ⟨_,r2⟩
     ·rw[r2];exact g1 (r1 ▸ z)
     ·cases ch' with
      | true=>exact b5S r2 (g1 rfl)
      | false=>rw[(g2 rfl).1]at r2;exact r2
    ·rcases r6 with ⟨r1,r2,r3⟩ | ⟨r1,_⟩
     ·obtain⟨p1,p2,p3,p4⟩:=g2 (r1 ▸ z)
      refine⟨r2.trans p1,p2,p3,fun u hu=>?_⟩
      rw[tk]at hu
      rcases o8.mp hu with q | q
      ·exact p4 u q
      ·rw[d3.mp q,<-p1];exact r3
     ·rw[r1]at z;cases z
   ·rintro _ Hk ⟨ch',z6,z7,S'',vs'',rfl,hsk,Ak,Ik,sk,dk',yk,g1,g2⟩
    rw[M8,N3]at g2
    refine⟨ch',_,_,_,_,S'',vs'',rfl,hsk,Ak,Ik,sk,g1,fun z=>?_⟩
    obtain⟨p1,p2,p3,p4⟩:=g2 z
    refine⟨p1,fun k' hk'=>?_⟩
    by_cases q:k'=i
    ·intro l' A' hl' hA' t ht
     rw[q,hl]at hl'
     cases hl'
     rw[q,<-p2,e1]at hA'
     cases hA'
     rw[q]
     exact p4 t ht
    ·exact p3 k' (by omega)
 ·rintro _ Hj ⟨ch,y4,y5,y6,y7,S',vs',rfl,hsj,Aj,Ij,sj,c1,c2⟩
  refine⟨ch,_,_,_,_,S',vs',rfl,hsj,Aj,Ij,sj,fun z=>?_,?_⟩
  ·obtain⟨p1,p2⟩:=c2 z
   rw[p1]
   intro k'
   by_cases q:k'<N.length
   ·exact p2 k' q
   ·intro l' A' hl'
    exact(q (gI hl')).elim
  ·cases ch with
   | true=>have:=c1 rfl;simp;omega
   | false=>rw[(c2 rfl).1];simp
end
def c0f(v:V):Key:=match v with
 | .str s=>Sum.inr s
 | .int i=>Sum.inl i
 | _=>Sum.inl 0
abbrev cpK(n:Str)(v:V):List Key:=[Sum.inr ("copy" : Str),Sum.inr n,c0f v]
def ckD(RC:Nat->List V)(i:Nat):Option (List Key):=match cpV (RC i)with
 | some (n,v)=>if v=.str n then none else some (cpK n v)
 | none=>none
section
variable {K:Fg}{c:Cn}{x:Addr}{n:Str}{E:XK}
theorem a7c(h:OpN v):kV (c0f v)=v:=by rcases h with ⟨s,rfl,_⟩ | ⟨i,rfl,_⟩ <;> rfl
theorem b4P(hr:b3P H p xs)(k:∀H',o7 H H'->Q (nmV (sbV xs)) H'):a3P K [.ref p] H Q E:=by
 obtain⟨hp,rS⟩:=id hr
 refine⟨rfl,?_⟩
 unfold b1r
 obtain⟨k0,r,rfl⟩:=rS.head
 ext
 exists L8 hp (a3f _ _) ?_
 refine J5 (by simp) fun l H1 hl e1 s1=>?_
 refine a9o e1 rfl rfl ?_
 refine⟨_,rfl,?_⟩
 have hp1:=s1 _ _ hp
 have k1:=k H1 s1
 cases rS with
 | set n p2 nm d2=>
  exists C3 (by decide +kernel) ?_
  exact L8 hp1 (a2Q _ _ _) k1
 | copy n v nm o=>
  exists C3 (by decide +kernel) ?_
  exact L8 hp1 (a2Q _ _ _) k1
 | take n nm=>
  exists C3 (by decide +kernel) ?_
  exact L8 hp1 (a2Q _ _ _) k1
 | tell v o=>
  exists t7 (by decide +kernel) ?_
  rw[show sbV [.str "tell",v]=none by rcases o with ⟨s,rfl,_⟩ | ⟨i,rfl,_⟩ <;> rfl]at k1
  exact k1
 | ask v o=>
  exists t7 (by decide +kernel) ?_
  rw[show sbV [.str "ask",v]=none by rcases o with ⟨s,rfl,_⟩ | ⟨i,rfl,_⟩ <;> rfl]at k1
  exact k1
 | skip=>
  exists t7 (by decide +kernel) ?_
  exact k1
theorem c3f(h:OpN v)(g:OpN w):eqV v w=decide (v=w):=by
 rcases h with ⟨s,rfl,_⟩ | ⟨i,rfl,_⟩ <;> rcases g with ⟨u,rfl,_⟩ | ⟨m,rfl,_⟩ <;> first | rfl | (rw[L7];simp[eqV])
theorem b0v{s u:Str}:eqV (.str s) (.str u)=decide (s=u):=by rw[L7];simp[eqV]
theorem b6U(rS:a4O H xs)(o:OpN v):a7L xs [.str "copy",.str n,v]=b0p xs n v:=by
 have first:∀ {k0:Str} {r:List V},k0≠("copy" : Str)->a7L (.str k0::r) [.str "copy",.str n,v]=false:=fun {k0 r} h=>by
  unfold a7L
  rw[Bool.and_eq_false_iff]
  left
  rw[List.all_eq_false]
  refine⟨0,U9.mpr (by simp;omega),?_⟩
  show ¬eqP (.str k0) (.str "copy")=true
  unfold eqP
  rw[if_pos (show F2 (V.str k0)=true from rfl),b0v]
  simpa using h
 unfold b0p
 cases rS with
 | copy m w nm ow=>
  show a7L [.str "copy",.str m,w] [.str "copy",.str n,v]=decide (some (m,w)=some (n,v))
  unfold a7L
  rw[show min [V.str "copy",.str m,w].length [V.str "copy",.str n,v].length=3 from rfl,show w4 3=[0,1,2] from rfl]
  simp only[P9,b4v,c4K]
  show(eqP (.str "copy") (.str "copy")&&(eqP (.str m) (.str n)&&eqP w v)&&_)=_
  unfold eqP
  rw[if_pos (show F2 (V.str _)=true from rfl),if_pos (show F2 (V.str _)=true from rfl),if_pos ow.flat,b0v,b0v,c3f ow o]
  by_cases e1:m=n <;> by_cases e2:w=v <;> simp[e1,e2]
 | set m p2 nm d2=>rw[first (by decide)];rfl
 | take m nm=>rw[first (by decide)];rfl
 | tell w ow=>rw[first (by decide),show cpV [.str "tell",w]=none by rcases ow with ⟨s,rfl,_⟩ | ⟨i,rfl,_⟩ <;> rfl];rfl
 | ask w ow=>rw[first (by decide),show cpV [.str "ask",w]=none by rcases ow with ⟨s,rfl,_⟩ | ⟨i,rfl,_⟩ <;> rfl];rfl
 | skip=>rw[first (by decide)];rfl
theorem b6T(rS:a4O H xs):∀z∈xs,c0z H z:=by
 intro z hz
 cases rS with
 | set m p2 nm d2=>
  simp only[c8,l6,or_false]at hz
  obtain⟨k,a,b,h,_⟩:=d2
  rcases hz with rfl | rfl | rfl
  ·exact .inl rfl
  ·exact .inl rfl
  ·exact .inr ⟨_,_,rfl,h⟩
 | copy m w nm o=>
  simp only[c8,l6,or_false]at hz
  rcases hz with rfl | rfl | rfl
  ·exact .inl rfl
  ·exact .inl rfl
  ·exact .inl o.flat
 | take m nm=>
  simp only[c8,l6,or_false]at hz
  rcases hz with rfl | rfl <;> exact .inl rfl
 | tell w o=>
  simp only[c8,l6,or_false]at hz
  rcases hz with rfl | rfl
  ·exact .inl rfl
  ·exact .inl o.flat
 | ask w o=>
  simp only[c8,l6,or_false]at hz
  rcases hz with rfl | rfl
  ·exact .inl rfl
  ·exact .inl o.flat
 | skip=>
  simp only[c8,l6,or_false]at hz
  rw[hz];exact .inl rfl
theorem b0y(ck:a4d K c)(hp:a3J c H x N rs)(h400:N.length<=400)(hr:a3I H rs RC)
  (k:∀l bs H',H' l=some (.lst ((bs:List Addr).map V.ref))->b8i H' bs (a1v (ckD RC) N.length)->H l=none->o7 H H'->Q (.ref l) H'):a1a K [.ref x] H Q E:=by
 obtain⟨dx,fs,n0,r,h1,h2,h3,h4,h5,h6⟩:=hp.ex
 refine⟨rfl,?_⟩
 unfold a6z
 nofun
 intro fd hfd
 have s1:o7 H (upd H fd (.dT [])):=v0 hfd
 obtain⟨H1,hH1⟩:∃H1,H1=upd H fd (.dT []):=⟨_,rfl⟩
 have e1:H1 fd=some (.dT (KM (a1v (ckD RC) 0) fun _=>.bl true)):=hH1 ▸ c6
 rw[<-hH1]at s1 ⊢
 ext
 exact_mod_cast Q7 ?_
 specialize V2 (O9 ?_)
 specialize a4n ?_
 refine⟨x,_,dx,_,.ref r,rfl,s1 _ _ h1,ck.R7,ck.R5,h4,?_⟩
 refine⟨r,rfl,⟨_,SqL.of (s1 _ _ h5)⟩,a0i (xs:=rs.map V.ref) (fun i σ H2=>∃y2,σ=[some (.ref x),some (.ref fd),y2]/\H2 fd=some (.dT (KM (a1v (ckD RC) i) fun _=>.bl true))/\o7 H H2) ⟨_,rfl,e1,s1⟩ ?_ ?_ ?_⟩
 ·rintro i σ H2 _ ⟨_,_,_,s2⟩
  exact SqL.of (s2 _ _ h5)
 ·rintro i v _ H2 hv ⟨y2,rfl,e2,s2⟩
  rw[b8]at hv
  obtain⟨p,hp',rfl⟩:=l7.mp hv
  have hi:=(gI hp')
  obtain⟨hx,rS⟩:=(hr i p hp').ts (o7.ts s2)
  have ln:=a9u (ckD RC) i
  have skip:ckD RC i=none->∃y2,[some (V.ref x),some (.ref fd),some (.ref p)]=[some (.ref x),some (.ref fd),y2]/\H2 fd=some (.dT (KM (a1v (ckD RC) (i+1)) fun _=>.bl true))/\o7 H H2:=fun z=>⟨_,rfl,by rw[a1u,z];exact e2,s2⟩
  generalize hxs:RC i=xs at hx rS
  have cd:ckD RC i=match cpV xs with
   | some (n,v)=>if v=.str n then none else some (cpK n v)
   | none=>none:=by unfold ckD;rw[hxs]
  obtain⟨k0,r0,rfl⟩:=rS.head
  ext
  exists L8 hx (a3f _ _) ?_
  cases rS with
  | copy n v nm o=>
   exists C3 (by decide) ?_
   exists L8 hx (a2Q _ _ _) ?_
   refine L8 hx (a8T _ _ _ _) ?_
   have cd:ckD RC i=if v=.str n then none else some (cpK n v):=cd
   refine⟨_,c0X (.inl ⟨n,rfl,nm⟩) o,?_⟩
   refine⟨_,rfl,?_⟩
   by_cases z:v=.str n
   ·exists t7 (by rw[c6x (show V.str n=v from z.symm)];rfl) ?_
    exact skip (by rw[cd,if_pos z])
   ·refine C3 (by rw[c6w (show ¬V.str n=v from fun q=>z q.symm)];rfl) ?_
    rw[if_neg z]at cd
    specialize a2A ?_
    have hk:H2 p=some (.tup ((cpK n v).map kV)):=by
     rw[hx]
     show _=some (HO.tup [.str "copy",.str n,kV (c0f v)])
     rw[a7c o]
    refine⟨fd,_,rfl,a4P.t e2 hk (G9 (by rw[c3t];omega)),?_⟩
    refine⟨_,rfl,?_,fun b o q=>by rw[c9 (c7 q hfd)];exact s2 _ _ q⟩
    rw[c6,c3s,a1u,cd]
    exact congrArg (fun g=>some (HO.dT (KM _ g))) (funext fun u'=>by split <;> rfl)
  | set n p2 nm d2=>
   refine t7 (by decide) ?_
   exists t7 rfl ?_
   exact skip cd
  | take n nm=>
   refine t7 (by decide) ?_
   exists t7 rfl ?_
   exact skip cd
  | tell v o=>
   refine t7 (by decide) ?_
   exists t7 rfl ?_
   exact skip (by rw[cd,show cpV [.str "tell",v]=none by rcases o with ⟨s,rfl,_⟩ | ⟨i,rfl,_⟩ <;> rfl])
  | ask v o=>
   refine t7 (by decide) ?_
   exists t7 rfl ?_
   exact skip (by rw[cd,show cpV [.str "ask",v]=none by rcases o with ⟨s,rfl,_⟩ | ⟨i,rfl,_⟩ <;> rfl])
  | skip=>
   refine t7 (by decide) ?_
   exists t7 rfl ?_
   exact skip cd
 ·rintro _ H2 ⟨y2,rfl,e2,s2⟩
  rw[a8,h6]at e2
  ext
  refine⟨fd,_,rfl,e2,fun bs kb l hl=>?_⟩
  rw[c0B]at kb
  have s3:o7 H2 (upd H2 l (.lst (bs.map V.ref))):=v0 hl
  exact k l bs _ c6 ⟨kb.1,fun i b k a1 a2=>s3 _ _ (kb.2 i b k a1 a2)⟩ (s2.free hl) (s2.trans s3)
theorem c3d(o:Option Str)(ov:OpN v):inV (nmV o) [.str n,v]=match o with
  | some m=>decide (m=n)||decide (v=.str m)
  | none=>false:=by
 unfold inV
 rw[P8,P8,List.any_nil,c4H]
 cases o with
 | none=>rcases ov with ⟨s,rfl,_⟩ | ⟨i,rfl,_⟩ <;> rfl
 | some m=>
  show(eqV (.str n) (.str m)||eqV v (.str m))=(decide (m=n)||decide (v=.str m))
  rw[b0v]
  congr 1
  ·exact decide_eq_decide.mpr eq_comm
  ·rcases ov with ⟨s,rfl,_⟩ | ⟨i,rfl,_⟩ <;> first | rfl | (rw[L7];simp[eqV])
theorem a5l(ck:a4d K c)(hp:a3J c H x N rs)(hv:a0W N)(hr:a3I H rs RC)(hb:H b=some (.tup [.str "copy",.str n,v]))(o:OpN v)
  (k:∀d H' S kvs,CbK K H' d N (fun i=>b0p (RC i) n v) (fun i=>a8S (RC i) n v) S kvs->(∀t,t∈S↔UnC N RC n v t)->o7 H H'->Q (.ref d) H'):V8 K c [.ref x,.ref b] H Q E:=by
 have h400:=hv.le
 obtain⟨dx,fs,n0,r,h1,h2,h3,h4,h5,h6⟩:=hp.ex
 have fb:([.str "copy",.str n,v]:List V).all F2=true:=by
  rw[P9,P9,P9,o.flat];rfl
 have bl:∀(f:Nat->Bool) (i:Nat),BL i f++[V.bl (f i)]=BL (i+1) f:=fun f i=>by unfold BL;rw[a0n,z9];rfl
 refine⟨rfl,?_⟩
 unfold a2h
 exact_mod_cast Q7 ?_
 refine a9X ?_
 exact_mod_cast U6 (O9 ?_)
 specialize a4n ?_
 refine⟨x,_,dx,_,.ref r,rfl,h1,ck.R7,ck.R5,h4,?_⟩
 refine⟨r,rfl,⟨_,SqL.of h5⟩,fun ma hma=>?_⟩
 refine R0 (xs:=rs.map V.ref) (fun i ys H4=>ys=BL i (fun i=>b0p (RC i) n v)/\H4 ma=some (.lst ys)/\o7 H H4) ⟨rfl,c6,v0 hma⟩ ?_ ?_ ?_ ?_
 ·rintro i ys H4 ⟨_,h,_⟩
  exact h
 ·rintro i ys H4 _ ⟨_,_,s4⟩
  exact SqL.of (s4 _ _ h5)
 ·rintro i y ys H4 hy ⟨rfl,hd,s4⟩ R hR
  rw[b8]at hy
  obtain⟨p,hp',rfl⟩:=l7.mp hy
  have hi:=(gI hp')
  obtain⟨hx,rS⟩:=(hr i p hp').ts (o7.ts s4)
  ext
  refine⟨p,b,_,_,rfl,rfl,hx,s4 _ _ hb,b6T rS,fb,?_⟩
  rw[b6U rS o]
  refine hR _ _ hd (G9 (by rw[b8o];omega)) ⟨bl _ i,c6,fun b o e=>by rw[c9 (c7 e hma)];exact s4 _ _ e⟩
 rintro ys H1 ⟨rfl,m1,s1⟩
 rw[a8,h6]at m1
 ext
 exact_mod_cast Q7 ?_
 refine a9X ?_
 exact_mod_cast U6 (O9 ?_)
 specialize a4n ?_
 refine⟨x,_,dx,_,.ref r,rfl,s1 _ _ h1,ck.R7,ck.R5,h4,?_⟩
 refine⟨r,rfl,⟨_,SqL.of (s1 _ _ h5)⟩,fun ba hba=>?_⟩
 refine R0 (xs:=rs.map V.ref) (fun i ys H4=>ys=BL i (fun i=>a8S (RC i) n v)/\H4 ba=some (.lst ys)/\o7 H1 H4) ⟨rfl,c6,v0 hba⟩ ?_ ?_ ?_ ?_
 ·rintro i ys H4 ⟨_,h,_⟩
  exact h
 ·rintro i ys H4 _ ⟨_,_,s4⟩
  exact SqL.of (s4 _ _ (s1 _ _ h5))
 ·rintro i y ys H4 hy ⟨rfl,hd,s4⟩ R hR
  rw[b8]at hy
  obtain⟨p,hp',rfl⟩:=l7.mp hy
  have hi:=(gI hp')
  have s04:=s1.trans s4
  have rx:=(hr i p hp').ts (o7.ts s04)
  obtain⟨hx,rS⟩:=id rx
  have fin:∀ {w:Bool} {H5:Hp},a8S (RC i) n v=w->o7 H4 H5->R (.bl w) H5:=fun {w H5} e s5=>by
   subst e
   exact hR _ _ (s5 _ _ hd) (G9 (by rw[b8o];omega)) ⟨bl _ i,c6,fun b o e=>by rw[c9 (c7 e hba)];exact s5 _ _ (s4 _ _ e)⟩
  ext
  refine⟨p,b,_,_,rfl,rfl,hx,s04 _ _ hb,b6T rS,fb,?_⟩
  rw[b6U rS o]
  ext
  cases hz:b0p (RC i) n v with
  | true=>
   refine t7 rfl ?_
   exact fin (by unfold a8S;rw[hz];rfl) (o7.refl _)
  | false=>
   exists C3 rfl ?_
   exists b4P rx fun H5 s5=>?_
   refine b6Y (s5 _ _ (s04 _ _ hb)) (a7Y _ _) fun q H6 hq e6 s6=>?_
   rw[c0r]at e6
   refine a9o e6 (by rcases b7D (sbV (RC i))with z | ⟨u,z⟩ <;> rw[z] <;> rfl) (by rw[P9,P9,o.flat];rfl) ?_
   rw[c3d _ o]
   exact fin (by unfold a8S;rw[hz];rfl) (s5.trans s6)
 rintro ys H2 ⟨rfl,b2,s2⟩
 rw[a8,h6]at b2
 ext
 have s02:=s1.trans s2
 refine a5N ck (hp.same s02) hv (s2 _ _ m1) b2 fun d H3 S kvs cb sh s3=>?_
 refine k d H3 S kvs cb (fun t=>⟨fun ht=>?_,b2J (mI cb.z) sh t⟩) (s02.trans s3)
 obtain⟨i,hi⟩:=J2.mp ht
 exact b6v cb i t hi
def StF(N:Nt)(RC:Nat->List V)(s:Str)(t:Nat)(r:V):Prop:=(r=.non/\∀v i,i<N.length->cpV (RC i)=some (s,v)->v≠.str s->UnC N RC s v t)\/(OpN r/\r≠.str s/\¬UnC N RC s r t)
theorem c1b{k:List Key}(hr:a3I H rs RC)(lrs:rs.length=N.length)(hi:i<N.length)(h:ckD RC i=some k):∃n v,k=cpK n v/\OpN v/\NmS n/\v≠.str n/\cpV (RC i)=some (n,v):=by
 obtain⟨rx,hrx⟩:∃rx,rs[i]? = some rx:=⟨_,j6 (by omega)⟩
 obtain⟨hx,rS⟩:=hr i rx hrx
 unfold ckD at h
 generalize hxs:RC i=xs at hx rS h
 cases rS with
 | copy n v nm o=>
  have h:(if v=.str n then none else some (cpK n v))=some k:=h
  split at h
  ·cases h
  ·rename_i z
   cases h
   exact⟨n,v,rfl,o,nm,z,rfl⟩
 | set n p2 nm d2=>cases h
 | take n nm=>cases h
 | tell v o=>rw[show cpV [.str "tell",v]=none by rcases o with ⟨s,rfl,_⟩ | ⟨i,rfl,_⟩ <;> rfl]at h;cases h
 | ask v o=>rw[show cpV [.str "ask",v]=none by rcases o with ⟨s,rfl,_⟩ | ⟨i,rfl,_⟩ <;> rfl]at h;cases h
 | skip=>cases h
theorem a9v{D:Nat->Option (List Key)}{k:List Key}:∀m,k∈a1v D m->∃i,i<m/\D i=some k
 | 0,h=>nomatch h
 | m+1,h=>by
  rw[a1u]at h
  rcases b1W.mp h with z | z
  ·obtain⟨i,a,b⟩:=a9v m z
   exact⟨i,by omega,b⟩
  ·exact⟨m,by omega,z⟩
theorem a8D{s:Str}{t:Nat}(ck:a4d K c)(hp:a3J c H x N rs)(hv:a0W N)(hr:a3I H rs RC)(k:∀r H',StF N RC s t r->o7 H H'->Q r H'):V5 K c [.ref x,.int (t:Int),.str s] H Q E:=by
 have h400:=hv.le
 obtain⟨dx,fs,n0,r,h1,h2,h3,h4,h5,h6⟩:=id hp.ex
 refine⟨rfl,?_⟩
 unfold a4V
 exact_mod_cast Q7 ?_
 specialize V2 (O9 ?_)
 refine b0y ck hp h400 hr fun l bs H1 e1 kb hl s1=>?_
 refine⟨l,rfl,⟨_,SqL.of e1⟩,a0i (xs:=bs.map V.ref) (fun j σ H2=>∃y3,σ=[some (.ref x),some (.int (t:Int)),some (.str s),y3]/\o7 H1 H2/\∀(i:Nat) n v,i<j->(a1v (ckD RC) N.length)[i]? = some (cpK n v)->OpN v->n=s->UnC N RC s v t) ?_ ?_ ?_ ?_⟩
 ·exact⟨_,rfl,o7.refl _,fun i n v h=>by omega⟩
 ·rintro j σ H2 _ ⟨_,_,s2,_⟩
  exact SqL.of (s2 _ _ e1)
 ·rintro j w _ H2 hy ⟨y3,rfl,s2,un⟩
  rw[b8]at hy
  obtain⟨b,hb,rfl⟩:=l7.mp hy
  have hj:=(gI hb)
  obtain⟨kk,hk⟩:∃kk,(a1v (ckD RC) N.length)[j]? = some kk:=⟨_,j6 (by rw[<-kb.1];exact hj)⟩
  obtain⟨i,hi,hc⟩:=a9v _ (mI hk)
  obtain⟨n,v,rfl,o,nm,nv,cp⟩:=c1b hr h6 hi hc
  have hb2:H2 b=some (.tup [.str "copy",.str n,v]):=by
   have:=s2 _ _ (kb.2 j b _ hb hk)
   rw[this]
   show some (HO.tup [.str "copy",.str n,kV (c0f v)])=_
   rw[a7c o]
  have s02:=s1.trans s2
  have step:∀ {H3:Hp},o7 H2 H3->(n=s->UnC N RC s v t)->∃y3,[some (V.ref x),some (.int (t:Int)),some (.str s),some (.ref b)]=[some (.ref x),some (.int (t:Int)),some (.str s),y3]/\o7 H1 H3/\∀(i:Nat) n v,i<j+1->(a1v (ckD RC) N.length)[i]? = some (cpK n v)->OpN v->n=s->UnC N RC s v t:=fun s3 h=>⟨_,rfl,s2.trans s3,fun i' n' v' hi' e' o' en=>by
   by_cases q:i'=j
   ·rw[q,hk]at e'
    have e':=Option.some.inj e'
    simp only[List.cons.injEq,and_true,true_and]at e'
    have ev:v'=v:=by rw[<-a7c o',<-a7c o,e'.2]
    rw[ev]
    exact h ((Sum.inr.inj e'.1).trans en)
   ·exact un i' n' v' (by omega) e' o' en⟩
  ext
  exists L8 hb2 (a2Q _ _ _) ?_
  by_cases en:n=s
  ·subst en
   exists C3 (by simp) ?_
   specialize a3u ?_
   refine a5l ck (hp.same s02) hv (hr.ts (o7.ts s02)) hb2 o fun d H3 S kvs cb hS s3=>?_
   obtain⟨ov,g1,g2⟩:=cb.notin t
   refine⟨d,ov,rfl,g1,?_⟩
   rw[g2]
   refine⟨_,rfl,?_⟩
   by_cases hm:t∈S
   ·exists t7 (by rw[c6x hm];rfl) ?_
    exact step s3 fun _=>(hS t).mp hm
   ·exists C3 (by rw[c6w hm];rfl) ?_
    refine L8 (s3 _ _ hb2) (a8T _ _ _ _) ?_
    exact k v H3 (.inr ⟨o,nv,fun z=>hm ((hS t).mpr z)⟩) (s02.trans s3)
  ·refine t7 (c6w fun z=>en (V.str.inj z)) ?_
   exists t7 rfl ?_
   exact step (o7.refl _) fun z=>(en z).elim
 ·rintro _ H2 ⟨y3,rfl,s2,un⟩
  rw[a8,kb.1]at un
  ext
  refine k .non H2 (.inl ⟨rfl,fun v i hi cp nv=>?_⟩) (s1.trans s2)
  have hc:ckD RC i=some (cpK s v):=by
   unfold ckD
   rw[cp]
   exact if_neg nv
  obtain⟨j,hj⟩:=J2.mp (a9t N.length hi hc)
  obtain⟨n',v',e,o',_,_,cp'⟩:=c1b hr h6 hi hc
  rw[cp]at cp'
  cases cp'
  exact un j s v (gI hj) hj o' rfl
end
def WdP(PL:List Str)(w:V):Prop:=(∃s,w=.str s/\s∈PL)\/∃i,w=.int i
def tkA(ss:List Str):Al:=ss.map fun s=>(s,V.bl true)
section
variable {K:Fg}{c:Cn}{PL:List Str}{n:Str}{E:XK}
theorem b2I(o:OpN v)(h:OpP PL v):WdP PL v:=by
 rcases o with ⟨s,rfl,_⟩ | ⟨i,rfl,_⟩
 ·exact .inl ⟨s,rfl,h s rfl⟩
 ·exact .inr ⟨i,rfl⟩
theorem b3V{s:Str}:(s,v)∈tkA ss↔s∈ss/\v=.bl true:=by
 unfold tkA
 constructor
 ·intro h
  obtain⟨u,hu,e⟩:=p9.mp h
  cases e
  exact⟨hu,rfl⟩
 ·rintro⟨h,rfl⟩
  exact p9.mpr ⟨s,h,rfl⟩
theorem b8E{s:Str}(h:s∈ss):Z8 (KD (tkA ss)) (Sum.inr s) (.bl true)=KD (tkA ss):=by
 unfold Z8
 rw[if_pos]
 ·refine(L3 fun q hq=>?_).trans (a8Y _)
  unfold KD tkA at hq
  rw[N7]at hq
  obtain⟨u,hu,rfl⟩:=p9.mp hq
  show(if _ then _ else _)=_
  split <;> rfl
 ·rw[Z0]
  exact⟨(Sum.inr s,.bl true),p9.mpr ⟨(s,.bl true),b3V.mpr ⟨h,rfl⟩,rfl⟩,by simp⟩
theorem b8F{s:Str}(h:s∉ss):Z8 (KD (tkA ss)) (Sum.inr s) (.bl true)=KD (tkA (ss++[s])):=by
 rw[b0S fun v m=>h (b3V.mp m).1]
 unfold tkA
 rw[z9];rfl
theorem b1S(hra:H ra=some (.lst (rs.map V.ref)))(hr:a3I H rs RC)(hP:b8e H rs PL)(l4:PL.length<=4)
  (k:∀l ss H',H l=none->H' l=some (.lst ((ss:List Str).map V.str))->ss.length<=4->o7 H H'->Q (.ref l) H'):a1F K [.ref ra] H Q E:=by
 refine⟨rfl,?_⟩
 unfold a7w
 nofun
 exists a5Z fun fd H1 hfd e1 s1=>?_
 exact_mod_cast Q7 ?_
 specialize V2 (O9 ?_)
 refine⟨ra,rfl,⟨_,SqL.of (s1 _ _ hra)⟩,a0i (xs:=rs.map V.ref) (fun i σ H2=>∃y2 y3 y4 ss,σ=[some (.ref ra),some (.ref fd),y2,y3,y4]/\H2 fd=some (.dK (KD (tkA ss)))/\ss.Nodup/\(∀s∈ss,s∈PL)/\o7 H H2) ⟨_,_,_,[],rfl,e1,b1b,by simp,s1⟩ ?_ ?_ ?_⟩
 ·rintro i σ H2 _ ⟨_,_,_,_,_,_,_,_,s2⟩
  exact SqL.of (s2 _ _ hra)
 ·rintro i v _ H2 hv ⟨y2,y3,y4,ss,rfl,e2,nd,sp,s2⟩
  rw[b8]at hv
  obtain⟨p,hp',rfl⟩:=l7.mp hv
  obtain⟨hx,rS⟩:=(hr i p hp').ts (o7.ts s2)
  obtain⟨xs',px,pw⟩:=(hP p (mI hp')).ts (o7.ts s2)
  rw[hx]at px
  cases px
  generalize RC i=xs at hx rS pw
  obtain⟨k0,r0,rfl⟩:=rS.head
  ext
  nofun
  refine b6Y hx (a7Y _ _) fun q H3 hq e3 s3=>?_
  rw[c0r]at e3
  ext
  exists c1I e3 fun wl H4 hwl e4 s4=>?_
  have s24:=s3.trans s4
  have hx4:=s24 _ _ hx
  exact_mod_cast a0S (P:=fun σ H5=>∃wl ws,σ=[some (.ref ra),some (.ref fd),some (.ref p),some (.ref wl),y4]/\H5 wl=some (.lst ws)/\(∀w∈ws,WdP PL w)/\o7 H4 H5) ?_ ?_
  rotate_left
  ·intro nx hnx
   ext
   exists L8 hx4 (a3f _ _) ?_
   have old:(∀w∈r0,OpN w\/∃s,w=.str s)->nx [some (.ref ra),some (.ref fd),some (.ref p),some (.ref wl),y4] H4:=fun h=>hnx _ _ ⟨wl,r0,rfl,e4,fun w hw=>by
    rcases h w hw with o | ⟨s,rfl⟩
    ·exact b2I o (pw w hw).1
    ·exact .inl ⟨s,rfl,(pw _ hw).1 s rfl⟩,o7.refl _⟩
   cases rS with
   | set n p2 nm d2=>
    obtain⟨kd,a,b,h,o1,o2,_⟩:=d2
    obtain⟨kd',a',b',h',q1,q2⟩:=(pw (.ref p2) (by simp)).2 p2 rfl
    rw[h]at h'
    cases h'
    exists C3 (by decide) ?_
    exists L8 hx4 (a2Q _ _ _) ?_
    exists L8 hx4 (a8T _ _ _ _) ?_
    exists L8 (s24 _ _ h) (a2Q _ _ _) ?_
    exists L8 hx4 (a8T _ _ _ _) ?_
    exists L8 (s24 _ _ h) (a8T _ _ _ _) ?_
    exists J5 (by simp) fun wl2 H5 hwl2 e5 s5=>?_
    refine hnx _ _ ⟨wl2,_,rfl,e5,fun w hw=>?_,s5⟩
    simp only[c8,l6,or_false]at hw
    rcases hw with rfl | rfl | rfl
    ·exact .inl ⟨n,rfl,(pw (.str n) (by simp)).1 n rfl⟩
    ·exact b2I o1 q1
    ·exact b2I o2 q2
   | copy n v nm o=>
    exists t7 (by decide) ?_
    refine old fun w hw=>?_
    simp only[c8,l6,or_false]at hw
    rcases hw with rfl | rfl
    ·exact .inr ⟨_,rfl⟩
    ·exact .inl o
   | take n nm=>
    exists t7 (by decide) ?_
    exact old fun w hw=>.inr ⟨n,d3.mp hw⟩
   | tell v o=>
    exists t7 (by decide) ?_
    exact old fun w hw=>.inl (by rw[d3.mp hw];exact o)
   | ask v o=>
    exists t7 (by decide) ?_
    exact old fun w hw=>.inl (by rw[d3.mp hw];exact o)
   | skip=>
    exists t7 (by decide) ?_
    exact old fun w hw=>nomatch hw
  rintro _ H5 ⟨wl,ws,rfl,e5,hws,s5⟩
  have s05:=(s2.trans s24).trans s5
  have f5:=(s24.trans s5) _ _ e2
  specialize V2 (O9 ?_)
  refine⟨wl,rfl,⟨_,SqL.of e5⟩,a0i (xs:=ws) (fun j σ H6=>∃y4 ss,σ=[some (.ref ra),some (.ref fd),some (.ref p),some (.ref wl),y4]/\H6 fd=some (.dK (KD (tkA ss)))/\ss.Nodup/\(∀s∈ss,s∈PL)/\H6 wl=some (.lst ws)/\o7 H H6) ⟨_,ss,rfl,f5,nd,sp,e5,s05⟩ ?_ ?_ ?_⟩
  ·rintro j σ H6 _ ⟨_,_,_,_,_,_,q,_⟩
   exact SqL.of q
  ·rintro j w _ H6 hw ⟨y4,ss,rfl,f6,nd6,sp6,e6,s6⟩
   have lss:=a7a ss PL nd6 sp6
   ext
   rcases hws w (mI hw)with ⟨s,rfl,hs⟩ | ⟨m,rfl⟩
   ·refine a0U (s := "str") rfl (by decide) ?_
    refine⟨_,rfl,?_⟩
    refine C3 (by decide) ?_
    specialize a2A ?_
    have lk:(KD (tkA ss)).length<j9:=G9 (by rw[a1U];unfold tkA;rw[a8];omega)
    refine⟨fd,_,rfl,a4P.k (k:=Sum.inr s) f6 lk,?_⟩
    have s7:∀ {kvs:List (Key×V)},o7 H (upd H6 fd (.dK kvs)):=fun b o e=>by rw[c9 (c7 e hfd)];exact s6 _ _ e
    have e7:∀ {kvs:List (Key×V)},upd H6 fd (.dK kvs) wl=some (.lst ws):=(c9 (G5 e6 f6 (by intro z;cases z))).trans e6
    by_cases hm:s∈ss
    ·exact⟨_,ss,rfl,by rw[c6,b8E hm],nd6,sp6,e7,s7⟩
    ·refine⟨_,ss++[s],rfl,by rw[c6,b8F hm],T5.mpr ⟨nd6,by simp,fun a ha b hb e=>hm (by rw[<-d3.mp hb,<-e];exact ha)⟩,fun u hu=>?_,e7,s7⟩
     rcases o8.mp hu with z | z
     ·exact sp6 u z
     ·rw[d3.mp z];exact hs
   ·refine a0U (s := "int") rfl (by decide) ?_
    refine⟨_,rfl,?_⟩
    exists t7 (by decide) ?_
    exact⟨_,ss,rfl,f6,nd6,sp6,e6,s6⟩
  ·rintro _ H6 ⟨y4,ss,rfl,f6,nd6,sp6,e6,s6⟩
   exact⟨_,_,_,ss,rfl,f6,nd6,sp6,s6⟩
 ·rintro _ H2 ⟨y2,y3,y4,ss,rfl,e2,nd,sp,s2⟩
  have lss:=a7a ss PL nd sp
  ext
  unfold a3x
  simp only[e2]
  intro l hl
  have el:(KD (tkA ss)).map (fun kv=>kV kv.1)=ss.map V.str:=by unfold KD tkA;rw[N7,N7];rfl
  rw[el]
  have s3:o7 H2 (upd H2 l (.lst (ss.map V.str))):=v0 hl
  obtain⟨H3,hH3⟩:∃H3,H3=upd H2 l (.lst (ss.map V.str)):=⟨_,rfl⟩
  have e3:H3 l=some (.lst (ss.map V.str)):=hH3 ▸ c6
  rw[<-hH3]at s3 ⊢
  refine⟨l,ss,rfl,e3,by omega,fun q ts pm hq=>?_⟩
  have s03:=s2.trans s3
  exact k q ts _ (s03.free hq) c6 (by rw[pm.length_eq];omega) (s03.trans (v0 hq))
theorem b6V{r:V}(h:r=.non\/OpN r)(k:Q (.bl true) H):a2i K [r,r] H Q E:=by
 refine⟨rfl,?_⟩
 unfold b3W
 nofun
 rcases h with rfl | o
 ·exists ⟨rfl,_,rfl,C3 rfl ?_⟩
  exact⟨rfl,k⟩
 ·rcases id o with ⟨s,rfl,_⟩ | ⟨i,rfl,_⟩
  ·exists ⟨rfl,_,rfl,t7 rfl ?_⟩
   nofun
   refine a0U (s := "str") rfl (by decide) ?_
   refine⟨_,rfl,?_⟩
   exists C3 (by decide) ?_
   refine a0U (s := "str") rfl (by decide) ?_
   refine⟨_,rfl,?_⟩
   exists C3 (by decide) ?_
   rw[c6x rfl] <;> exact k
  ·exists ⟨rfl,_,rfl,t7 rfl ?_⟩
   nofun
   refine a0U (s := "int") rfl (by decide) ?_
   refine⟨_,rfl,?_⟩
   exists t7 (by decide) ?_
   refine a0U (s := "int") rfl (by decide) ?_
   refine⟨_,rfl,?_⟩
   exists C3 (by decide) ?_
   refine a0U (s := "int") rfl (by decide) ?_
   refine⟨_,rfl,?_⟩
   refine⟨_,rfl,?_⟩
   exists C3 (by decide) ?_
   rw[c6x rfl] <;> exact k
theorem b9Y(ck:a4d K c)(hra:H ra=some (.lst (rs.map V.ref)))(hR:P3 H ra N)(hT:D9 H na N)(hv:a0W N)
  (k:∀x Z H',a4r K c Z rs H' x N->o7 H H'->Q (.ref x) H'):a6X K c [.ref ra,.ref na] H Q E:=by
 refine⟨rfl,?_⟩
 unfold b6C
 exact_mod_cast c0Q ?_
 specialize c1w ?_
 exists a5i hra fun ra' H8 hra' e8 s8=>?_
 exists b3M (hT.same s8) hv.le rfl fun na' H9 T9 s9=>?_
 intro x dx hx hdx hne
 have sm:o7 H9 (upd (upd H9 dx (.own x)) x (.ins c.P4 dx [])):=fun b o e=>by
  rw[c9 (c7 e hx),c9 (c7 e hdx)];exact e
 obtain⟨H10,hH10⟩:∃H10,H10=upd (upd H9 dx (.own x)) x (.ins c.P4 dx []):=⟨_,rfl⟩
 have x10:H10 x=some (.ins c.P4 dx []):=hH10 ▸ c6
 rw[<-hH10]at sm ⊢
 have s59:=s8.trans s9
 have s510:=s59.trans sm
 have R9:P3 H9 ra' N:=by
  obtain⟨rs',q1,q2,q3⟩:=id (hR.same s59).ex
  rw[s59 _ _ hra]at q1
  obtain rfl:rs'=rs:=(a0o (f:=V.ref) (fun a b h=>V.ref.inj h) |>.mp (HO.lst.inj (Option.some.inj q1))).symm
  exact⟨rs',s9 _ _ e8,q2,q3⟩
 refine b0e (E:=E0) ck (sm _ _ (s9 _ _ e8)) (R9.same sm) (T9.same sm) hv x10 fun H11 pz old=>⟨rfl,?_⟩
 exact k x _ H11 pz fun b o e=>old b o (s510 _ _ e) (c7 (s59 _ _ e) hx)
end
section
variable {K:Fg}{c:Cn}{x sa:Addr}{S:Nat->Option Al}
theorem StA.kept(h:StA N H vs S)(hB:Bag H b d)(k:D3 b H H'):StA N H' vs S:=by
 obtain⟨xs,hb⟩:=hB.lst
 exact⟨h.1,fun t ht=>(h.2 t ht).imp id fun⟨A,q,a1,a2,a3,a4⟩=>⟨A,q,a1,a2,k.1 _ _ a3 (G5 a3 hb (by intro z;cases z)),a4⟩⟩
theorem b6S(hR:P3 H ra N)(hra:H ra=some (.lst (rs.map V.ref))):∃RC,a3I H rs RC:=by
 obtain⟨rs',r1,r2,r3⟩:=hR.ex
 obtain rfl:rs'=rs:=by
  rw[hra]at r1
  exact(a0o (f:=V.ref) (fun a b h=>V.ref.inj h) |>.mp (HO.lst.inj (Option.some.inj r1))).symm
 refine⟨fun i=>match rs'[i]? with
  | some p=>(match H p with
   | some (.tup xs)=>xs
   | _=>[])
  | none=>[],fun i p hp=>?_⟩
 have hi:=(gI hp)
 obtain⟨xs,hx⟩:=(r3 i p _ hp (F4 (by omega))).x
 simp only[hp,hx.1]
 exact hx
theorem b8S{td ty:TE}(h:td σ H fun x H1=>∃a,x=.ref a/\IsD H1 a/\ty σ H1 fun y H2=>∃o,a1z H2 a y o/\Q (o.getD .non) H2):a5R td ty σ H Q:=h
theorem b2t{s:Str}{t:Nat}{y0 y1 y2 y3 y6 y7 y8:Option V}(ck:a4d K c)(hp:a3J c H x N rs)(hv:a0W N)(hr:a3I H rs RC)(ht:t<N.length)(hs:H sa=some (.lst vs))(hA:StA N H vs S)(hI:StI N RC S)(cl:∀k,ClS N RC S k)
  (k:∀H',o7 H H'->D.nx [y0,y1,y2,y3,some (.ref x),some (.ref sa),y6,y7,y8,some (.int (t:Int)),some (.str s)] H') :
  J8 (a4v (tB (v4 (a2i K) [] E0 (a9 (v4 (V5 K c) [] E0 (a9 (b5 4) (a9 (b5 9) (a9 (b5 10) (j5))))) (a9 (a5R (tOp qIx (b5 5) (b5 9)) (b5 10)) (j5)))))) (J7 (tC (.bl false))) (D0) D [y0,y1,y2,y3,some (.ref x),some (.ref sa),y6,y7,y8,some (.int (t:Int)),some (.str s)] H:=by
 obtain⟨A,e1,nd,mem⟩:=hI.fin hv cl ht
 obtain⟨q1,_⟩ | ⟨A',dA,q1,q2,q3,fl⟩:=hA.2 t ht
 ·rw[e1]at q1;cases q1
 rw[e1]at q1
 cases q1
 ext
 exists a8D ck hp hv hr fun r H1 sf s1=>?_
 specialize b8S ?_
 refine E7 (s1 _ _ hs) (M3 q2) ?_
 have d1:=s1 _ _ q3
 exists ⟨dA,rfl,.inl ⟨_,.inl d1⟩,?_⟩
 refine⟨Y3 (KD A) (Sum.inr s),.inl ⟨_,Sum.inr s,.inl d1,rfl,rfl⟩,?_⟩
 have er:(Y3 (KD A) (Sum.inr s)).getD .non=r:=by
  rcases sf with ⟨rfl,un⟩ | ⟨o,nv,un⟩
  ·rw[(b4s nd).mpr]
   ·rfl
   ·intro v m
    obtain⟨g1,i,hi,g2⟩:=hI.src t A e1 _ m
    exact((mem s v).mp m).2 (un v i hi g2 g1)
  ·rw[(a2R nd).mpr ((mem s r).mpr ⟨nv,un⟩)];rfl
 rw[er]
 ext
 refine b6V (sf.imp (fun h=>h.1) fun h=>h.1) ?_
 refine⟨_,rfl,?_⟩
 exists t7 rfl ?_
 exact k H1 s1
end
theorem law_reading(K:Fg)(hl:ns.length<=63)(hO:c0A H)(hS:SqL K H a (ns.map V.int)):a7C K [.ref a] H (fun v _=>v=.bl true) (fun _ _ _=>False):=by
 have p64:(2:Int) ^ 64=18446744073709551616:=by decide
 refine⟨rfl,fun c ck=>?_⟩
 unfold b6D
 nofun
 exists c3i hS hl fun b d H1 B1 s1 _=>?_
 nofun
 refine b9p B1 fun p1 ra na N rs PL H2 e2 R2 hra2 P2 l4 T2 hv l24 B2 k2=>?_
 refine⟨p1,_,rfl,SqT.of e2,rfl,_,_,rfl,_,_,rfl,rfl,?_⟩
 have pos:=hv.pos
 have h400:=hv.le
 obtain⟨RC,rc2⟩:=b6S R2 hra2
 have lrs:rs.length=N.length:=by
  obtain⟨rs',r1,r2,_⟩:=id R2.ex
  rw[hra2]at r1
  have:=congrArg b6a (HO.lst.inj (Option.some.inj r1))
  rw[a8,a8]at this
  omega
 have lr:(rs.map V.ref).length=N.length:=by rw[a8];exact lrs
 nofun
 exists b9Y ck hra2 R2 T2 hv fun x Z H3 pz3 s3=>?_
 nofun
 exists b1z (s3 _ _ hra2) lrs (rc2.ts (o7.ts s3)) (T2.same s3) hv fun sa vs S H4 hsa e4 A4 I4 cl s4=>?_
 have s24:=s3.trans s4
 nofun
 exists b1S (s24 _ _ hra2) (rc2.ts (o7.ts s24)) (fun p hp=>(P2 p hp).ts (o7.ts s24)) l4 fun l0 ss H5 hl0 e5 lss s5=>?_
 exists J5 (by simp) fun l1 H6 hl1 e6 s6=>?_
 refine b6Z (s6 _ _ e5) e6 ?_
 exists J5 (by simp;omega) fun nl H7 hnl e7 s7=>?_
 obtain⟨ws,hws⟩:∃ws:List Str,ws=ss++[("zz9" : Str)]:=⟨_,rfl⟩
 have e7:H7 nl=some (.lst (ws.map V.str)):=by rw[e7,hws,z9];rfl
 have lws:0<ws.length/\ws.length<=5:=by rw[hws,u4];simp;omega
 have s47:=(s5.trans s6).trans s7
 have s27:=s24.trans s47
 have B7:=B2.same s27
 have nnl:nl≠b:=((B2.same (s24.trans (s5.trans s6))).nb hnl).1
 have nsa:sa≠b:=((B2.same s3).nb hsa).1
 have pz7:=(pz3.same s4).same s47
 have A7:=A4.same s47
 have es7:=s47 _ _ e4
 nofun
 refine K8 (s27 _ _ hra2) ?_
 rw[lr]
 ext
 exists K7 B7 (by omega) (by omega) fun bg H8 bg0 bg1 B8 k8=>?_
 have k28:=(D3.of_same (b:=b) s27).trans k8
 have hra8:=k28.1 _ _ hra2 (Y7 B2 hra2)
 have nl8:=k8.1 _ _ e7 nnl
 have es8:=k8.1 _ _ es7 nsa
 have A8:=A7.kept B7 k8
 have pz8:=pz7.kept B7 hv.two k8
 have rc8:=rc2.ts (k28.ts B2)
 exact_mod_cast Q7 ?_
 specialize V2 (a0h ?_)
 refine K8 hra8 ?_
 rw[lr]
 refine⟨N.length,rfl,by omega,by omega,?_⟩
 rw[u8]
 refine V6 (fun i σ H9=>∃y8 y9 y10,σ=[some (.ref a),some (.ref b),some (.ref ra),some (.ref na),some (.ref x),some (.ref sa),some (.ref nl),some (.int bg),y8,y9,y10]/\o7 H8 H9) ⟨_,_,_,rfl,o7.refl _⟩ ?_ ?_
 ·rintro i _ H9 hi ⟨y8,y9,y10,rfl,s9⟩
  rw[W1]
  ext
  nofun
  refine K8 (s9 _ _ hra8) ?_
  rw[lr]
  obtain⟨g,rfl⟩:=F3 bg0
  refine⟨by omega,?_⟩
  obtain⟨t,ht,htn⟩:∃t:Nat,t=(g+i) % N.length/\t<N.length:=⟨_,rfl,Nat.mod_lt _ pos⟩
  show o0 9 (.int (((g+i:Nat):Int) % (N.length:Int))) _ _ _
  rw[<-Int.natCast_emod,<-ht]
  ext
  specialize V2 (O9 ?_)
  refine⟨nl,rfl,⟨_,SqL.of (s9 _ _ nl8)⟩,a0i (xs:=ws.map V.str) (fun j σ H10=>∃y10,σ=[some (.ref a),some (.ref b),some (.ref ra),some (.ref na),some (.ref x),some (.ref sa),some (.ref nl),some (.int (g:Int)),some (.int (i:Int)),some (.int (t:Int)),y10]/\o7 H8 H10) ⟨_,rfl,s9⟩ ?_ ?_ ?_⟩
  ·rintro j σ H10 _ ⟨_,_,s10⟩
   exact SqL.of (s10 _ _ nl8)
  ·rintro j v _ H10 hv' ⟨y10,rfl,s10⟩
   rw[b8]at hv'
   obtain⟨s,_,rfl⟩:=l7.mp hv'
   refine a3U ?_
   exact b2t ck (pz8.same s10).r hv (rc8.ts (o7.ts s10)) htn (s10 _ _ es8) (A8.same s10) I4 cl fun H11 s11=>⟨_,rfl,s10.trans s11⟩
  ·rintro _ H10 ⟨y10,rfl,s10⟩
   exact⟨_,_,_,rfl,s10⟩
 rintro _ H9 ⟨y8,y9,y10,rfl,s9⟩
 ext
 have B9:=B8.same s9
 have hra9:=s9 _ _ hra8
 have k29:=k28.trans (D3.of_same s9)
 exact_mod_cast Q7 ?_
 specialize V2 (a0h ?_)
 refine⟨6,rfl,by omega,by omega,?_⟩
 refine V6 (fun i σ H10=>∃y8 y9 y10,σ=[some (.ref a),some (.ref b),some (.ref ra),some (.ref na),some (.ref x),some (.ref sa),some (.ref nl),some (.int bg),y8,y9,y10]/\Bag H10 b d/\D3 b H9 H10) ⟨_,_,_,rfl,B9,D3.of_same (o7.refl _)⟩ ?_ ?_
 ·rintro i _ H10 hi ⟨y8,y9,y10,rfl,B10,k10⟩
  ext
  nofun
  refine K8 (k10.1 _ _ hra9 (Y7 B9 hra9)) ?_
  rw[lr]
  ext
  refine K7 B10 (by omega) (by omega) fun t H11 t0 t1 B11 k11=>?_
  obtain⟨t,rfl⟩:=F3 t0
  have nlx:∀ {Hz:Hp},D3 b H9 Hz->Hz nl=some (.lst (ws.map V.str)):=fun k=>k.1 _ _ (s9 _ _ nl8) nnl
  have k911:=k10.trans k11
  ext
  nofun
  refine K8 (nlx k911) ?_
  rw[a8]
  ext
  refine K7 B11 (by omega) (by omega) fun j H12 j0 j1 B12 k12=>?_
  have k912:=k911.trans k12
  obtain⟨v,hv1,hv2⟩:=a1T (xs:=ws.map V.str) j0 (by rw[a8];exact j1)
  obtain⟨s,_,rfl⟩:=p9.mp (mI hv2)
  refine E7 (nlx k912) hv1 ?_
  refine a3U ?_
  have pz12:=(pz8.same s9).kept B9 hv.two k912
  refine b2t ck pz12.r hv (rc2.ts ((k29.trans k912).ts B2)) (by omega) (k912.1 _ _ (s9 _ _ es8) nsa) ((A8.same s9).kept B9 k912) I4 cl fun H13 s13=>?_
  exact⟨_,_,_,rfl,B12.same s13,k912.trans (D3.of_same s13)⟩
 rintro _ H10 ⟨y8,y9,y10,rfl,B10,k10⟩
 have pz10:=(pz8.same s9).kept B9 hv.two k10
 have k210:=k29.trans k10
 have R10:=R2.kept B2 k210
 have T10:=T2.kept B2 hv.two k210
 have hra10:=k210.1 _ _ hra2 (Y7 B2 hra2)
 obtain⟨dx',r',n',e',es,ns',h1,⟨h2,h2r⟩,h3,h4,h5,_⟩:=pz10.ex
 ext
 specialize a4n ?_
 exists ⟨x,_,dx',_,.ref r',rfl,h1,ck.R7,ck.R5,rfl,?_⟩
 refine⟨r',ra,3,rfl,rfl,by omega,b8U R10 hra10 h2r,?_⟩
 refine⟨_,rfl,?_⟩
 refine C3 rfl ?_
 exact_mod_cast c3R ?_
 specialize a4n ?_
 exists ⟨x,_,dx',_,.ref n',rfl,h1,ck.R7,ck.T0,rfl,?_⟩
 exact⟨n',na,2,rfl,rfl,by omega,c2L ⟨ns',h3,h4,h5⟩ T10,rfl⟩
end RD
set_option maxHeartbeats 0
namespace PR
open PySem L2 RD Y
abbrev c5t:Str:="__init__"
abbrev c5u:Str:="_law_script"
abbrev c5v:Str:="_law_bag"
abbrev c5w:Str:="_law_bag_here"
abbrev c5x:Str:="_law_many"
abbrev c5y:Str:="_law_take"
abbrev c5z:Str:="_law_some"
abbrev c5A:Str:="_law_k"
abbrev c5B:Str:="_law_pool"
abbrev c5C:Str:="_law_nexts"
abbrev c5D:Str:="_law_net"
abbrev c5E:Str:="_law_good"
abbrev c5F:Str:="_law_turn"
abbrev c5G:Str:="_law_reached"
abbrev c5H:Str:="_law_one"
abbrev c5I:Str:="_law_order"
abbrev c5J:Str:="_law_mended"
abbrev c5K:Str:="_law_pool_here"
abbrev c5L:Str:="_law_operand"
abbrev c5M:Str:="_law_kinds"
abbrev c5N:Str:="_law_deed"
abbrev c5O:Str:="_law_deeds"
abbrev c5P:Str:="_law_name"
abbrev c5Q:Str:="_law_row"
abbrev c5R:Str:="_law_rows"
abbrev c5S:Str:="_law_plan"
abbrev c5T:Str:="check_length"
abbrev c5U:Str:="thing"
abbrev c5V:Str:="is_whole"
abbrev c5W:Str:="is_value"
abbrev c5X:Str:="is_operand"
abbrev c5Y:Str:="check_each"
abbrev c5Z:Str:="is_below"
abbrev c6a:Str:="following"
abbrev c6b:Str:="place"
abbrev c6c:Str:="are_nexts"
abbrev c6d:Str:="rows"
abbrev c6e:Str:="nexts"
abbrev c6f:Str:="check_nexts"
abbrev c6g:Str:="stops_of"
abbrev c6h:Str:="check_ways"
abbrev c6i:Str:="steps_of"
abbrev c6j:Str:="_law_made"
abbrev c6k:Str:="_law_row_here"
abbrev c6l:Str:="_law_behind"
abbrev c6m:Str:="_law_both"
abbrev c6n:Str:="_law_standing"
abbrev c6o:Str:="_law_names_of"
abbrev c6p:Str:="plan"
abbrev c6q:Str:="copies_of"
abbrev c6r:Str:="unready_steps"
abbrev c6s:Str:="copying"
abbrev c6t:Str:="places_without"
abbrev c6u:Str:="stands_for"
abbrev c6v:Str:="_law_right"
section
def top(i:Nat):Stmt:=PySem.Challenge.pw_oncedone_k83_stands_for.main.body.getD i (.Pass ⟨0,0,0,0⟩)
abbrev b4d:Stmt:=top 44
abbrev b2Z:Stmt:=top 45
abbrev a9Z:Stmt:=top 48
abbrev b6O:Stmt:=top 46
abbrev a2j:Stmt:=top 47
abbrev a5X:Stmt:=top 49
abbrev b3b:Stmt:=top 50
abbrev b6K:Stmt:=top 51
abbrev a7H:Stmt:=top 52
abbrev a1q:Stmt:=top 24
abbrev a3T:Stmt:=top 9
abbrev a4z:Stmt:=top 7
abbrev a4A:Stmt:=top 8
abbrev a2z:Stmt:=top 10
abbrev a5Y:Stmt:=top 11
abbrev a7I:Stmt:=top 12
abbrev a2C:Stmt:=top 25
abbrev a4B:Stmt:=top 23
abbrev a1I:Stmt:=top 28
abbrev a0x:Stmt:=top 29
abbrev a5V:Stmt:=top 32
abbrev a5f:Stmt:=top 31
abbrev a2v:Stmt:=top 30
abbrev a2B:Stmt:=top 33
abbrev a2w:Stmt:=top 34
abbrev a0M:Stmt:=Q8 (top 35) 2
abbrev Z7:Stmt:=Q8 (top 35) 0
abbrev b0a:Stmt:=top 53
abbrev a7K:Stmt:=top 55
abbrev b3c:Stmt:=top 56
abbrev a2y:Stmt:=top 57
abbrev a4y:Stmt:=top 54
abbrev a3v:Stmt:=top 40
abbrev a7G:Stmt:=top 14
abbrev a5W:Stmt:=top 37
abbrev a0L:Stmt:=top 38
abbrev U0:Stmt:=top 41
abbrev a2x:Stmt:=top 42
abbrev a9Y:Stmt:=top 58
abbrev b4a:Stmt:=top 59
structure Txt(K:Fg)(mg:Str->Option Value)(c:Cn):Prop where
 c4O:mg "abs" = none
 c1g:mg "all" = none
 c4N:mg "any" = none
 b8t:mg "bool" = none
 a0K:mg "enumerate" = none
 c1f:mg "int" = none
 F5:mg "isinstance" = none
 L5:mg "len" = none
 a0R:mg "list" = none
 c4M:mg "min" = none
 W0:mg "range" = none
 b2y:mg "sorted" = none
 b4z:mg "str" = none
 b4y:mg "tuple" = none
 c4L:mg "zip" = none
 c0F:∃u,mg "BOUND" = some u/\C7 (.int 1000000000000) u
 b0Y:∃u,mg "DEED_KINDS" = some u/\C7 (.ref c.a2V) u
 b5V:∃u,mg "FIGURES" = some u/\C7 (.str "0123456789") u
 a2W:∃u,mg "FIRST_STEP" = some u/\C7 (.ref c.R6) u
 a9G:∃u,mg "LETTERS" = some u/\C7 (.str "abcdefghijklmnopqrstuvwxyz") u
 a8v:∃u,mg "LONGEST_NAME" = some u/\C7 (.int 8) u
 c3z:∃u,mg "MOST" = some u/\C7 (.int 400) u
abbrev scF(ns:List (Str×a4i)):Scope:={ kind:=.function,names:=ns,isGenerator:=false,isCoroutine:=false,more:=[] }
local macro_rules | `(tactic| walk_at "c0") => `(tactic| exact ⟨rfl, by decide +kernel, by decide +kernel, rfl, by decide +kernel, by decide +kernel, rfl, by decide +kernel⟩)
local macro_rules | `(tactic| walk_at "c1") => `(tactic| exact ⟨rfl, by decide +kernel, by decide +kernel, rfl, b4k (by decide +kernel), by decide +kernel, rfl, by decide +kernel⟩)
local macro_rules | `(tactic| walk_at "c2") => `(tactic| exact ⟨rfl, by decide +kernel, by decide +kernel, rfl, rfl, by decide +kernel, by decide +kernel, rfl, rfl, by decide +kernel⟩)
local macro_rules | `(tactic| walk_at "c3") => `(tactic| exact ⟨rfl, by decide +kernel, by decide +kernel, rfl, rfl, b4k (by decide +kernel), by decide +kernel, rfl, rfl, by decide +kernel⟩)
def b8p(f:List Value->Prop):List Str->Prop
 | []=>f []
 | _::r=>∀u,b8p (fun us=>f (u::us)) r
theorem b8p.mp:∀ {ps:List Str} {f:List Value->Prop},b8p f ps->∀us,us.length=ps.length->f us
 | [],_,h,[],_=>h
 | _::_,_,h,u::us,e=>b8p.mp (h u) us (Nat.succ.inj e)
section
variable {P:v8}{w:World}{K:Fg}{mg:Str->Option Value}{base h:Heap}{c:Cn}{f C:Addr}{fd:W3}{x q:Str}{st:Stmt}{N ps:List Str}{k:Nat}{t:TS}{pm cd:Value}{sp:Sp}
open PySem.Spec PyProof.Rows in
theorem fk(F:Fun K x q st f fd)(S:z8 N ps (i8 st))(b:∀cdv A outer s H E,N8 k (A.deeper (b1e q (i8 st) s.heap.objs.size f cdv))->N.Nodup->a7r (b2g CX0 P w K mg base N q (i8 st) f cdv A outer s H E).nox (a0j st) t):J9 P w K mg base CX0 (k+1) f fd ps (spD ps.length N.length t):=
 b1l F S (fun _ _ _ _ h=>h.1) fun cdv A outer s H _ _ E hr h=>⟨t,b cdv A outer s H E hr S.nd,h.2⟩
abbrev fdM(x q:Str)(st:Stmt)(pm cd:Value):W3:=X8 x q (a1L st) (a0j st) (i8 st) .none .none .none pm none cd .none
structure FnI(K:Fg)(x q:Str)(st:Stmt)(f:Addr)(pm cd:Value):Prop where
 l:K.lookup f=some ⟨.type "function",none,.func (fdM x q st pm cd),#[]⟩
 c:a4f K cd q=true
 k:P7 K (.ref f)=true
structure FnG(K:Fg)(x:Str)(st:Stmt)(f:Addr)(pm cd:Value):Prop where
 i:FnI K x x st f pm cd
 a:v9 K t5 x=some (some (.ref f))
structure FnM(K:Fg)(C:Addr)(x q:Str)(st:Stmt)(f:Addr)(pm cd:Value):Prop where
 i:FnI K x q st f pm cd
 a:C6 K (.ref C) x=some (some (.ref f))
 n:a6w K (.ref f)=true
theorem FnI.F(h:FnI K x q st f pm cd):Fun K x q st f (fdM x q st pm cd):=c3e h.l h.c h.k
abbrev BdA(x q:Str)(st:Stmt)(ps:List Str):Prop:=∀(kV doc pm:Value) (an:Option Addr) (cdv ct:Value),b8p (fun us=>bindArgs (X8 x q (a1L st) (a0j st) (i8 st) .none kV doc pm an cdv ct) ⟨us,[]⟩=pure (ps.zip us)) ps
theorem mkC(X:K.In h)(G:h.Ns t5 mg)(g:FnG K x st f pm cd)(O:J9 P w K mg base CX0 k f (fdM x x st pm cd) ps sp)(B:BdA x x st ps):D4 P w K mg base k x ps sp:=b5G g.i.F O (O8 X G g.a) (g.i.F.binds fun _ _ _ _ _ _ us hl=>(B _ _ _ _ _ _).mp us hl)
theorem mkM(g:FnM K C x q st f pm cd)(cl:Cls K C)(O:J9 P w K mg base CX0 k f (fdM x q st pm cd) ps sp)(B:BdA x q st ps):a7e P w K mg base k x C ps sp:=⟨_,_,O,cl,⟨g.a,g.n,g.i.k⟩,g.i.F.binds fun _ _ _ _ _ _ us hl=>(B _ _ _ _ _ _).mp us hl⟩
theorem mkK{y:Str}(X:K.In h)(G:h.Ns t5 mg)(g:FnM K C c5t q st f pm cd)(y1:v9 K t5 y=some (some (.ref C)))(m:a3h K C=true)(kc:P7 K (.ref C)=true)(O:J9 P w K mg base CX0 k f (fdM c5t q st pm cd) ps sp)(B:BdA c5t q st ps):b2v P w K mg base k y C ps sp:=⟨_,_,O,O8 X G y1,⟨m,g.a,g.n,kc⟩,g.i.F.binds fun _ _ _ _ _ _ us hl=>(B _ _ _ _ _ _).mp us hl⟩
end
section
variable {P:v8}{w:World}{K:Fg}{mg:Str->Option Value}{base:Heap}{c:Cn}{f:Addr}{fd:W3}(T:Txt K mg c)
abbrev b7z:List Str:=[c5u]
theorem c1r:z8 [c5u] b7z (i8 b4d):=by walk_at "sc"
theorem b8b:M9 [c5u] (i8 b4d) (scF [ (".0",.local),("_law_cell",.local),("abs",.globalImplicit)]) "_law_cell" := by walk_at "c0"
include T in
theorem c2J(F:Fun K c5v c5v b4d f fd):J9 P w K mg base CX0 1 f fd b7z (a9Q K):=fk F c1r fun _ _ _ _ _ _ hr nd=>b9 (o5 (F6 (b1h b7 b7 b7 (N5 b8b rfl (D7 (a1l b4A (b6 0) a1Z (a1Y b7))) (fun _ _ _ _ _=>E5) (fun _ _ _ _ _=>i9 b1o rfl T.c4O PyProof.Rows.boot_abs (l9 (b6 0)))))))
variable(b4r:D4 P w K mg base 1 c5v b7z (a9Q K))
abbrev b3l:List Str:=[c5w,c5x]
theorem b8M:z8 [c5w,c5x,"_law_more","_law_cell","_law_value","_law_first","_law_second"] b3l (i8 b2Z):=by walk_at "sc"
include T in
theorem b9Q(F:Fun K c5y c5y b2Z f fd):J9 P w K mg base CX0 1 f fd b3l (G0 K):=fk F b8M fun _ _ _ _ _ _ hr nd=>b4 (u9 (C8 (C5 hr) (o9 (b6 0) b7) b7) (b4 (u6 2 nd b7) (b4 (u9 (C8 a0f (o9 (b6 0) b7) (i9 o4 rfl T.L5 j7 (l9 (o9 (b6 0) b7)))) (b4 (u6 3 nd (o9 (o9 (b6 0) b7) (o9 (b6 0) b7))) (b4 (b4C (b6 0) b7 b8z b7 b1k a3N) (b4 (u9 (C8 b6q (b6 3) b7) (b9 (a1X (b6 3) (a3n (b6 0) b7 a3N))) k9) (b9 (u6 2 nd (D6 N6 (D6 X0 (b6 3) b7) b7)))))) k9) (b9 (a1X (D6 X0 (D6 N6 (D6 a2e (o9 (b6 0) b7) b7) (b6 2)) b7) (a3n (b6 0) b7 a3N))))) k9) (b4 (u9 (C8 a2f (o9 (b6 0) b7) b7) (b4 (u6 4 nd (D6 X0 (o9 (b6 0) b7) (b6 1))) (b4 (a1X (D6 a9e (o9 (b6 0) b7) (b6 1)) (a3n (b6 0) b7 a3N)) (b9 (o5 (b6 4))))) k9) (b4 (u6 5 nd (D6 X0 (D6 a2e (o9 (b6 0) b7) b7) b7)) (b4 (u6 6 nd (D6 X0 (D6 a2e (b6 5) b7) b7)) (b4 (u9 (C8 a2f (b6 1) b7) (b9 (o5 (D6 X0 (D6 N6 (D6 a2e (b6 6) b7) (b6 5)) (b6 1)))) k9) (b9 (o5 (D6 X0 (D6 a9e (b6 6) b7) (b6 1))))))))
variable(E3:D4 P w K mg base 1 c5y b3l (G0 K))
abbrev b3m:List Str:=[c5w]
theorem b8N:z8 [c5w,c5z,"_law_at"] b3m (i8 a9Z):=by walk_at "sc"
theorem b5C:M9 [c5w,c5z,"_law_at"] (i8 a9Z) (scF [ (".0",.local),(c5A,.local),("_law_at",.free),(c5z,.free)]) c5A := by walk_at "c0"
include T E3 in
theorem b9R(F:Fun K c5B c5B a9Z f fd):J9 P w K mg base CX0 2 f fd b3m (a6V K):=fk F b8N fun _ _ _ _ _ _ hr nd=>b4 (u6 1 nd (F6 (E6 w6 (E6 w6 (E6 w6 (E6 w6 (E6 w6 (c0J w6 w6 w6 w6 w6)))))))) (b4 (u6 2 nd (q9 E3 hr (C1 (b6 0) b7))) (b9 (o5 (N5 b5C rfl (F9 rfl T.W0 (l9 (D6 N6 b7 (q9 E3 hr (C1 (b6 0) b7))))) (fun _ _ _ _ _=>E5) (fun _ _ _ _ _=>o9 (b6 2) (D6 X0 (D6 N6 (b6 3) (D6 a2e b7 (b6 0))) b7))))))
variable(b0F:D4 P w K mg base 2 c5B b3m (a6V K))
abbrev b7y:List Str:=[c5w,c5x]
theorem c1q:z8 [c5w,c5x,c5C,c5A,"_law_near",c5z,"_law_way"] b7y (i8 b6O):=by walk_at "sc"
include T E3 in
theorem c2H(F:Fun K c5D c5D b6O f fd):J9 P w K mg base CX0 2 f fd b7y (a9P K):=fk F c1q fun _ _ _ _ _ _ hr nd=>b4 (u6 2 nd (F6 Y2)) (b4 (F0 PassesOwn.never rfl (F9 rfl T.W0 (l9 (b6 1))) (J0 3 nd) (b4 (u6 4 nd (i9 (b1m rfl) rfl T.c4M PyProof.Rows.boot_min (C1 (D6 N6 (b6 3) b7) (D6 a5L (b6 1) b7)))) (b4 (u6 5 nd (F6 (C1 (b6 4) (q9 E3 hr (C1 (b6 0) (b6 1)))))) (b4 (u6 6 nd (q9 E3 hr (C1 (b6 0) b7))) (b4 (u9 (C8 a0f (b6 6) b7) (b9 (u6 5 nd (F6 (C1 (o9 (b6 5) b7) (b6 4))))) k9) (b4 (u9 (C8 (C5 hr) (b6 6) b7) (b9 (u6 5 nd (F6 (C1 (o9 (b6 5) b7) (q9 E3 hr (C1 (b6 0) (b6 1))))))) k9) (b4 (u9 (Q3 (a0X (Q3 (a0C (C8 a2f (b6 6) b7) (Z6 (C8 a0f (b6 6) b7)))) (a0d (C8 (C5 hr) (b6 1) b7)))) (b9 (u6 5 nd (F6 (l9 (b6 4))))) k9) (b4 (u9 (Q3 (a0C (C8 (C5 hr) (b6 6) b7) (Z6 (C8 a2f (b6 1) b7)))) (b9 (u6 5 nd (F6 (l9 (o9 (b6 5) b7))))) k9) (b4 (u9 (Q3 (a0X (C8 (C5 hr) (b6 3) (D6 a5L (b6 1) b7)) (a0d (Q3 (a0C (C8 (C5 hr) (b6 6) b7) (Z6 (C8 (C5 hr) (q9 E3 hr (C1 (b6 0) b7)) b7))))))) (b9 (u6 5 nd (F6 Y2))) k9) (b9 (O6 (a2q E8 Z4 Z3 a0Y (b6 2) (l9 (b6 5)))))))))))))) (b9 (o5 (b6 2))))
variable(b4q:D4 P w K mg base 2 c5D b7y (a9P K))
abbrev a7U:List Str:=[c5C]
theorem b4T:z8 [c5C,c5E,c5F,c5A,c5G,c5H,c5I] a7U (i8 a2j):=by walk_at "sc"
theorem b2o:M9 [c5C,c5E,c5F,c5A,c5G,c5H,c5I] (i8 a2j) (scF [ (".0",.local),(c5H,.local),(c5E,.free)]) c5H := by walk_at "c0"
theorem b2n:M9 [c5C,c5E,c5F,c5A,c5G,c5H,c5I] (i8 a2j) (scF [ (".0",.local),(c5A,.local),("len",.globalImplicit),(c5E,.free),(c5C,.free)]) c5A := by walk_at "c0"
theorem b2m:M9 [c5C,c5E,c5F,c5A,c5G,c5H,c5I] (i8 a2j) (scF [ (".0",.local),(c5A,.local),(c5C,.free),(c5I,.free)]) c5A := by walk_at "c0"
theorem b2l(env:Env):M9 [c5A,c5C,c5E,c5F,"._law_k",c5G,c5H,c5I] (a5I (scF [ (".0",.local),(c5A,.local),(c5C,.free),(c5I,.free)]) env) (scF [ (".0",.local),(c5H,.local),(c5I,.free)]) c5H := by walk_at "c1"
include T in
theorem b5h(F:Fun K c5J c5J a2j f fd):J9 P w K mg base CX0 1 f fd a7U (a3Q K):=fk F b4T fun _ _ _ _ _ _ hr nd=>b4 (u6 1 nd a0s) (b4 (F0 PassesOwn.never rfl (F9 rfl T.W0 (l9 (i9 o4 rfl T.L5 j7 (l9 (b6 0))))) (J0 2 nd) (b9 (F0 PassesOwn.never rfl (F9 rfl T.W0 (l9 (i9 o4 rfl T.L5 j7 (l9 (b6 0))))) (J0 3 nd) (b9 (u9 (Q3 (a0X (C8 (C5 hr) (o9 (b6 0) (b6 3)) (F6 Y2)) (a0d (N9 (i9 (b1n rfl) rfl T.c4N PyProof.Rows.boot_any (l9 (N5 b2o rfl (D7 (o9 (b6 0) (b6 3))) (fun _ _ _ _ _=>E5) (fun _ _ _ _ _=>b6o hr (b6 0) (b6 2) rfl)))))))) (b9 (W9 hr (b6 1) (b6 3) U4)) k9))))) (b4 (u6 0 nd (N5 b2n rfl (F9 rfl T.W0 (l9 (i9 o4 rfl T.L5 j7 (l9 (b6 0))))) (fun _ _ _ _ _=>E5) (fun _ _ _ _ _=>a4u (a7k hr (b6 0) (b6 2) rfl) (o9 (b6 1) (b6 0)) (D6 N6 (F6 (l9 (D6 a5L (i9 o4 rfl T.L5 j7 (l9 (b6 1))) b7))) (a1l a9J (o9 (b6 1) (b6 0)) (a1Y b7) a1Z))))) (b4 (u6 4 nd (a9c (a7m b7 U4 a9b))) (b4 (F0 PassesOwn.never rfl (F9 rfl T.W0 (l9 (i9 o4 rfl T.L5 j7 (l9 (b6 0))))) (J0 2 nd) (b9 (F0 PassesOwn.never rfl (F9 rfl T.W0 (l9 (i9 o4 rfl T.L5 j7 (l9 (b6 0))))) (J0 3 nd) (b9 (u9 (a7k hr (b6 3) (b6 4) rfl) (b9 (F0 PassesOwn.never rfl (D7 (o9 (b6 0) (b6 3))) (J0 5 nd) (b9 (W9 hr (b6 4) (b6 5) U4)))) k9))))) (b4 (u6 6 nd (i9 a7q rfl T.b2y a7g (l9 (Q5 (a4j rfl) rfl T.a0R A2 (l9 (b6 4)))))) (b9 (o5 (N5 b2m rfl (D7 (b6 6)) (fun _ _ _ _ _=>E5) (fun _ _ _ _ _=>N5 (b2l _) rfl (D7 (o9 (b6 1) (b6 0))) (fun _ _ _ _ _=>E5) (fun _ _ _ _ _=>a2q E8 b0Z PySem.F.type_list_index b1j (b6 8) (l9 (b6 0))))))))))))
variable(a5w:D4 P w K mg base 1 c5J a7U (a3Q K))
abbrev a6d:List Str:=[c5w,c5K]
theorem b2V:z8 [c5w,c5K,"_law_values"] a6d (i8 a5X):=by walk_at "sc"
include T E3 in
theorem b3u(F:Fun K c5L c5L a5X f fd):J9 P w K mg base CX0 2 f fd a6d (W7 K):=fk F b2V fun _ _ _ _ _ _ hr nd=>b4 (u9 (C8 (C5 hr) (q9 E3 hr (C1 (b6 0) b7)) b7) (b4 (u6 2 nd (F6 (b1h b7 b7 b7 (q9 E3 hr (C1 (b6 0) b7))))) (b9 (o5 (o9 (b6 2) (q9 E3 hr (C1 (b6 0) b7)))))) k9) (b9 (o5 (o9 (b6 1) (q9 E3 hr (C1 (b6 0) (i9 o4 rfl T.L5 j7 (l9 (b6 1))))))))
variable(V7:D4 P w K mg base 2 c5L a6d (W7 K))
abbrev b3p:List Str:=[c5w,c5K]
theorem b8Q:z8 [c5w,c5K,c5M] b3p (i8 b3b):=by walk_at "sc"
include T E3 V7 in
theorem b9U(F:Fun K c5N c5N b3b f fd):J9 P w K mg base CX0 3 f fd b3p (a6Y K):=fk F b8Q fun _ _ _ _ _ _ hr nd=>b4 (u6 2 nd (F6 (c0J w6 w6 w6 w6 w6))) (b9 (o5 (Q4 (a3o (o9 (b6 2) (q9 E3 hr (C1 (b6 0) b7))) (q9 V7 hr (C1 (b6 0) (b6 1))) (q9 V7 hr (C1 (b6 0) (b6 1)))))))
variable(b0I:D4 P w K mg base 3 c5N b3p (a6Y K))
abbrev b7x:List Str:=[c5w,c5K,c5O,"_law_asks"]
theorem c1p:z8 [c5w,c5K,c5O,"_law_asks","_law_way",c5P] b7x (i8 b6K):=by walk_at "sc"
include T E3 V7 in
theorem c2G(F:Fun K c5Q c5Q b6K f fd):J9 P w K mg base CX0 3 f fd b7x (a9O K):=fk F c1p fun _ _ _ _ _ _ hr nd=>b4 (u9 (N9 (b6 3)) (b9 (o5 (Q4 (C1 w6 (q9 V7 hr (C1 (b6 0) (b6 1))))))) k9) (b4 (u6 4 nd (q9 E3 hr (C1 (b6 0) b7))) (b4 (u6 5 nd (o9 (b6 1) (q9 E3 hr (C1 (b6 0) (i9 o4 rfl T.L5 j7 (l9 (b6 1))))))) (b4 (u9 (C8 a0f (b6 4) b7) (b9 (o5 (Q4 (a3o w6 (b6 5) (o9 (b6 2) (q9 E3 hr (C1 (b6 0) (i9 o4 rfl T.L5 j7 (l9 (b6 2)))))))))) k9) (b4 (u9 (C8 a0f (b6 4) b7) (b9 (o5 (Q4 (a3o w6 (b6 5) (q9 V7 hr (C1 (b6 0) (b6 1))))))) k9) (b4 (u9 (C8 (C5 hr) (b6 4) b7) (b9 (o5 (o9 (F6 (C1 (Q4 (C1 w6 (b6 5))) (Q4 (C1 w6 (q9 V7 hr (C1 (b6 0) (b6 1))))))) (q9 E3 hr (C1 (b6 0) b7))))) k9) (b9 (o5 (Q4 (l9 w6)))))))))
variable(b4p:D4 P w K mg base 3 c5Q b7x (a9O K))
abbrev b3n:List Str:=[c5w]
theorem b8O:z8 [c5w,c5K,c5x,c5M,c5C,c5O,c5R] b3n (i8 a7H):=by walk_at "sc"
theorem b5E:M9 [c5w,c5K,c5x,c5M,c5C,c5O,c5R] (i8 a7H) (scF [ (".0",.local),(c5A,.local),(c5N,.globalImplicit),(c5w,.free),(c5K,.free)]) c5A := by walk_at "c0"
theorem b5D:M9 [c5w,c5K,c5x,c5M,c5C,c5O,c5R] (i8 a7H) (scF [ (".0",.local),(c5z,.local),(c5Q,.globalImplicit),("len",.globalImplicit),(c5w,.free),(c5O,.free),(c5K,.free)]) c5z := by walk_at "c0"
include T E3 b0F b4q a5w b0I b4p in
theorem b9S(F:Fun K c5S c5S a7H f fd):J9 P w K mg base CX0 4 f fd b3n (a6W K):=fk F b8O fun _ _ _ _ _ _ hr nd=>b4 (u6 1 nd (q9 b0F hr (l9 (b6 0)))) (b4 (u6 2 nd (D6 N6 b7 (q9 E3 hr (C1 (b6 0) b7)))) (b4 (u6 3 nd (D6 N6 b7 (q9 E3 hr (C1 (b6 0) b7)))) (b4 (u9 (C8 (C5 hr) (q9 E3 hr (C1 (b6 0) b7)) b7) (b4 (u6 2 nd (D6 N6 b7 (q9 E3 hr (C1 (b6 0) b7)))) (b9 (u6 3 nd (D6 N6 b7 (q9 E3 hr (C1 (b6 0) b7)))))) k9) (b4 (u6 4 nd (q9 a5w hr (l9 (q9 b4q hr (C1 (b6 0) (b6 2)))))) (b4 (u6 5 nd (N5 b5E rfl (F9 rfl T.W0 (l9 (b6 3))) (fun _ _ _ _ _=>E5) (fun _ _ _ _ _=>q9 b0I hr (C1 (b6 1) (b6 2))))) (b4 (a0e (n:=6) nd rfl rfl b5D rfl (D7 (b6 4)) (fun _ _ _ _ _=>E5) (fun _ _ _ _ _=>q9 b4p hr (b1h (b6 1) (b6 2) (b6 6) (a1Q (C5 hr) (i9 o4 rfl T.L5 j7 (l9 (b6 0))) b7)))) (b9 (o5 (Q4 (C1 (b6 6) (b6 4)))))))))))
variable(b0G:D4 P w K mg base 4 c5S b3n (a6W K))
abbrev a1s:List Str:=["things","at","least"]
theorem a6P:z8 ["things","at","least"] a1s (i8 a1q):=by walk_at "sc"
include T in
theorem a6R(F:Fun K c5T c5T a1q f fd):J9 P w K mg base CX0 1 f fd a1s (Y6 K):=fk F a6P fun _ _ _ _ _ _ hr nd=>b4 (u9 (Q3 (a0X (W5 (N9 (i9 J3 rfl T.F5 p5 (C1 (b6 0) (O7 rfl T.a0R A2 rfl))))) (a0d (C8 a0f (i9 o4 rfl T.L5 j7 (l9 (b6 0))) (b6 2))))) (b9 a1k) k9) (b9 (u9 (C8 a2f (i9 o4 rfl T.L5 j7 (l9 (b6 0))) (S8 T.c3z rfl)) (b9 a1k) k9))
variable(a0l:D4 P w K mg base 1 c5T a1s (Y6 K))
abbrev a6e:List Str:=[c5U]
theorem b2W:z8 [c5U] a6e (i8 a3T):=by walk_at "sc"
theorem b0A:M9 [c5U] (i8 a3T) (scF [ (".0",.local),("sign",.local),("LETTERS",.globalImplicit),("FIGURES",.globalImplicit)]) "sign" := by walk_at "c0"
include T in
theorem b3v(F:Fun K "is_name" "is_name" a3T f fd):J9 P w K mg base CX0 1 f fd a6e (U5 K):=fk F b2W fun _ _ _ _ _ _ hr nd=>b4 (u9 (Q3 (a0X (W5 (N9 (i9 J3 rfl T.F5 p5 (C1 (b6 0) (O7 rfl T.b4z a0m rfl))))) (a0d (W5 (b2F a4T a4T b7 (i9 o4 rfl T.L5 j7 (l9 (b6 0))) (S8 T.a8v rfl)))))) (b9 (o5 U4)) k9) (b9 (o5 (K6 (V4 a1m (o9 (b6 0) b7) (S8 T.a9G rfl) rfl) (O0 (i9 (a6y rfl) rfl T.c1g a8X (l9 (N5 b0A rfl (b6l (b6 0)) (fun _ _ _ _ _=>E5) (fun _ _ _ _ _=>V4 a1m (b6 0) (D6 N6 (S8 T.a9G rfl) (S8 T.b5V rfl)) rfl))))))))
variable(X6:D4 P w K mg base 1 "is_name" a6e (U5 K))
abbrev a4H:List Str:=[c5U]
theorem b1E:z8 [c5U] a4H (i8 a4z):=by walk_at "sc"
include T in
theorem b1N(F:Fun K c5V c5V a4z f fd):J9 P w K mg base CX0 1 f fd a4H (a0H K):=fk F b1E fun _ _ _ _ _ _ hr nd=>b9 (o5 (K6 (i9 J3 rfl T.F5 p5 (C1 (b6 0) (O7 rfl T.c1f a8W rfl))) (O0 (b1g (i9 J3 rfl T.F5 p5 (C1 (b6 0) (O7 rfl T.b8t a8y rfl)))))))
variable(Z2:D4 P w K mg base 1 c5V a4H (a0H K))
abbrev a4I:List Str:=[c5U]
theorem b1F:z8 [c5U] a4I (i8 a4A):=by walk_at "sc"
include T Z2 in
theorem b1O(F:Fun K c5W c5W a4A f fd):J9 P w K mg base CX0 2 f fd a4I (a1G K):=fk F b1F fun _ _ _ _ _ _ hr nd=>b9 (o5 (K6 (q9 Z2 hr (l9 (b6 0))) (O0 (a7p a4T a0f b7 (b6 0) (S8 T.c0F rfl)))))
variable(a2O:D4 P w K mg base 2 c5W a4I (a1G K))
abbrev a2G:List Str:=[c5U]
theorem a8G:z8 [c5U] a2G (i8 a2z):=by walk_at "sc"
include T X6 a2O in
theorem a8K(F:Fun K c5X c5X a2z f fd):J9 P w K mg base CX0 3 f fd a2G (S9 K):=fk F a8G fun _ _ _ _ _ _ hr nd=>b9 (o5 (b8w (q9 X6 hr (l9 (b6 0))) (O0 (q9 a2O hr (l9 (b6 0))))))
variable(O4:D4 P w K mg base 3 c5X a2G (S9 K))
abbrev a6f:List Str:=[c5U]
theorem b2X:z8 [c5U] a6f (i8 a5Y):=by walk_at "sc"
include T O4 in
theorem b3w(F:Fun K "is_deed" "is_deed" a5Y f fd):J9 P w K mg base CX0 4 f fd a6f (a2u K c):=fk F b2X fun _ _ _ _ _ _ hr nd=>b4 (u9 (Q3 (a0X (W5 (N9 (i9 J3 rfl T.F5 p5 (C1 (b6 0) (O7 rfl T.b4y a8u rfl))))) (a0d (C8 (a2d hr) (i9 o4 rfl T.L5 j7 (l9 (b6 0))) b7)))) (b9 (o5 U4)) k9) (b9 (o5 (K6 (V4 b4G (o9 (b6 0) b7) (S8 T.b0Y rfl) rfl) (K6 (q9 O4 hr (l9 (o9 (b6 0) b7))) (O0 (q9 O4 hr (l9 (o9 (b6 0) b7))))))))
variable(a3X:D4 P w K mg base 4 "is_deed" a6f (a2u K c))
abbrev a7V:List Str:=[c5U]
theorem b4U:z8 [c5U,"kind","rest"] a7V (i8 a7I):=by walk_at "sc"
include T X6 O4 a3X in
theorem b5i(F:Fun K "is_row" "is_row" a7I f fd):J9 P w K mg base CX0 5 f fd a7V (a3R K c):=fk F b4U fun _ _ _ _ _ _ hr nd=>b4 (u9 (Q3 (a0X (W5 (N9 (i9 J3 rfl T.F5 p5 (C1 (b6 0) (O7 rfl T.b4y a8u rfl))))) (a0d (C8 (C5 hr) (i9 o4 rfl T.L5 j7 (l9 (b6 0))) b7)))) (b9 (o5 U4)) k9) (b4 (u6 1 nd (o9 (b6 0) b7)) (b4 (u6 2 nd (a1l a9J (b6 0) (a1Y b7) a1Z)) (b4 (u9 (C8 (C5 hr) (b6 1) w6) (b9 (o5 (K6 (a1Q (C5 hr) (i9 o4 rfl T.L5 j7 (l9 (b6 2))) b7) (K6 (q9 X6 hr (l9 (o9 (b6 2) b7))) (O0 (q9 a3X hr (l9 (o9 (b6 2) b7)))))))) k9) (b4 (u9 (C8 (C5 hr) (b6 1) w6) (b9 (o5 (K6 (a1Q (C5 hr) (i9 o4 rfl T.L5 j7 (l9 (b6 2))) b7) (K6 (q9 X6 hr (l9 (o9 (b6 2) b7))) (O0 (q9 O4 hr (l9 (o9 (b6 2) b7)))))))) k9) (b4 (u9 (C8 (C5 hr) (b6 1) w6) (b9 (o5 (K6 (a1Q (C5 hr) (i9 o4 rfl T.L5 j7 (l9 (b6 2))) b7) (O0 (q9 X6 hr (l9 (o9 (b6 2) b7))))))) k9) (b4 (u9 (a1e a1m (b6 1) (Q4 (C1 w6 w6)) rfl) (b9 (o5 (K6 (a1Q (C5 hr) (i9 o4 rfl T.L5 j7 (l9 (b6 2))) b7) (O0 (q9 O4 hr (l9 (o9 (b6 2) b7))))))) k9) (b9 (o5 (K6 (a1Q (C5 hr) (b6 1) w6) (O0 (a1Q (C5 hr) (i9 o4 rfl T.L5 j7 (l9 (b6 2))) b7)))))))))))
variable(a5x:D4 P w K mg base 5 "is_row" a7V (a3R K c))
abbrev a2I:List Str:=["rights"]
theorem a8I:z8 ["rights","k","right"] a2I (i8 a2C):=by walk_at "sc"
include T in
theorem a8M(F:Fun K c5Y c5Y a2C f fd):J9 P w K mg base CX0 1 f fd a2I (Y4 K):=fk F a8I fun _ _ _ _ _ _ hr nd=>b9 (F0 PassesOwn.never rfl (a2a rfl T.a0K (l9 (b6 0))) (a3m rfl (S0 (J0 1 nd) (S0 (J0 2 nd) a2b))) (b9 (u9 (W5 (N9 (b6 2))) (b9 a1k) k9)))
variable(U7:D4 P w K mg base 1 c5Y a2I (Y4 K))
abbrev a4J:List Str:=[c5U,"many"]
theorem b1G:z8 [c5U,"many"] a4J (i8 a4B):=by walk_at "sc"
include T Z2 in
theorem b1P(F:Fun K c5Z c5Z a4B f fd):J9 P w K mg base CX0 2 f fd a4J (a1H K):=fk F b1G fun _ _ _ _ _ _ hr nd=>b9 (o5 (K6 (q9 Z2 hr (l9 (b6 0))) (O0 (a7p a4T a0f b7 (b6 0) (b6 1)))))
variable(a2P:D4 P w K mg base 2 c5Z a4J (a1H K))
abbrev a3A:List Str:=["row",c6a,"many"]
theorem a9U:z8 ["row",c6a,"many","wanted"] a3A (i8 a1I):=by walk_at "sc"
theorem a8m:M9 ["row",c6a,"many","wanted"] (i8 a1I) (scF [ (".0",.local),(c6b,.local),(c5Z,.globalImplicit),("many",.free)]) c6b := by walk_at "c0"
include T a2P in
theorem b0i(F:Fun K c6c c6c a1I f fd):J9 P w K mg base CX0 3 f fd a3A (a1b K):=fk F a9U fun _ _ _ _ _ _ hr nd=>b4 (u9 (W5 (N9 (i9 J3 rfl T.F5 p5 (C1 (b6 1) (O7 rfl T.a0R A2 rfl))))) (b9 (o5 U4)) k9) (b4 (u6 3 nd (a4u (C8 (C5 hr) (o9 (b6 0) b7) w6) (Q4 (l9 b7)) (Q4 (C1 b7 b7)))) (b9 (o5 (K6 (V4 a1m (i9 o4 rfl T.L5 j7 (l9 (b6 1))) (b6 3) rfl) (O0 (i9 (a6y rfl) rfl T.c1g a8X (l9 (N5 a8m rfl (D7 (b6 1)) (fun _ _ _ _ _=>E5) (fun _ _ _ _ _=>q9 a2P hr (C1 (b6 0) (b6 3)))))))))))
variable(a1N:D4 P w K mg base 3 c6c a3A (a1b K))
abbrev a1S:List Str:=[c6d,c6e]
theorem a7F:z8 [c6d,c6e] a1S (i8 a0x):=by walk_at "sc"
theorem a6n:a2S [c6d,c6e] (i8 a0x) (scF [ (".0",.local),("row",.local),(c6a,.local),(c6c,.globalImplicit),("len",.globalImplicit),(c6d,.free)]) "row" c6a := by walk_at "c2"
include T U7 a1N in
theorem a7X(F:Fun K c6f c6f a0x f fd):J9 P w K mg base CX0 4 f fd a1S (a0g K):=fk F a7F fun _ _ _ _ _ _ hr nd=>b4 (u9 (Q3 (a0X (W5 (N9 (i9 J3 rfl T.F5 p5 (C1 (b6 1) (O7 rfl T.a0R A2 rfl))))) (a0d (C8 (a2d hr) (i9 o4 rfl T.L5 j7 (l9 (b6 1))) (i9 o4 rfl T.L5 j7 (l9 (b6 0))))))) (b9 a1k) k9) (b9 (O6 (q9 U7 hr (l9 (a7o a6n rfl (b6k rfl T.c4L (C1 (b6 0) (b6 1))) (fun _ _ _ _ _=>E5) (fun _ _ _ _ _=>q9 a1N hr (a3o (b6 0) (b6 1) (i9 o4 rfl T.L5 j7 (l9 (b6 2))))))))))
variable(a0z:D4 P w K mg base 4 c6f a1S (a0g K))
abbrev a6b:List Str:=["begins","leads"]
theorem b2T:z8 ["begins","leads","seen","waiting",c6b] a6b (i8 a5V):=by walk_at "sc"
include T in
theorem b3s(F:Fun K "reached" "reached" a5V f fd):J9 P w K mg base CX0 1 f fd a6b (a1o K):=fk F b2T fun _ _ _ _ _ _ hr nd=>b4 (u6 2 nd a0s) (b4 (u6 3 nd (Q5 X1 rfl T.a0R A2 (l9 (b6 0)))) (b4 (a4t PassesOwn.never (C8 a2f (i9 o4 rfl T.L5 j7 (l9 (b6 3))) b7) (b4 (u6 4 nd (b6p E8 PySem.F.slot_list_pop PySem.F.type_list_pop b4J (b6 3))) (b9 (u9 (a0D hr (b6 4) (b6 2) rfl) (b4 (W9 hr (b6 2) (b6 4) U4) (b9 (O6 (a2q E8 b0V b0U a4U (b6 3) (l9 (o9 (b6 1) (b6 4))))))) k9)))) (b9 (o5 (b6 2)))))
variable(a2l:D4 P w K mg base 1 "reached" a6b (a1o K))
abbrev a7S:List Str:=[c6e]
theorem b4R:z8 [c6e,"sources",c6b,c6a,"target"] a7S (i8 a5f):=by walk_at "sc"
theorem b2k:M9 [c6e,"sources",c6b,c6a,"target"] (i8 a5f) (scF [(".0",.local),(c6a,.local)]) c6a := by walk_at "c0"
include T in
theorem b5f(F:Fun K "turned" "turned" a5f f fd):J9 P w K mg base CX0 1 f fd a7S (a3O K):=fk F b4R fun _ _ _ _ _ _ hr nd=>b4 (a0e (n:=1) nd rfl rfl b2k rfl (D7 (b6 0)) (fun _ _ _ _ _=>E5) (fun _ _ _ _ _=>F6 Y2)) (b4 (F0 PassesOwn.never rfl (a2a rfl T.a0K (l9 (b6 0))) (a3m rfl (S0 (J0 2 nd) (S0 (J0 3 nd) a2b))) (b9 (F0 PassesOwn.never rfl (D7 (b6 3)) (J0 4 nd) (b9 (O6 (a2q E8 Z4 Z3 a0Y (o9 (b6 1) (b6 4)) (l9 (b6 2)))))))) (b9 (o5 (b6 1))))
variable(a5t:D4 P w K mg base 1 "turned" a7S (a3O K))
abbrev a4D:List Str:=[c6e]
theorem b1A:z8 [c6e] a4D (i8 a2v):=by walk_at "sc"
theorem a8P:a2S [c6e] (i8 a2v) (scF [ (".0",.local),(c6b,.local),(c6a,.local),("len",.globalImplicit)]) c6b c6a := by walk_at "c2"
include T in
theorem b1J(F:Fun K c6g c6g a2v f fd):J9 P w K mg base CX0 1 f fd a4D (a1C K):=fk F b1A fun _ _ _ _ _ _ hr nd=>b9 (o5 (a7o a8P rfl (a2a rfl T.a0K (l9 (b6 0))) (fun _ _ _ _ _=>b4B (C8 (C5 hr) (i9 o4 rfl T.L5 j7 (l9 (b6 1))) b7)) (fun _ _ _ _ _=>b6 0)))
variable(a2K:D4 P w K mg base 1 c6g a4D (a1C K))
abbrev a2H:List Str:=[c6e]
theorem a8H:z8 [c6e,"begun","ending",c6b] a2H (i8 a2B):=by walk_at "sc"
include T a2l a5t a2K in
theorem a8L(F:Fun K c6h c6h a2B f fd):J9 P w K mg base CX0 2 f fd a2H (a0w K):=fk F a8H fun _ _ _ _ _ _ hr nd=>b4 (u6 1 nd (q9 a2l hr (C1 (F6 (l9 b7)) (b6 0)))) (b4 (u6 2 nd (q9 a2l hr (C1 (q9 a2K hr (l9 (b6 0))) (q9 a5t hr (l9 (b6 0)))))) (b9 (F0 PassesOwn.never rfl (F9 rfl T.W0 (l9 (i9 o4 rfl T.L5 j7 (l9 (b6 0))))) (J0 3 nd) (b9 (u9 (Q3 (a0X (a0D hr (b6 3) (b6 1) rfl) (a0d (a0D hr (b6 3) (b6 2) rfl)))) (b9 a1k) k9)))))
variable(a1d:D4 P w K mg base 2 c6h a2H (a0w K))
abbrev a4E:List Str:=[c6e]
theorem b1B:z8 [c6e,"steps",c6b,c6a] a4E (i8 a2w):=by walk_at "sc"
theorem a8Q:M9 [c6e,"steps",c6b,c6a] (i8 a2w) (scF [ (".0",.local),("at",.local),(c6b,.free)]) "at" := by walk_at "c0"
include T in
theorem b1K(F:Fun K c6i c6i a2w f fd):J9 P w K mg base CX0 1 f fd a4E (a1D K c):=fk F b1B fun _ _ _ _ _ _ hr nd=>b4 (u6 1 nd (F6 (l9 (S8 T.a2W rfl)))) (b4 (F0 PassesOwn.never rfl (a2a rfl T.a0K (l9 (b6 0))) (a3m rfl (S0 (J0 2 nd) (S0 (J0 3 nd) a2b))) (b9 (O6 (a2q E8 b0V b0U a4U (b6 1) (l9 (N5 a8Q rfl (F9 rfl T.W0 (l9 (i9 o4 rfl T.L5 j7 (l9 (b6 3))))) (fun _ _ _ _ _=>E5) (fun _ _ _ _ _=>Q4 (C1 (b6 3) (b6 0))))))))) (b9 (o5 (b6 1))))
variable(a2L:D4 P w K mg base 1 c6i a4E (a1D K c))
abbrev a0O:List Str:=["self","step"]
theorem a5U:z8 ["self","step"] a0O (i8 a0M):=by walk_at "sc"
include T in
theorem a6h(F:Fun K "leads_to" "Plan.leads_to" a0M f fd):J9 P w K mg base CX0 1 f fd a0O (X4 K c):=fk F a5U fun _ _ _ _ _ _ hr nd=>b4 (u9 (a1e (b4I hr) (b6 1) (S8 T.a2W rfl) (a3C _)) (b9 (o5 b7)) k9) (b9 (o5 (o9 (o9 (Y1 (b6 0)) (o9 (b6 1) b7)) (o9 (b6 1) b7))))
variable(Y9:a7e P w K mg base 1 "leads_to" c.P4 a0O (X4 K c))
abbrev a3B:List Str:=["self",c6d,c6e]
theorem a9V:z8 ["self",c6d,c6e,"step"] a3B (i8 Z7):=by walk_at "sc"
theorem a8p:M9 ["self",c6d,c6e,"step"] (i8 Z7) (scF [ (".0",.local),("row",.local),("is_row",.globalImplicit)]) "row" := by walk_at "c0"
theorem a8o:M9 ["self",c6d,c6e,"step"] (i8 Z7) (scF [ (".0",.local),(c6a,.local),("list",.globalImplicit)]) c6a := by walk_at "c0"
theorem a8n:M9 ["self",c6d,c6e,"step"] (i8 Z7) (scF [(".0",.local),("row",.local)]) "row" := by walk_at "c0"
include T a0l a5x U7 a0z a1d a2L Y9 in
theorem b0j(F:Fun K c5t "Plan.__init__" Z7 f fd):J9 P w K mg base CX0 6 f fd a3B (a1c K c):=fk F a9V fun _ _ _ _ _ _ hr nd=>b4 (O6 (q9 a0l hr (a3o (b6 1) b7 b7))) (b4 (O6 (q9 U7 hr (l9 (N5 a8p rfl (D7 (b6 1)) (fun _ _ _ _ _=>E5) (fun _ _ _ _ _=>q9 a5x hr (l9 (b6 0))))))) (b4 (O6 (q9 a0z hr (C1 (b6 1) (b6 2)))) (b4 (O6 (q9 a1d hr (l9 (b6 2)))) (b4 (a7l (b6 0) (Q5 X1 rfl T.a0R A2 (l9 (b6 1)))) (b4 (a7l (b6 0) (N5 a8o rfl (D7 (b6 2)) (fun _ _ _ _ _=>E5) (fun _ _ _ _ _=>Q5 X1 rfl T.a0R A2 (l9 (b6 0))))) (b4 (a7l (b6 0) (N5 a8n rfl (D7 (b6 1)) (fun _ _ _ _ _=>E5) (fun _ _ _ _ _=>F6 Y2))) (b9 (F0 PassesOwn.never rfl (D7 (q9 a2L hr (l9 (Y1 (b6 0))))) (J0 3 nd) (b9 (O6 (a2q E8 Z4 Z3 a0Y (o9 (Y1 (b6 0)) (b6n Y9 hr (by decide) (b6 0) (l9 (b6 3)))) (l9 (b6 3)))))))))))))
variable(b0k:b2v P w K mg base 6 "Plan" c.P4 a3B (a1c K c))
abbrev b3o:List Str:=[c5R,c5C]
theorem b8P:z8 [c5R,c5C] b3o (i8 b0a):=by walk_at "sc"
theorem b5F:M9 [c5R,c5C] (i8 b0a) (scF [ (".0",.local),(c5z,.local),("list",.globalImplicit)]) c5z := by walk_at "c0"
include T b0k in
theorem b9T(F:Fun K c6j c6j b0a f fd):J9 P w K mg base CX0 8 f fd b3o (a6X K c):=fk F b8P fun _ _ _ _ _ _ hr nd=>b9 (o5 (c1l b0k hr (C1 (Q5 X1 rfl T.a0R A2 (l9 (b6 0))) (N5 b5F rfl (D7 (b6 1)) (fun _ _ _ _ _=>E5) (fun _ _ _ _ _=>Q5 X1 rfl T.a0R A2 (l9 (b6 0)))))))
variable(b0H:D4 P w K mg base 8 c6j b3o (a6X K c))
abbrev a7W:List Str:=[c6k,"_law_known"]
theorem b4V:z8 [c6k,"_law_known",c5P,"_law_after",c5H] a7W (i8 a7K):=by walk_at "sc"
include T in
theorem b5j(F:Fun K c6l c6l a7K f fd):J9 P w K mg base CX0 1 f fd a7W (a3S K):=fk F b4V fun _ _ _ _ _ _ hr nd=>b4 (u6 2 nd a0E) (b4 (u9 (a1e a1m (o9 (b6 0) b7) (F6 (a3o w6 w6 w6)) rfl) (b9 (u6 2 nd (o9 (b6 0) b7))) k9) (b4 (u6 3 nd a0s) (b4 (a9a PassesOwn.never rfl (b6 1) (J0 4 nd) (b9 (u9 (Q3 (a0C (C8 (a2d hr) (b6 4) (b6 2)) (Z6 (C8 (a2d hr) (a2c hr (b6 1) (b6 4) (fun _ _=>rfl)) (b6 2))))) (b9 (W9 hr (b6 3) (b6 4) (a2c hr (b6 1) (b6 4) (fun _ _=>rfl)))) k9))) (b4 (u9 (Q3 (a0C (C8 (C5 hr) (o9 (b6 0) b7) w6) (Z6 (C8 (a2d hr) (o9 (b6 0) b7) (b6 2))))) (b9 (W9 hr (b6 3) (b6 2) (o9 (b6 0) b7))) k9) (b9 (o5 (b6 3)))))))
variable(a5y:D4 P w K mg base 1 c6l a7W (a3S K))
abbrev b3q:List Str:=[c5H,"_law_other"]
theorem b8R:z8 [c5H,"_law_other","_law_alike",c5P] b3q (i8 b3c):=by walk_at "sc"
include T in
theorem b9V(F:Fun K c6m c6m b3c f fd):J9 P w K mg base CX0 1 f fd b3q (a5b K):=fk F b8R fun _ _ _ _ _ _ hr nd=>b4 (u6 2 nd a0s) (b4 (a9a PassesOwn.never rfl (b6 0) (J0 3 nd) (b9 (u9 (Q3 (a0C (a7k hr (b6 3) (b6 1) rfl) (Z6 (C8 (C5 hr) (a2c hr (b6 0) (b6 3) (fun _ _=>rfl)) (a2c hr (b6 1) (b6 3) (fun _ _=>rfl)))))) (b9 (W9 hr (b6 2) (b6 3) (a2c hr (b6 0) (b6 3) (fun _ _=>rfl)))) k9))) (b9 (o5 (b6 2))))
variable(b0J:D4 P w K mg base 1 c6m b3q (a5b K))
abbrev a4F:List Str:=[c5R,c5C]
theorem b1C:z8 [c5R,c5C,"_law_state","_law_changed",c5A,"_law_after",c5H,"_law_merged"] a4F (i8 a2y):=by walk_at "sc"
theorem a8R:M9 [c5R,c5C,"_law_state","_law_changed",c5A,"_law_after",c5H,"_law_merged"] (i8 a2y) (scF [(".0",.local),(c6k,.local)]) c6k := by walk_at "c0"
include T a5y b0J in
theorem b1L(F:Fun K c6n c6n a2y f fd):J9 P w K mg base CX0 2 f fd a4F (a1E K):=fk F b1C fun _ _ _ _ _ _ hr nd=>b4 (a0e (n:=2) nd rfl rfl a8R rfl (D7 (b6 0)) (fun _ _ _ _ _=>E5) (fun _ _ _ _ _=>a0E)) (b4 (a1X a0s (a3n (b6 2) b7 a3N)) (b4 (u6 3 nd U4) (b4 (a4t PassesOwn.never (N9 (b6 3)) (b4 (u6 3 nd U4) (b9 (F0 PassesOwn.never rfl (F9 rfl T.W0 (l9 (i9 o4 rfl T.L5 j7 (l9 (b6 0))))) (J0 4 nd) (b9 (u9 (C8 a6x (o9 (b6 2) (b6 4)) a0E) (b4 (u6 5 nd (q9 a5y hr (C1 (o9 (b6 0) (b6 4)) (o9 (b6 2) (b6 4))))) (b9 (F0 PassesOwn.never rfl (D7 (o9 (b6 1) (b6 4))) (J0 6 nd) (b4 (u6 7 nd (b6 5)) (b4 (u9 (C8 a6x (o9 (b6 2) (b6 6)) a0E) (b9 (u6 7 nd (q9 b0J hr (C1 (o9 (b6 2) (b6 6)) (b6 5))))) k9) (b9 (u9 (a1e (b4F hr) (b6 7) (o9 (b6 2) (b6 6)) (a3C _)) (b4 (a1X (b6 7) (a3n (b6 2) (b6 6) a3N)) (b9 (u6 3 nd U4))) k9))))))) k9)))))) (b9 (o5 (b6 2))))))
variable(a2M:D4 P w K mg base 2 c6n a4F (a1E K))
abbrev a4G:List Str:=[c5R]
theorem b1D:z8 [c5R,"_law_found",c6k,"_law_words","_law_word"] a4G (i8 a4y):=by walk_at "sc"
include T in
theorem b1M(F:Fun K c6o c6o a4y f fd):J9 P w K mg base CX0 1 f fd a4G (a1F K):=fk F b1D fun _ _ _ _ _ _ hr nd=>b4 (u6 1 nd a0s) (b4 (F0 PassesOwn.never rfl (D7 (b6 0)) (J0 2 nd) (b4 (u6 3 nd (Q5 X1 rfl T.a0R A2 (l9 (a1l a9J (b6 2) (a1Y b7) a1Z)))) (b4 (u9 (C8 (C5 hr) (o9 (b6 2) b7) w6) (b9 (u6 3 nd (F6 (a3o (o9 (b6 2) b7) (o9 (o9 (b6 2) b7) b7) (o9 (o9 (b6 2) b7) b7))))) k9) (b9 (F0 PassesOwn.never rfl (D7 (b6 3)) (J0 4 nd) (b9 (u9 (N9 (i9 J3 rfl T.F5 p5 (C1 (b6 4) (O7 rfl T.b4z a0m rfl)))) (b9 (W9 hr (b6 1) (b6 4) U4)) k9))))))) (b9 (o5 (i9 a8A rfl T.b2y a7g (l9 (Q5 (a4j rfl) rfl T.a0R A2 (l9 (b6 1))))))))
variable(a2N:D4 P w K mg base 1 c6o a4G (a1F K))
abbrev a3z:List Str:=[c6p]
theorem a9T:z8 [c6p,"found","row"] a3z (i8 a3v):=by walk_at "sc"
include T in
theorem b0h(F:Fun K c6q c6q a3v f fd):J9 P w K mg base CX0 1 f fd a3z (a1a K):=fk F a9T fun _ _ _ _ _ _ hr nd=>b4 (u6 1 nd b2G) (b4 (F0 PassesOwn.never rfl (D7 (Y1 (b6 0))) (J0 2 nd) (b9 (u9 (Q3 (a0C (C8 (C5 hr) (o9 (b6 2) b7) w6) (Z6 (C8 (a2d hr) (o9 (b6 2) b7) (o9 (b6 2) b7))))) (b9 (W9 hr (b6 1) (b6 2) U4)) k9))) (b9 (o5 (Q5 (a8B rfl) rfl T.a0R A2 (l9 (b6 1))))))
variable(a1M:D4 P w K mg base 1 c6q a3z (a1a K))
abbrev a7T:List Str:=["row"]
theorem b4S:z8 ["row"] a7T (i8 a7G):=by walk_at "sc"
include T in
theorem b5g(F:Fun K "set_by" "set_by" a7G f fd):J9 P w K mg base CX0 1 f fd a7T (a3P K):=fk F b4S fun _ _ _ _ _ _ hr nd=>b9 (o5 (a4u (a1e a1m (o9 (b6 0) b7) (Q4 (a3o w6 w6 w6)) rfl) (o9 (b6 0) b7) a0E))
variable(a5u:D4 P w K mg base 1 "set_by" a7T (a3P K))
abbrev a6c:List Str:=[c6p,c6b,"come_by","order"]
theorem b2U:z8 [c6p,c6b,"come_by","order","at","target"] a6c (i8 a5W):=by walk_at "sc"
include T in
theorem b3t(F:Fun K "pass_on" "pass_on" a5W f fd):J9 P w K mg base CX0 1 f fd a6c (a1p K):=fk F b2U fun _ _ _ _ _ _ hr nd=>b9 (F0 PassesOwn.never rfl (a2a rfl T.a0K (l9 (o9 (Y1 (b6 0)) (b6 1)))) (a3m rfl (S0 (J0 4 nd) (S0 (J0 5 nd) a2b))) (b9 (u9 (a0D hr (b6 5) (b6 2) rfl) (b4 (W9 hr (b6 2) (b6 5) (Q4 (C1 (b6 1) (b6 4)))) (b9 (O6 (a2q E8 Z4 Z3 a0Y (b6 3) (l9 (b6 5)))))) k9)))
variable(a2m:D4 P w K mg base 1 "pass_on" a6c (a1p K))
abbrev a0N:List Str:=[c6p,"made","broken"]
theorem a5T:z8 [c6p,"made","broken","come_by","order",c6b,"done"] a0N (i8 a0L):=by walk_at "sc"
include T a2m in
theorem a6g(F:Fun K c6r c6r a0L f fd):J9 P w K mg base CX0 2 f fd a0N (X3 K c):=fk F a5T fun _ _ _ _ _ _ hr nd=>b4 (u6 3 nd (a9c (a7m b7 (S8 T.a2W rfl) a9b))) (b4 (u6 4 nd (F6 (l9 b7))) (b4 (F0 PassesOwn.never rfl (F9 rfl T.W0 (l9 (i9 o4 rfl T.L5 j7 (l9 (Y1 (b6 0)))))) (J0 5 nd) (b9 (u9 (N9 (o9 (b6 2) (b6 5))) (b9 (O6 (q9 a2m hr (b1h (b6 0) (b6 5) (b6 3) (b6 4))))) k9))) (b4 (u6 6 nd b7) (b4 (a4t PassesOwn.never (C8 a0f (b6 6) (i9 o4 rfl T.L5 j7 (l9 (b6 4)))) (b4 (u6 5 nd (o9 (b6 4) (b6 6))) (b4 (b6j (n:=6) nd rfl (Or.inl rfl) b7 b1k) (b9 (u9 (W5 (N9 (o9 (b6 1) (b6 5)))) (b9 (O6 (q9 a2m hr (b1h (b6 0) (b6 5) (b6 3) (b6 4))))) k9))))) (b9 (o5 (b6 3)))))))
variable(Y8:D4 P w K mg base 2 c6r a0N (X3 K c))
abbrev a0t:List Str:=[c6p,c6s]
theorem a5d:z8 [c6p,c6s,"made","broken"] a0t (i8 U0):=by walk_at "sc"
theorem a4b:M9 [c6p,c6s,"made","broken"] (i8 U0) (scF [ (".0",.local),("row",.local),(c6s,.free)]) "row" := by walk_at "c0"
theorem a4a:M9 [c6p,c6s,"made","broken"] (i8 U0) (scF [ (".0",.local),("row",.local),("set_by",.globalImplicit),(c6s,.free)]) "row" := by walk_at "c0"
include T a5u Y8 in
theorem a5m(F:Fun K c6t c6t U0 f fd):J9 P w K mg base CX0 3 f fd a0t (V8 K c):=fk F a5d fun _ _ _ _ _ _ hr nd=>b4 (a0e (n:=2) nd rfl rfl a4b rfl (D7 (Y1 (b6 0))) (fun _ _ _ _ _=>E5) (fun _ _ _ _ _=>V4 (b4H hr) (b6 0) (b6 2) (a3C _))) (b4 (a0e (n:=3) nd rfl rfl a4a rfl (D7 (Y1 (b6 0))) (fun _ _ _ _ _=>E5) (fun _ _ _ _ _=>K6 (V4 (b4E hr) (b6 0) (b6 2) (a3C _)) (O0 (V4 a1m (q9 a5u hr (l9 (b6 0))) (a1l a9J (b6 2) (a1Y b7) a1Z) rfl)))) (b9 (o5 (q9 Y8 hr (a3o (b6 0) (b6 2) (b6 3))))))
variable(X5:D4 P w K mg base 3 c6t a0t (V8 K c))
abbrev a2F:List Str:=[c6p,c6b,"name"]
theorem a8F:z8 [c6p,c6b,"name",c6s] a2F (i8 a2x):=by walk_at "sc"
include T a1M X5 in
theorem a8J(F:Fun K c6u c6u a2x f fd):J9 P w K mg base CX0 4 f fd a2F (V5 K c):=fk F a8F fun _ _ _ _ _ _ hr nd=>b4 (F0 PassesOwn.never rfl (D7 (q9 a1M hr (l9 (b6 0)))) (J0 3 nd) (b9 (u9 (Q3 (a0C (C8 (C5 hr) (o9 (b6 3) b7) (b6 2)) (Z6 (a0D hr (b6 1) (q9 X5 hr (C1 (b6 0) (b6 3))) rfl)))) (b9 (o5 (o9 (b6 3) b7))) k9))) (b9 (o5 a0E))
variable(a0k:D4 P w K mg base 4 c6u a2F (V5 K c))
abbrev b0g:List Str:=["_law_found","_law_due"]
theorem b6I:z8 ["_law_found","_law_due"] b0g (i8 a9Y):=by walk_at "sc"
include T in
theorem b7B(F:Fun K c6v c6v a9Y f fd):J9 P w K mg base CX0 1 f fd b0g (a2i K):=fk F b6I fun _ _ _ _ _ _ hr nd=>b4 (u9 (C8 b1i (b6 1) a0E) (b9 (o5 (a1Q b1i (b6 0) a0E))) k9) (b4 (u9 (N9 (i9 J3 rfl T.F5 p5 (C1 (b6 1) (O7 rfl T.b4z a0m rfl)))) (b9 (o5 (K6 (i9 J3 rfl T.F5 p5 (C1 (b6 0) (O7 rfl T.b4z a0m rfl))) (O0 (a1Q (C5 hr) (b6 0) (b6 1)))))) k9) (b9 (o5 (K6 (i9 J3 rfl T.F5 p5 (C1 (b6 0) (O7 rfl T.c1f a8W rfl))) (K6 (b1g (i9 J3 rfl T.F5 p5 (C1 (b6 0) (O7 rfl T.b8t a8y rfl)))) (O0 (a1Q (C5 hr) (b6 0) (b6 1))))))))
variable(a5v:D4 P w K mg base 1 c6v b0g (a2i K))
abbrev c0W:List Str:=[c5u]
theorem b6J:z8 [c5u,c5w,c5R,c5C,"_law_plan_here","_law_state","_law_names","_law_begin",c5A,"_law_place",c5P] c0W (i8 b4a):=by walk_at "sc"
include T b4r E3 b0G b0H a2M a2N a0k a5v in
theorem c2I(ck:a4d K c)(F:Fun K "law" "law" b4a f fd):J9 P w K mg base CX0 9 f fd c0W (a7C K):=by
 refine b1l F b6J (fun vs H Q E h=>h.1) (fun cdv A outer s H vs Q E hr h=>⟨b6D K c,?_,h.2 c ck⟩)
 have nd:=b6J.nd
 exact b4 (u6 1 nd (q9 b4r hr (l9 (b6 0)))) (b4 (a1X (q9 b0G hr (l9 (b6 1))) (a3m rfl (S0 (J0 2 nd) (S0 (J0 3 nd) a2b)))) (b4 (u6 4 nd (q9 b0H hr (C1 (b6 2) (b6 3)))) (b4 (u6 5 nd (q9 a2M hr (C1 (b6 2) (b6 3)))) (b4 (u6 6 nd (D6 N6 (q9 a2N hr (l9 (b6 2))) (F6 (l9 w6)))) (b4 (u6 7 nd (q9 E3 hr (C1 (b6 1) (i9 o4 rfl T.L5 j7 (l9 (b6 2)))))) (b4 (F0 PassesOwn.never rfl (F9 rfl T.W0 (l9 (i9 o4 rfl T.L5 j7 (l9 (b6 2))))) (J0 8 nd) (b4 (u6 9 nd (D6 X0 (D6 N6 (b6 7) (b6 8)) (i9 o4 rfl T.L5 j7 (l9 (b6 2))))) (b9 (F0 PassesOwn.never rfl (D7 (b6 6)) (J0 10 nd) (b9 (u9 (W5 (N9 (q9 a5v hr (C1 (q9 a0k hr (a3o (b6 4) (b6 9) (b6 10))) (a7n hr (o9 (b6 5) (b6 9)) (b6 10)))))) (b9 (o5 U4)) k9)))))) (b4 (F0 PassesOwn.never rfl (F9 rfl T.W0 (l9 b7)) (J0 8 nd) (b4 (u6 9 nd (q9 E3 hr (C1 (b6 1) (i9 o4 rfl T.L5 j7 (l9 (b6 2)))))) (b4 (u6 10 nd (o9 (b6 6) (q9 E3 hr (C1 (b6 1) (i9 o4 rfl T.L5 j7 (l9 (b6 6))))))) (b9 (u9 (W5 (N9 (q9 a5v hr (C1 (q9 a0k hr (a3o (b6 4) (b6 9) (b6 10))) (a7n hr (o9 (b6 5) (b6 9)) (b6 10)))))) (b9 (o5 U4)) k9))))) (b9 (o5 (K6 (V4 (a9d hr) (Y1 (b6 4)) (b6 2) (a3C _)) (O0 (V4 (a9d hr) (Y1 (b6 4)) (b6 3) (a3C _)))))))))))))
end
end
structure ClF(K:Fg)(y:Str)(C:Addr):Prop where
 y:v9 K t5 y=some (some (.ref C))
 pg:a0J K C Str.empty=true
 hd:a1V K C=true
 po:a6u K C=true
 sa:C6 K (.ref C) "__setattr__" = some (some (.builtin "object.__setattr__"))
 mm:a3h K C=true
 kc:P7 K (.ref C)=true
abbrev pm0:Value:=(.str "law_oncedone_k83_stands_for" 596)
abbrev pm1:Value:=(.str "oncedone.checks" 382)
abbrev pm2:Value:=(.str "oncedone.words" 194)
abbrev pm3:Value:=(.str "oncedone.plans" 412)
abbrev pm4:Value:=(.str "oncedone.copies" 569)
abbrev pm5:Value:=(.str "oncedone.deeds" 253)
abbrev pm6:Value:=(.str "oncedone.ready" 542)
theorem c3k{l:PySem.W.OpenLaw}{w:World}{K:Fg}{h:Heap}{mg:Str->Option Value}{fa:Addr}(X:K.In h)(G:h.Ns t5 mg)(hfa:mg "law" = some (.ref fa))
  (y_Plan:ClF K "Plan" 276)
  (Z1:C6 K (.ref 276) "entries" = some none)
  (T0:C6 K (.ref 276) c6e = some none)
  (R5:C6 K (.ref 276) c6d = some none)
  (y_DEED_KINDS:v9 K t5 "DEED_KINDS" = some (some (.ref 22))) (l_DEED_KINDS:K.lookup 22=some ⟨.type "tuple",none,.seq (([(.str "plus" 204),(.str "minus" 205),(.str "times" 206),(.str "less" 207),(.str "same" 208)]:List Value).toArray) 0,#[]⟩)
  (y_FIRST_STEP:v9 K t5 "FIRST_STEP" = some (some (.ref 180))) (l_FIRST_STEP:K.lookup 180=some ⟨.type "tuple",none,.seq (([(.int (-1) 415),(.int (0) 416)]:List Value).toArray) 0,#[]⟩)
  (x0:FnG K c5v b4d 318 pm0 (.ref 317))
  (x1:FnG K c5y b2Z 325 pm0 (.ref 324))
  (x2:FnG K c5B a9Z 342 pm0 (.ref 341))
  (x3:FnG K c5D b6O 332 pm0 (.ref 331))
  (x4:FnG K c5J a2j 337 pm0 (.ref 336))
  (x5:FnG K c5L a5X 349 pm0 (.ref 348))
  (x6:FnG K c5N b3b 356 pm0 (.ref 355))
  (x7:FnG K c5Q b6K 363 pm0 (.ref 362))
  (x8:FnG K c5S a7H 368 pm0 (.ref 367))
  (x9:FnG K c5T a1q 172 pm1 (.ref 171))
  (x10:FnG K "is_name" a3T 41 pm2 (.ref 40))
  (x11:FnG K c5V a4z 29 pm2 (.ref 28))
  (x12:FnG K c5W a4A 36 pm2 (.ref 35))
  (x13:FnG K c5X a2z 48 pm2 (.ref 47))
  (x14:FnG K "is_deed" a5Y 55 pm2 (.ref 54))
  (x15:FnG K "is_row" a7I 62 pm2 (.ref 61))
  (x16:FnG K c5Y a2C 179 pm1 (.ref 178))
  (x17:FnG K c5Z a4B 165 pm1 (.ref 164))
  (x18:FnG K c6c a1I 185 pm3 (.ref 184))
  (x19:FnG K c6f a0x 190 pm3 (.ref 189))
  (x20:FnG K "reached" a5V 207 pm3 (.ref 206))
  (x21:FnG K "turned" a5f 200 pm3 (.ref 199))
  (x22:FnG K c6g a2v 195 pm3 (.ref 194))
  (x23:FnG K c6h a2B 214 pm3 (.ref 213))
  (x24:FnG K c6i a2w 219 pm3 (.ref 218))
  (x25:FnM K 276 "leads_to" "Plan.leads_to" a0M 245 pm3 (.ref 244))
  (x26:FnM K 276 c5t "Plan.__init__" Z7 231 pm3 (.ref 230))
  (x27:FnG K c6j b0a 373 pm0 (.ref 372))
  (x28:FnG K c6l a7K 387 pm0 (.ref 386))
  (x29:FnG K c6m b3c 394 pm0 (.ref 393))
  (x30:FnG K c6n a2y 399 pm0 (.ref 398))
  (x31:FnG K c6o a4y 380 pm0 (.ref 379))
  (x32:FnG K c6q a3v 301 pm4 (.ref 300))
  (x33:FnG K "set_by" a7G 69 pm5 (.ref 68))
  (x34:FnG K "pass_on" a5W 287 pm6 (.ref 286))
  (x35:FnG K c6r a0L 294 pm6 (.ref 293))
  (x36:FnG K c6t U0 306 pm4 (.ref 305))
  (x37:FnG K c6u a2x 313 pm4 (.ref 312))
  (x38:FnG K c6v a9Y 406 pm0 (.ref 405))
  (x39:FnG K "law" b4a 413 pm0 (.ref 412))
  (z_abs:v9 K t5 "abs" = some none)
  (z_all:v9 K t5 "all" = some none)
  (z_any:v9 K t5 "any" = some none)
  (z_bool:v9 K t5 "bool" = some none)
  (z_enumerate:v9 K t5 "enumerate" = some none)
  (z_int:v9 K t5 "int" = some none)
  (z_isinstance:v9 K t5 "isinstance" = some none)
  (z_len:v9 K t5 "len" = some none)
  (z_list:v9 K t5 "list" = some none)
  (z_min:v9 K t5 "min" = some none)
  (z_range:v9 K t5 "range" = some none)
  (z_sorted:v9 K t5 "sorted" = some none)
  (z_str:v9 K t5 "str" = some none)
  (z_tuple:v9 K t5 "tuple" = some none)
  (z_zip:v9 K t5 "zip" = some none)
  (y_BOUND:v9 K t5 "BOUND" = some (some (.int (1000000000000) 196)))
  (y_FIGURES:v9 K t5 "FIGURES" = some (some (.str "0123456789" 200)))
  (y_LETTERS:v9 K t5 "LETTERS" = some (some (.str "abcdefghijklmnopqrstuvwxyz" 198)))
  (y_LONGEST_NAME:v9 K t5 "LONGEST_NAME" = some (some (.int (8) 202)))
  (y_MOST:v9 K t5 "MOST" = some (some (.int (400) 384)))
  : ∃fd:W3,(∀(s:g7) (v:Value),b6h s fd ⟨[v],[]⟩ [(c5u,v)])/\∀base:Heap,K.In base->base.Ns t5 mg->J9 l.prog w K mg base CX0 9 fa fd [c5u] (a7C K):=by
 have e:=hfa.symm.trans (O8 X G x39.a)
 cases e
 let c:Cn:=⟨276,22,180⟩
 have ck:a4d K c:=⟨⟨y_Plan.pg,y_Plan.hd,y_Plan.po,y_Plan.sa⟩,Z1,T0,R5,fun H=>.inr ⟨_,([(.str "plus" 204),(.str "minus" 205),(.str "times" 206),(.str "less" 207),(.str "same" 208)]:List Value).toArray,0,l_DEED_KINDS,rfl,rfl,by decide,.cons ⟨_,rfl⟩ ( .cons ⟨_,rfl⟩ ( .cons ⟨_,rfl⟩ ( .cons ⟨_,rfl⟩ ( .cons ⟨_,rfl⟩ ( .nil)))))⟩,fun H=>.inr ⟨_,([(.int (-1) 415),(.int (0) 416)]:List Value).toArray,0,l_FIRST_STEP,rfl,rfl,by decide,.cons ⟨_,rfl⟩ ( .cons ⟨_,rfl⟩ ( .nil))⟩⟩
 have T:Txt K mg c:=⟨A9 X G z_abs,A9 X G z_all,A9 X G z_any,A9 X G z_bool,A9 X G z_enumerate,A9 X G z_int,A9 X G z_isinstance,A9 X G z_len,A9 X G z_list,A9 X G z_min,A9 X G z_range,A9 X G z_sorted,A9 X G z_str,A9 X G z_tuple,A9 X G z_zip,⟨_,O8 X G y_BOUND,⟨_,rfl⟩⟩,⟨_,O8 X G y_DEED_KINDS,rfl⟩,⟨_,O8 X G y_FIGURES,⟨_,rfl⟩⟩,⟨_,O8 X G y_FIRST_STEP,rfl⟩,⟨_,O8 X G y_LETTERS,⟨_,rfl⟩⟩,⟨_,O8 X G y_LONGEST_NAME,⟨_,rfl⟩⟩,⟨_,O8 X G y_MOST,⟨_,rfl⟩⟩⟩
 refine⟨fdM "law" "law" b4a pm0 (.ref 412),fun s v=>.of_eq rfl,fun base _ _=>?_⟩
 have b4r:=mkC X G x0 (c2J (P:=l.prog) (w:=w) (base:=base) T x0.i.F) fun _ _ _ _ _ _ _=>rfl
 have E3:=mkC X G x1 (b9Q (P:=l.prog) (w:=w) (base:=base) T x1.i.F) fun _ _ _ _ _ _ _ _=>rfl
 have b0F:=mkC X G x2 (b9R T E3 x2.i.F) fun _ _ _ _ _ _ _=>rfl
 have b4q:=mkC X G x3 (c2H T E3 x3.i.F) fun _ _ _ _ _ _ _ _=>rfl
 have a5w:=mkC X G x4 (b5h (P:=l.prog) (w:=w) (base:=base) T x4.i.F) fun _ _ _ _ _ _ _=>rfl
 have V7:=mkC X G x5 (b3u T E3 x5.i.F) fun _ _ _ _ _ _ _ _=>rfl
 have b0I:=mkC X G x6 (b9U T E3 V7 x6.i.F) fun _ _ _ _ _ _ _ _=>rfl
 have b4p:=mkC X G x7 (c2G T E3 V7 x7.i.F) fun _ _ _ _ _ _ _ _ _ _=>rfl
 have b0G:=mkC X G x8 (b9S T E3 b0F b4q a5w b0I b4p x8.i.F) fun _ _ _ _ _ _ _=>rfl
 have a0l:=mkC X G x9 (a6R (P:=l.prog) (w:=w) (base:=base) T x9.i.F) fun _ _ _ _ _ _ _ _ _=>rfl
 have X6:=mkC X G x10 (b3v (P:=l.prog) (w:=w) (base:=base) T x10.i.F) fun _ _ _ _ _ _ _=>rfl
 have Z2:=mkC X G x11 (b1N (P:=l.prog) (w:=w) (base:=base) T x11.i.F) fun _ _ _ _ _ _ _=>rfl
 have a2O:=mkC X G x12 (b1O T Z2 x12.i.F) fun _ _ _ _ _ _ _=>rfl
 have O4:=mkC X G x13 (a8K T X6 a2O x13.i.F) fun _ _ _ _ _ _ _=>rfl
 have a3X:=mkC X G x14 (b3w T O4 x14.i.F) fun _ _ _ _ _ _ _=>rfl
 have a5x:=mkC X G x15 (b5i T X6 O4 a3X x15.i.F) fun _ _ _ _ _ _ _=>rfl
 have U7:=mkC X G x16 (a8M (P:=l.prog) (w:=w) (base:=base) T x16.i.F) fun _ _ _ _ _ _ _=>rfl
 have a2P:=mkC X G x17 (b1P T Z2 x17.i.F) fun _ _ _ _ _ _ _ _=>rfl
 have a1N:=mkC X G x18 (b0i T a2P x18.i.F) fun _ _ _ _ _ _ _ _ _=>rfl
 have a0z:=mkC X G x19 (a7X T U7 a1N x19.i.F) fun _ _ _ _ _ _ _ _=>rfl
 have a2l:=mkC X G x20 (b3s (P:=l.prog) (w:=w) (base:=base) T x20.i.F) fun _ _ _ _ _ _ _ _=>rfl
 have a5t:=mkC X G x21 (b5f (P:=l.prog) (w:=w) (base:=base) T x21.i.F) fun _ _ _ _ _ _ _=>rfl
 have a2K:=mkC X G x22 (b1J (P:=l.prog) (w:=w) (base:=base) T x22.i.F) fun _ _ _ _ _ _ _=>rfl
 have a1d:=mkC X G x23 (a8L T a2l a5t a2K x23.i.F) fun _ _ _ _ _ _ _=>rfl
 have a2L:=mkC X G x24 (b1K (P:=l.prog) (w:=w) (base:=base) T x24.i.F) fun _ _ _ _ _ _ _=>rfl
 have Y9:=mkM x25 ck.R7 (a6h (P:=l.prog) (w:=w) (base:=base) T x25.i.F) fun _ _ _ _ _ _ _ _=>rfl
 have b0k:=mkK X G x26 y_Plan.y y_Plan.mm y_Plan.kc (b0j T a0l a5x U7 a0z a1d a2L Y9 x26.i.F) fun _ _ _ _ _ _ _ _ _=>rfl
 have b0H:=mkC X G x27 (b9T T b0k x27.i.F) fun _ _ _ _ _ _ _ _=>rfl
 have a5y:=mkC X G x28 (b5j (P:=l.prog) (w:=w) (base:=base) T x28.i.F) fun _ _ _ _ _ _ _ _=>rfl
 have b0J:=mkC X G x29 (b9V (P:=l.prog) (w:=w) (base:=base) T x29.i.F) fun _ _ _ _ _ _ _ _=>rfl
 have a2M:=mkC X G x30 (b1L T a5y b0J x30.i.F) fun _ _ _ _ _ _ _ _=>rfl
 have a2N:=mkC X G x31 (b1M (P:=l.prog) (w:=w) (base:=base) T x31.i.F) fun _ _ _ _ _ _ _=>rfl
 have a1M:=mkC X G x32 (b0h (P:=l.prog) (w:=w) (base:=base) T x32.i.F) fun _ _ _ _ _ _ _=>rfl
 have a5u:=mkC X G x33 (b5g (P:=l.prog) (w:=w) (base:=base) T x33.i.F) fun _ _ _ _ _ _ _=>rfl
 have a2m:=mkC X G x34 (b3t (P:=l.prog) (w:=w) (base:=base) T x34.i.F) fun _ _ _ _ _ _ _ _ _ _=>rfl
 have Y8:=mkC X G x35 (a6g T a2m x35.i.F) fun _ _ _ _ _ _ _ _ _=>rfl
 have X5:=mkC X G x36 (a5m T a5u Y8 x36.i.F) fun _ _ _ _ _ _ _ _=>rfl
 have a0k:=mkC X G x37 (a8J T a1M X5 x37.i.F) fun _ _ _ _ _ _ _ _ _=>rfl
 have a5v:=mkC X G x38 (b7B (P:=l.prog) (w:=w) (base:=base) T x38.i.F) fun _ _ _ _ _ _ _ _=>rfl
 exact c2I T b4r E3 b0G b0H a2M a2N a0k a5v ck x39.i.F
theorem walk{l:PySem.W.OpenLaw}{q:v8}{loose:List Str}{XP:(Str->Option Value)->Heap->Prop}{YP:World->Heap->Prop}{d:DefRec}{K:Params->Fg}(hn:l.most=some 63)(hdf:d.params.defaults=[])
  (hY:∀(w:World) (h:Heap),YP w h->(K w.params).In h)
  (F:∀(w:World) (mg:Str->Option Value) (fa:Addr) (h:Heap),(K w.params).In h->h.Ns t5 mg->mg d.name=some (.ref fa) ->
   ∃fd:W3,(∀(s:g7) (u:Value),b6h s fd ⟨[u],[]⟩ [(c5u,u)])/\∀base:Heap,(K w.params).In base->base.Ns t5 mg->J9 l.prog w (K w.params) mg base CX0 9 fa fd [c5u] (a7C (K w.params))) :
  PySem.W.WalkO q loose XP YP l.row.toRowW d [] (fun f vs=>b0T f vs):=
 L2.b8C (n:=63) (k:=9) (x := c5u) (CX:=fun _=>CX0) (sp:=fun w=>a7C (K w.params)) hn (by decide) hdf ⟨rfl,by decide,by decide⟩ hY F (fun _ _ a ns hl hO hS=>RD.law_reading _ hl hO hS) fun _ _ _ _ _ z=>z
end PR
open PySem PySem.W PyProof.Rows
set_option maxRecDepth 100000 in
set_option maxHeartbeats 0 in
theorem PySem.Challenge.cw_oncedone_k83_stands_for_holds : PySem.Challenge.rw_oncedone_k83_stands_for.Holds := by
 refine HD.fin fun d hd hdf=>PR.walk (l:=HD.row) (K:=HD.K) rfl hdf (fun w h Y=>PySem.W.kIn_of Y) ?F
 intro w mg fa h KX G hmg
 rw[hd]at hmg
 apply PR.c3k KX G hmg <;> first | kernel_rfl | exact⟨⟨by kernel_rfl,by kernel_rfl,by kernel_rfl⟩,by kernel_rfl⟩ | exact⟨⟨by kernel_rfl,by kernel_rfl,by kernel_rfl⟩,by kernel_rfl,by kernel_rfl⟩ | exact⟨by kernel_rfl,by kernel_rfl,by kernel_rfl,by kernel_rfl,by kernel_rfl,by kernel_rfl,by kernel_rfl⟩
