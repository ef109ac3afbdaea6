import PyProof.Rows.All
import KE.KEqDict
import KE.KDictList
import KE.KIsAll
import KE.KDictOf
import KE.KItem
import Lean
import PySem.Challenge.RW_oncedone_k84_forwarded
open Array renaming getElem?_toList->L7,length_toList->Z7,getElem?_eq_getElem->a2t
open Bool renaming false_ne_true->l9,eq_iff_iff->L4,and_eq_true->Q3,not_eq_true'->a0I,false_eq_true->a7s,not_false->b1z,true_and->b2Y,and_eq_true_iff->b6z,false_and->c4m,or_false->c5t,not_true->c5u,false_or->c5v,and_true->c5w
open Int renaming toNat_natCast->u4,eq_ofNat_of_zero_le->O7,emod_lt_of_pos->R5,emod_nonneg->T7,zero_add->U1,toNat->b4W
open List renaming length_map->a8,getElem?_map->b8,mem_cons->c8,getElem?_eq_getElem->d8,mem_singleton->f6,size_toArray->j4,not_mem_nil->j7,getElem?_eq_some_iff->k9,mem_append->o8,length_append->o9,mem_append_right->t6,replicate->u0,mem_map->u8,getElem?_append_left->v8,length_cons->v9,range->y9,length_replicate->z9,mem_append_left->A5,map_append->B9,mem_cons_of_mem->C3,getElem_mem->C9,mem_cons_self->D0,length_singleton->D3,lookup_cons->D4,mem_iff_getElem?->E4,take_add_one->E6,getElem?_replicate->F0,getElem?_append_right->F2,map_cons->F3,getElem?_set_self->F7,mem_filter->J7,length_take->J8,getElem?_set_ne->J9,getD->L0,nodup_cons->L3,length_filter_le->M0,take_length->M7,all_eq_true->M8,nodup_append->O5,map_congr_left->O9,any_cons->P9,all_cons->Q0,find?_cons->T4,mem_of_getElem?->T6,mem_range->U7,map_map->V8,map_inj_right->V9,length_set->W3,range_succ->a0q,take_of_length_le->a0H,any_eq_true->a1d,replicate_succ'->a1o,lookup->a1p,append_nil->a1G,filter_append->a2f,length_range->a3b,length_erase_of_mem->a3n,getElem?_cons_zero->a3q,length_pos_of_mem->a4j,length_nil->a4s,nodup_nil->a5l,getElem?_range->a6e,filter_sublist->a6f,filterMap_cons->a6g,mem_filterMap->a7r,take_sublist->a7L,map_nil->a7M,length_drop->a9g,length->a9A,of_mem_zip->b0d,idxOf_lt_length_iff->b2X,all_nil->b4V,mem_erase_of_ne->b6x,map_id->b6y,length_pos_iff->b8W,getElem?_inj->c1i,sum_append->c4d,idxOf_cons->c4e,forIn_cons->c4f
open Nat renaming le_refl->d9,ne_of_lt->u7,lt_of_lt_of_le->v7,le_trans->A9,lt_irrefl->E2,zero_le->L5,le_add_right->a3T,ne_of_gt->b6p,lt_trans->b6q,le_of_lt->b6r,le_succ->b8V,lt_succ_self->c4c
open Option renaming map_eq_some_iff->l6,isSome_iff_exists->T5,getD_some->a3m,map_some->a3S,isSome_map->a7q,getD_none->b8Y
open PyProof.Rows renaming boot_isinstance->y8,boot_list->C7,callWith_type1->V2,slot_tuple_getitem->a0d,boot_tuple->a9c,boot_str->a9y,boot_all->a9z,AllBare->b0g,envOfC->b1B,subscriptTail->c1O,IntsAre->c1Q,subscriptTail_builtinR->c4j
open PySem renaming wpAny_bind->c5,starEach->g7,Shared->g9,boot_len->j9,sizeLine->l7,wpAny_pure->o0,compareOp->p9,mainGlobals->t5,Program->w4,mem_of_lookup->z8,Around->F8,wpAny_truthy_bool->I0,foldedSetIterable->K9,behindInMarks->M3,wpAny_newObj_type->O2,sysModules->T0,wpAny_mono->U6,backTo->U8,attributeBase->U9,binaryOp->W1,FuncData->W2,wpAny_typeNameOfWhole_keyiter->Y3,wpAny_passesOwn->a0e,bootBuiltins->a0f,DictEntry->a0g,assignEach->a0r,lookup_relabel_local->a0t,tupleKind_room_in1->a1q,swapsWith->a1r,importedModules->a1s,strIterType->a1X,keywordEach->a1Y,sizeLine_eq->a2u,wpAny_call_entry->a2v,sliceBounds->a3r,letOwnedTupleGo->a3s,holding->a3t,wpAny_Call_Name_kw->a4t,NameKind->a4u,wpAny_comprehension_free->a5m,wpAny_holding->a6h,wpAny_callSpecial?_slot->a6i,relabel->a6j,codeAny->a6k,Keyword->a6l,wpAny_execs_nil->a7N,backToKw->a9e,Operator->a9f,assign->a9B,getItem->b0f,call->b1q,tupleKind->b1A,PassesOwn->b1C,wpAny_pyIter_list->b2Z,wpAny_dictEntries->b3a,wpAny_assign_Name->b3b,valueAt->b3c,codeAny_mono->b4t,compEnvC->b6u,wpAny_dictEpoch->b6A,subscripted->b6B,standAt->b6C,getMethod->b6D,callerA->b6E,BindsTo->b6F,call_meets->c1l,PlainAttrs->c1m,IsPart->c1n,wpAny_standAt->c1N,setItem->c1P,codeAny_compStart_list->c4k,wpAny_notOrdered_dict->c4n,wpAny_isTrue_Compare1->c4o,wpAny_isOneOf_keyiter->c4p,seqIndex_neg->c4q,pyNext->c4r,lastMarks->c4s,Result->c4t,wpAny_newFunctionEnv->c5C,wpAny_loadName_local->c5D,wpAny_loadName_cell->c5E,wpAny_field->c5F,seqIndex_of->c5G
open PySem.F renaming plainAttrs_list->E5,type_list_append->Z5,slot_list_append->Z6,slot_dict_get->a3R,slot_NoneType_ne_refl->a7K,type_list_extend->b1s,slot_list_extend->b1t,slot_list_index->b1x,args_dict_get_3->b1y,entry_dict_get->b2W,slot_dict_ne->b4s
open PySem.Heap renaming lt_size->i8,get?_push_of_some->i9,get?_push_size->t9,get?_update_other->b4X,get?_update_self->b6s,size_push->c4l
open PySem.Heap.SameBut renaming update->b1u
open PySem.W renaming nsIn->w6,mg_none_of->A4,findIn->C0,kia_one->J1,emptyDict->K7,mg_of->M6,keepIn->P8,instObj->R7,fnOf->Y2,plainGet->a0R,specialIn->a2d,hasDictIn->a2e,makesIn->a3p,lookIn->a4p,kitOne->a4q,codeIn->a4r,plainGet_of->a5k,callWith_K->a6d,plainOver->a7a,methodObj->a7b,isFn->a7c,takesIn->a9a,takerIn->a9b,mroIn->b1r,cellsFrom_some->b2V,kitx_list->b6v,kitx_dict->b6w,kdl_call->b8T,handedIn->b8U
set_option Elab.async false
set_option linter.all false
set_option maxRecDepth 100000
set_option maxHeartbeats 0
abbrev Fg:=PySem.W.Frag
abbrev Nt:=List (List Nat)
theorem gI{α:Type}{l:List α}{i:Nat}{a:α}(h:l[i]?=some a):i<l.length:=(k9.mp h).1
theorem mI{α:Type}{l:List α}{i:Nat}{a:α}(h:l[i]?=some a):a∈l:=T6 h
theorem c7q{p:Prop}[Decidable p](h:¬p):decide p=false:=decide_eq_false h
theorem c7r{p:Prop}[Decidable p](h:p):decide p=true:=decide_eq_true h
namespace L2
open PySem
def R0(s:Stmt)(j:Nat):Stmt:=match s with
 | .ClassDef _ _ _ body _ _ _ _ _ _ _=>body.getD j (.Pass ⟨0,0,0,0⟩)
 | _=>.Pass ⟨0,0,0,0⟩
def a1S(s:Stmt):Arguments:=match s with
 | .FunctionDef _ a _ _ _ _ _ _ _ _=>a
 | _=>{ posonlyargs:=[],args:=[],vararg:=none,kwonlyargs:=[],kw_defaults:=[],kwarg:=none,defaults:=[] }
def a0m(s:Stmt):List Stmt:=match s with
 | .FunctionDef _ _ b _ _ _ _ _ _ _=>b
 | _=>[]
def g8(s:Stmt):Scope:=match s with
 | .FunctionDef _ _ _ _ _ _ sc _ _ _=>sc
 | _=>{ kind:=.function,names:=[],isGenerator:=false,isCoroutine:=false }
end L2
namespace HD
open PySem PySem.W L2
abbrev P:w4:=PySem.Challenge.pw_oncedone_k84_forwarded
def top(i:Nat):Stmt:=P.main.body.getD i (.Pass ⟨0,0,0,0⟩)
def kE(Q:Params)(n:Str)(t:Nat)(v:Value):a0g:=⟨PyData.keyHash Q n,.str n t,v⟩
def kD(es:List a0g)(n:Nat):Obj:=⟨.type "dict",none,.dict es.toArray n,#[]⟩
def kF(x qual:Str)(st:Stmt)(pm cd:Value):Obj:=⟨.type "function",none,.func (fnOf x qual (a1S st) (a0m st) (g8 st) .none .none .none pm none cd .none),#[]⟩
def kC(n q:Str)(a b c:Nat)(i3 i4 i5 i6 i7:Int)(r8:Nat)(i10:Int)(r11 r13 r14 r15:Nat)(i16 i17:Int)(d:Nat):Obj:=⟨.type "code",none,.fields ([.str n a,.str q b,.str "/claim/cut.py" c,.int i3 0,.int i4 0,.int i5 0,.int i6 0,.int i7 0,.ref r8,.bool true,.int i10 0,.ref r11,.none,.ref r13,.ref r14,.ref r15,.int i16 0,.int i17 0,.str "/claim/cut.py" d]:List Value).toArray,([]:List (Option Value)).toArray⟩
def kN(n q:Str)(a b c:Nat)(i3 i4 i5 i6 i7:Int)(r8:Nat)(i10:Int)(r11 r15:Nat)(i16 i17:Int)(d:Nat):Obj:=⟨.type "code",none,.fields ([.str n a,.str q b,.str "/claim/cut.py" c,.int i3 0,.int i4 0,.int i5 0,.int i6 0,.int i7 0,.ref r8,.bool true,.int i10 0,.ref r11,.none,.none,.none,.ref r15,.int i16 0,.int i17 0,.str "/claim/cut.py" d]:List Value).toArray,([]:List (Option Value)).toArray⟩
abbrev m0:Value:=(.str "__main__" 164)
abbrev m1:Value:=(.str "oncedone.words" 194)
abbrev m2:Value:=(.str "oncedone.deeds" 253)
abbrev m3:Value:=(.str "oncedone.errors" 262)
abbrev m4:Value:=(.str "oncedone.checks" 382)
abbrev m5:Value:=(.str "oncedone.plans" 412)
abbrev m6:Value:=(.str "oncedone.ready" 542)
abbrev m7:Value:=(.str "oncedone.copies" 569)
abbrev m8:Value:=(.str "law_oncedone_k84_forwarded" 607)
def K1(Q:Params):Frag:=[
 (3,kD [kE Q "__name__" 165 (.str "law_oncedone_k84_forwarded" 607),kE Q "__doc__" 166 .none,kE Q "__package__" 167 .none,kE Q "__loader__" 168 (.builtin "__main__.__loader__#opaque"),kE Q "__spec__" 169 .none,kE Q "__annotations__" 170 (.ref 6),kE Q "__builtins__" 171 (.ref 4),kE Q "__file__" 173 (.str "/claim/cut.py" 172),kE Q "__cached__" 174 .none,kE Q "_wall" 193 (.ref 21),kE Q "BOUND" 197 (.int (1000000000000) 196),kE Q "LETTERS" 199 (.str "abcdefghijklmnopqrstuvwxyz" 198),kE Q "FIGURES" 201 (.str "0123456789" 200),kE Q "LONGEST_NAME" 203 (.int (8) 202),kE Q "DEED_KINDS" 209 (.ref 22),kE Q "is_whole" 216 (.ref 29),kE Q "is_value" 223 (.ref 36),kE Q "is_name" 229 (.ref 41),kE Q "is_operand" 236 (.ref 48),kE Q "is_deed" 243 (.ref 55),kE Q "is_row" 252 (.ref 62),kE Q "set_by" 261 (.ref 69),kE Q "OnceError" 281 (.ref 79),kE Q "Wrong" 306 (.ref 99),kE Q "NoThing" 331 (.ref 118),kE Q "TooMany" 356 (.ref 137),kE Q "NoWay" 381 (.ref 156),kE Q "MOST" 385 (.int (400) 384),kE Q "is_below" 393 (.ref 165),kE Q "check_length" 402 (.ref 172),kE Q "check_each" 411 (.ref 179),kE Q "FIRST_STEP" 417 (.ref 180),kE Q "are_nexts" 423 (.ref 185),kE Q "check_nexts" 429 (.ref 190),kE Q "stops_of" 435 (.ref 195),kE Q "turned" 441 (.ref 200),kE Q "reached" 452 (.ref 207),kE Q "check_ways" 462 (.ref 214),kE Q "steps_of" 468 (.ref 219),kE Q "Plan" 541 (.ref 276),kE Q "pass_on" 555 (.ref 287),kE Q "unready_steps" 568 (.ref 294),kE Q "copies_of" 579 (.ref 301),kE Q "places_without" 585 (.ref 306),kE Q "operands_known" 591 (.ref 311),kE Q "forwarded_row" 600 (.ref 318),kE Q "forwarded" 606 (.ref 323),kE Q "_law_bag" 614 (.ref 328),kE Q "_law_take" 627 (.ref 335),kE Q "_law_net" 640 (.ref 342),kE Q "_law_mended" 646 (.ref 347),kE Q "_law_pool" 652 (.ref 352),kE Q "_law_operand" 661 (.ref 359),kE Q "_law_deed" 670 (.ref 366),kE Q "_law_row" 682 (.ref 373),kE Q "_law_plan" 688 (.ref 378),kE Q "_law_made" 694 (.ref 383),kE Q "_law_behind" 705 (.ref 390),kE Q "_law_both" 715 (.ref 397),kE Q "_law_standing" 721 (.ref 402),kE Q "_law_read" 729 (.ref 409),kE Q "_law_row_read" 740 (.ref 416),kE Q "_law_due" 746 (.ref 421),kE Q "_law_right" 756 (.ref 428),kE Q "law" 770 (.ref 435)] 65),
 (20,kC "_wall" "_wall" 187 188 189 1 1 0 0 3 15 181 16 17 18 19 191 1 192),
 (21,kF "_wall" "_wall" (top 0) m0 (.ref 20)),
 (22,⟨(.type "tuple"),none,.seq ([(.str "plus" 204),(.str "minus" 205),(.str "times" 206),(.str "less" 207),(.str "same" 208)]:List Value).toArray 0,([]:List (Option Value)).toArray⟩),
 (28,kC "is_whole" "is_whole" 210 211 212 10 1 0 0 3 23 181 24 25 26 27 214 10 215),
 (29,kF "is_whole" "is_whole" (top 7) m1 (.ref 28)),
 (35,kC "is_value" "is_value" 217 218 219 12 1 0 0 3 30 181 31 32 33 34 221 12 222),
 (36,kF "is_value" "is_value" (top 8) m1 (.ref 35)),
 (40,kN "is_name" "is_name" 224 225 226 14 1 0 0 3 37 181 38 39 227 14 228),
 (41,kF "is_name" "is_name" (top 9) m1 (.ref 40)),
 (47,kC "is_operand" "is_operand" 230 231 232 18 1 0 0 3 42 181 43 44 45 46 234 18 235),
 (48,kF "is_operand" "is_operand" (top 10) m1 (.ref 47)),
 (54,kC "is_deed" "is_deed" 237 238 239 20 1 0 0 3 49 181 50 51 52 53 241 20 242),
 (55,kF "is_deed" "is_deed" (top 11) m1 (.ref 54)),
 (61,kC "is_row" "is_row" 244 245 246 24 1 0 0 3 56 181 57 58 59 60 250 24 251),
 (62,kF "is_row" "is_row" (top 12) m1 (.ref 61)),
 (68,kC "set_by" "set_by" 255 256 257 39 1 0 0 3 63 181 64 65 66 67 259 39 260),
 (69,kF "set_by" "set_by" (top 14) m2 (.ref 68)),
 (78,kD [kE Q "__module__" 271 (.str "oncedone.errors" 262),kE Q "__firstlineno__" 275 (.int (42) 274),kE Q "__static_attributes__" 276 (.ref 77),kE Q "__weakref__" 278 (.ref 80),kE Q "__doc__" 279 .none] 3),
 (79,⟨(.type "type"),none,.cls { name := "OnceError",bases:=[(.type "ValueError")],mro:=[(.ref 79),(.type "ValueError"),(.type "Exception"),(.type "BaseException"),(.type "object")],ns:=78,qualname := "OnceError",hasDict:=true,subclasses:=[(.ref 99),(.ref 118),(.ref 137),(.ref 156)] },([some (.ref 70),none,some (.str "OnceError" 264),some (.str "OnceError" 272),some (.builtin "ValueError.__new__"),some (.bool true)]:List (Option Value)).toArray⟩),
 (95,kC "__init__" "Wrong.__init__" 294 295 296 46 2 0 0 3 90 181 91 92 93 94 299 46 300),
 (96,kF "__init__" "Wrong.__init__" (R0 (top 17) 0) m3 (.ref 95)),
 (98,kD [kE Q "__module__" 289 (.str "oncedone.errors" 262),kE Q "__firstlineno__" 293 (.int (44) 292),kE Q "__init__" 301 (.ref 96),kE Q "__static_attributes__" 303 (.ref 97),kE Q "__doc__" 304 .none] 2),
 (99,⟨(.type "type"),none,.cls { name := "Wrong",bases:=[(.ref 79)],mro:=[(.ref 99),(.ref 79),(.type "ValueError"),(.type "Exception"),(.type "BaseException"),(.type "object")],ns:=98,qualname := "Wrong",hasDict:=true,subclasses:=[] },([some (.ref 83),none,some (.str "Wrong" 282),some (.str "Wrong" 290),some (.builtin "ValueError.__new__"),some (.bool true)]:List (Option Value)).toArray⟩),
 (114,kC "__init__" "NoThing.__init__" 319 320 321 50 2 0 0 3 109 181 110 111 112 113 324 50 325),
 (115,kF "__init__" "NoThing.__init__" (R0 (top 18) 0) m3 (.ref 114)),
 (117,kD [kE Q "__module__" 314 (.str "oncedone.errors" 262),kE Q "__firstlineno__" 318 (.int (48) 317),kE Q "__init__" 326 (.ref 115),kE Q "__static_attributes__" 328 (.ref 116),kE Q "__doc__" 329 .none] 2),
 (118,⟨(.type "type"),none,.cls { name := "NoThing",bases:=[(.ref 79)],mro:=[(.ref 118),(.ref 79),(.type "ValueError"),(.type "Exception"),(.type "BaseException"),(.type "object")],ns:=117,qualname := "NoThing",hasDict:=true,subclasses:=[] },([some (.ref 102),none,some (.str "NoThing" 307),some (.str "NoThing" 315),some (.builtin "ValueError.__new__"),some (.bool true)]:List (Option Value)).toArray⟩),
 (133,kC "__init__" "TooMany.__init__" 344 345 346 54 2 0 0 3 128 181 129 130 131 132 349 54 350),
 (134,kF "__init__" "TooMany.__init__" (R0 (top 19) 0) m3 (.ref 133)),
 (136,kD [kE Q "__module__" 339 (.str "oncedone.errors" 262),kE Q "__firstlineno__" 343 (.int (52) 342),kE Q "__init__" 351 (.ref 134),kE Q "__static_attributes__" 353 (.ref 135),kE Q "__doc__" 354 .none] 2)]
def c3R:List Addr:=[3,20,21,22,28,29,35,36,40,41,47,48,54,55,61,62,68,69,78,79,95,96,98,99,114,115,117,118,133,134,136]
def K2(Q:Params):Frag:=[
 (137,⟨(.type "type"),none,.cls { name := "TooMany",bases:=[(.ref 79)],mro:=[(.ref 137),(.ref 79),(.type "ValueError"),(.type "Exception"),(.type "BaseException"),(.type "object")],ns:=136,qualname := "TooMany",hasDict:=true,subclasses:=[] },([some (.ref 121),none,some (.str "TooMany" 332),some (.str "TooMany" 340),some (.builtin "ValueError.__new__"),some (.bool true)]:List (Option Value)).toArray⟩),
 (152,kC "__init__" "NoWay.__init__" 369 370 371 58 2 0 0 3 147 181 148 149 150 151 374 58 375),
 (153,kF "__init__" "NoWay.__init__" (R0 (top 20) 0) m3 (.ref 152)),
 (155,kD [kE Q "__module__" 364 (.str "oncedone.errors" 262),kE Q "__firstlineno__" 368 (.int (56) 367),kE Q "__init__" 376 (.ref 153),kE Q "__static_attributes__" 378 (.ref 154),kE Q "__doc__" 379 .none] 2),
 (156,⟨(.type "type"),none,.cls { name := "NoWay",bases:=[(.ref 79)],mro:=[(.ref 156),(.ref 79),(.type "ValueError"),(.type "Exception"),(.type "BaseException"),(.type "object")],ns:=155,qualname := "NoWay",hasDict:=true,subclasses:=[] },([some (.ref 140),none,some (.str "NoWay" 357),some (.str "NoWay" 365),some (.builtin "ValueError.__new__"),some (.bool true)]:List (Option Value)).toArray⟩),
 (164,kC "is_below" "is_below" 386 387 388 62 2 0 0 3 159 181 160 161 162 163 391 62 392),
 (165,kF "is_below" "is_below" (top 23) m4 (.ref 164)),
 (171,kC "check_length" "check_length" 394 395 396 64 3 0 0 3 166 181 167 168 169 170 400 64 401),
 (172,kF "check_length" "check_length" (top 24) m4 (.ref 171)),
 (178,kC "check_each" "check_each" 403 404 405 69 1 0 0 3 173 181 174 175 176 177 409 69 410),
 (179,kF "check_each" "check_each" (top 25) m4 (.ref 178)),
 (180,⟨(.type "tuple"),none,.seq ([(.int (-1) 415),(.int (0) 416)]:List Value).toArray 0,([]:List (Option Value)).toArray⟩),
 (184,kN "are_nexts" "are_nexts" 418 419 420 75 3 0 0 3 181 181 182 183 421 75 422),
 (185,kF "are_nexts" "are_nexts" (top 28) m5 (.ref 184)),
 (189,kN "check_nexts" "check_nexts" 424 425 426 80 2 0 0 3 186 181 187 188 427 80 428),
 (190,kF "check_nexts" "check_nexts" (top 29) m5 (.ref 189)),
 (194,kN "stops_of" "stops_of" 430 431 432 84 1 0 0 3 191 181 192 193 433 84 434),
 (195,kF "stops_of" "stops_of" (top 30) m5 (.ref 194)),
 (199,kN "turned" "turned" 436 437 438 86 1 0 0 3 196 181 197 198 439 86 440),
 (200,kF "turned" "turned" (top 31) m5 (.ref 199)),
 (206,kC "reached" "reached" 442 443 444 92 2 0 0 3 201 181 202 203 204 205 450 92 451),
 (207,kF "reached" "reached" (top 32) m5 (.ref 206)),
 (213,kC "check_ways" "check_ways" 453 454 455 101 1 0 0 3 208 181 209 210 211 212 460 101 461),
 (214,kF "check_ways" "check_ways" (top 33) m5 (.ref 213)),
 (218,kN "steps_of" "steps_of" 463 464 465 107 1 0 0 3 215 181 216 217 466 107 467),
 (219,kF "steps_of" "steps_of" (top 34) m5 (.ref 218)),
 (230,kN "__init__" "Plan.__init__" 481 482 483 114 3 0 0 3 227 181 228 229 484 114 485),
 (231,kF "__init__" "Plan.__init__" (R0 (top 35) 0) m5 (.ref 230)),
 (237,kC "steps" "Plan.steps" 487 488 489 125 1 0 0 3 232 181 233 234 235 236 491 125 492),
 (238,kF "steps" "Plan.steps" (R0 (top 35) 1) m5 (.ref 237)),
 (244,kC "leads_to" "Plan.leads_to" 494 495 496 128 2 0 0 3 239 181 240 241 242 243 499 128 500)]
def c1c:List Addr:=[137,152,153,155,156,164,165,171,172,178,179,180,184,185,189,190,194,195,199,200,206,207,213,214,218,219,230,231,237,238,244]
def K3(Q:Params):Frag:=[
 (245,kF "leads_to" "Plan.leads_to" (R0 (top 35) 2) m5 (.ref 244)),
 (251,kC "steps_into" "Plan.steps_into" 502 503 504 133 2 0 0 3 246 181 247 248 249 250 507 133 508),
 (252,kF "steps_into" "Plan.steps_into" (R0 (top 35) 3) m5 (.ref 251)),
 (258,kC "stops" "Plan.stops" 510 511 512 136 1 0 0 3 253 181 254 255 256 257 514 136 515),
 (259,kF "stops" "Plan.stops" (R0 (top 35) 4) m5 (.ref 258)),
 (265,kC "deeds" "Plan.deeds" 517 518 519 139 1 0 0 3 260 181 261 262 263 264 521 139 522),
 (266,kF "deeds" "Plan.deeds" (R0 (top 35) 5) m5 (.ref 265)),
 (272,kC "names" "Plan.names" 524 525 526 142 1 0 0 3 267 181 268 269 270 271 528 142 529),
 (273,kF "names" "Plan.names" (R0 (top 35) 6) m5 (.ref 272)),
 (275,kD [kE Q "__module__" 476 (.str "oncedone.plans" 412),kE Q "__firstlineno__" 480 (.int (112) 479),kE Q "__init__" 486 (.ref 231),kE Q "steps" 493 (.ref 238),kE Q "leads_to" 501 (.ref 245),kE Q "steps_into" 509 (.ref 252),kE Q "stops" 516 (.ref 259),kE Q "deeds" 523 (.ref 266),kE Q "names" 530 (.ref 273),kE Q "__static_attributes__" 534 (.ref 274),kE Q "__dict__" 536 (.ref 277),kE Q "__weakref__" 538 (.ref 278),kE Q "__doc__" 539 .none] 4),
 (276,⟨(.type "type"),none,.cls { name := "Plan",bases:=[(.type "object")],mro:=[(.ref 276),(.type "object")],ns:=275,qualname := "Plan",hasDict:=true,subclasses:=[] },([none,none,some (.str "Plan" 469),some (.str "Plan" 477),some (.builtin "object.__new__"),some (.bool true)]:List (Option Value)).toArray⟩),
 (286,kC "pass_on" "pass_on" 544 545 546 145 4 0 0 3 281 181 282 283 284 285 553 145 554),
 (287,kF "pass_on" "pass_on" (top 37) m6 (.ref 286)),
 (293,kC "unready_steps" "unready_steps" 556 557 558 150 3 0 0 3 288 181 289 290 291 292 566 150 567),
 (294,kF "unready_steps" "unready_steps" (top 38) m6 (.ref 293)),
 (300,kC "copies_of" "copies_of" 571 572 573 164 1 0 0 3 295 181 296 297 298 299 577 164 578),
 (301,kF "copies_of" "copies_of" (top 40) m7 (.ref 300)),
 (305,kN "places_without" "places_without" 580 581 582 170 2 0 0 3 302 181 303 304 583 170 584),
 (306,kF "places_without" "places_without" (top 41) m7 (.ref 305)),
 (310,kN "operands_known" "operands_known" 586 587 588 174 1 0 0 3 307 181 308 309 589 174 590),
 (311,kF "operands_known" "operands_known" (top 42) m7 (.ref 310)),
 (317,kC "forwarded_row" "forwarded_row" 592 593 594 182 2 0 0 3 312 181 313 314 315 316 598 182 599),
 (318,kF "forwarded_row" "forwarded_row" (top 43) m7 (.ref 317)),
 (322,kN "forwarded" "forwarded" 601 602 603 191 1 0 0 3 319 181 320 321 604 191 605),
 (323,kF "forwarded" "forwarded" (top 44) m7 (.ref 322)),
 (327,kN "_law_bag" "_law_bag" 609 610 611 195 1 0 0 3 324 181 325 326 612 195 613),
 (328,kF "_law_bag" "_law_bag" (top 46) m8 (.ref 327)),
 (334,kC "_law_take" "_law_take" 615 616 617 197 2 0 0 3 329 181 330 331 332 333 625 197 626),
 (335,kF "_law_take" "_law_take" (top 47) m8 (.ref 334)),
 (341,kC "_law_net" "_law_net" 628 629 630 216 2 0 0 3 336 181 337 338 339 340 638 216 639),
 (342,kF "_law_net" "_law_net" (top 48) m8 (.ref 341))]
def c1b:List Addr:=[245,251,252,258,259,265,266,272,273,275,276,286,287,293,294,300,301,305,306,310,311,317,318,322,323,327,328,334,335,341,342]
def K4(Q:Params):Frag:=[
 (346,kN "_law_mended" "_law_mended" 641 642 643 234 1 0 0 3 343 181 344 345 644 234 645),
 (347,kF "_law_mended" "_law_mended" (top 49) m8 (.ref 346)),
 (351,kN "_law_pool" "_law_pool" 647 648 649 249 1 0 0 3 348 181 349 350 650 249 651),
 (352,kF "_law_pool" "_law_pool" (top 50) m8 (.ref 351)),
 (358,kC "_law_operand" "_law_operand" 653 654 655 253 2 0 0 3 353 181 354 355 356 357 659 253 660),
 (359,kF "_law_operand" "_law_operand" (top 51) m8 (.ref 358)),
 (365,kC "_law_deed" "_law_deed" 662 663 664 258 2 0 0 3 360 181 361 362 363 364 668 258 669),
 (366,kF "_law_deed" "_law_deed" (top 52) m8 (.ref 365)),
 (372,kC "_law_row" "_law_row" 671 672 673 261 4 0 0 3 367 181 368 369 370 371 680 261 681),
 (373,kF "_law_row" "_law_row" (top 53) m8 (.ref 372)),
 (377,kN "_law_plan" "_law_plan" 683 684 685 273 1 0 0 3 374 181 375 376 686 273 687),
 (378,kF "_law_plan" "_law_plan" (top 54) m8 (.ref 377)),
 (382,kN "_law_made" "_law_made" 689 690 691 284 2 0 0 3 379 181 380 381 692 284 693),
 (383,kF "_law_made" "_law_made" (top 55) m8 (.ref 382)),
 (389,kC "_law_behind" "_law_behind" 695 696 697 286 2 0 0 3 384 181 385 386 387 388 703 286 704),
 (390,kF "_law_behind" "_law_behind" (top 56) m8 (.ref 389)),
 (396,kC "_law_both" "_law_both" 706 707 708 297 2 0 0 3 391 181 392 393 394 395 713 297 714),
 (397,kF "_law_both" "_law_both" (top 57) m8 (.ref 396)),
 (401,kN "_law_standing" "_law_standing" 716 717 718 303 2 0 0 3 398 181 399 400 719 303 720),
 (402,kF "_law_standing" "_law_standing" (top 58) m8 (.ref 401)),
 (408,kC "_law_read" "_law_read" 722 723 724 320 2 0 0 3 403 181 404 405 406 407 727 320 728),
 (409,kF "_law_read" "_law_read" (top 59) m8 (.ref 408)),
 (415,kC "_law_row_read" "_law_row_read" 730 731 732 324 2 0 0 3 410 181 411 412 413 414 738 324 739),
 (416,kF "_law_row_read" "_law_row_read" (top 60) m8 (.ref 415)),
 (420,kN "_law_due" "_law_due" 741 742 743 333 2 0 0 3 417 181 418 419 744 333 745),
 (421,kF "_law_due" "_law_due" (top 61) m8 (.ref 420)),
 (427,kC "_law_right" "_law_right" 747 748 749 336 3 0 0 3 422 181 423 424 425 426 754 336 755),
 (428,kF "_law_right" "_law_right" (top 62) m8 (.ref 427)),
 (434,kC "law" "law" 757 758 759 341 1 0 0 3 429 181 430 431 432 433 768 341 769),
 (435,kF "law" "law" (top 63) m8 (.ref 434))]
def c1a:List Addr:=[346,347,351,352,358,359,365,366,372,373,377,378,382,383,389,390,396,397,401,402,408,409,415,416,420,421,427,428,434,435]
def K(Q:Params):Frag:=K1 Q++(K2 Q++(K3 Q++K4 Q))
def adr:List Addr:=c3R++(c1c++(c1b++c1a))
def q:w4:=view P [63]
def loose:List Str:=(["_wall","BOUND","LETTERS","FIGURES","LONGEST_NAME","DEED_KINDS","is_whole","is_value","is_name","is_operand","is_deed","is_row","set_by","OnceError","Wrong","NoThing","TooMany","NoWay","MOST","is_below","check_length","check_each","FIRST_STEP","are_nexts","check_nexts","stops_of","turned","reached","check_ways","steps_of","Plan","pass_on","unready_steps","copies_of","places_without","operands_known","forwarded_row","forwarded","_law_bag","_law_take","_law_net","_law_mended","_law_pool","_law_operand","_law_deed","_law_row","_law_plan","_law_made","_law_behind","_law_both","_law_standing","_law_read","_law_row_read","_law_due","_law_right"]:List String).map Str.ofString
theorem b8n{p q:w4}{loose:List Str}{Xt:g9->Bool}{α:Type}{Yf:g9->α}{Ya:World->α}{N m₀:Nat}{ann:Option Value}(e:opening p=plainProg p.main.scope.names)(hN:Nat.ble 600 N=true)(f:∀s,fenceModules? p s=some s)
  (size:∀w:World,((boot_heap w.params).isNs t5,(boot_heap w.params).objs.size,(boot_heap w.params).nsMap t5 "__annotations__")=(true,m₀,ann))
  {r:World->OsState->Option g9} (hr:∀w os x,r w os=some x->topRun treeTable p w m₀ ann N ⟨boot_heap w.params,Array.mk [],boot_drawn,boot_toks,os⟩ (topStub p)=some x)
  (ra:∀w os,(r w os).map (fun s₁=>staticsOk (a1s p.main.body) (boot_heap w.params) s₁.heap&&namesBound p s₁.heap&&gensDone s₁&&laidKept (boot_heap w.params) s₁.heap)=some true)
  (rb:∀w os,(r w os).map (openSeen q loose (a1s p.main.body) Xt true)=some (openGood q loose))
  (rc:∀w os,(r w os).map Yf=some (Ya w)) :
  LeftO p q loose Xt Yf Ya N:=fun w=>by
 obtain⟨⟨h,gs,d,k,os⟩,e1,e2⟩:=l6.mp (boot_open e hN f w)
 obtain⟨rfl,rfl,rfl,rfl⟩:h=boot_heap w.params/\gs=Array.mk []/\d=boot_drawn/\k=boot_toks:=by simpa using e2
 obtain⟨z1,z2,z3⟩:_/\_/\_:=by simpa only[Prod.mk.injEq]using size w
 obtain⟨s₁,r1,r3⟩:=l6.mp (ra w os)
 have rb:=rb w os
 have rc:=rc w os
 rw[r1]at rb rc
 have r1:=hr w os _ r1
 have r4:(openSeen q loose (a1s p.main.body) Xt true s₁,Yf s₁)=(openGood q loose,Ya w):=Prod.ext (Option.some.inj rb) (Option.some.inj rc)
 have t:topFrom treeTable p w N ⟨boot_heap w.params,Array.mk [],boot_drawn,boot_toks,os⟩=some s₁:=by
  unfold topFrom
  dsimp only
  rw[z1,z2,z3,r1]
  show(match staticsOk (a1s p.main.body) (boot_heap w.params) s₁.heap&&namesBound p s₁.heap&&gensDone s₁&&laidKept (boot_heap w.params) s₁.heap with | true=>some s₁ | false=>none)=_
  rw[r3]
 unfold openEnds
 rw[e1]
 show(topFrom treeTable p w N _).map _=_
 rw[t]
 exact congrArg some r4
abbrev a9r:Hook:=kHook K adr (fun _=>by kernel_rfl)
abbrev row:OpenLaw:=PySem.Challenge.rw_oncedone_k84_forwarded
def kZ(x q:Str)(st:Stmt):Obj:=⟨.none,none,.func { fnOf x q (a1S st) (a0m st) (g8 st) .none .none .none .none none .none .none with globals:=0 },#[]⟩
def kS(xs:List Value)(n:Nat):Obj:=⟨.type "tuple",none,.seq xs.toArray n,([]:List (Option Value)).toArray⟩
noncomputable section
def kk(a:Addr)(Q:Params):Obj:=((K Q).lookup a).getD (boot_o_4 Q)
def h1(Q:Params):List Obj:=[
boot_o_0 Q,
boot_o_1 Q,
boot_o_2 Q,
kD [kE Q "__name__" 165 (.str "oncedone.checks" 382),kE Q "__doc__" 166 .none,kE Q "__package__" 167 .none,kE Q "__loader__" 168 (.builtin "__main__.__loader__#opaque"),kE Q "__spec__" 169 .none,kE Q "__annotations__" 170 (.ref 6),kE Q "__builtins__" 171 (.ref 4),kE Q "__file__" 173 (.str "/claim/cut.py" 172),kE Q "__cached__" 174 .none,kE Q "_wall" 193 (.ref 21),kE Q "BOUND" 197 (.int (1000000000000) 196),kE Q "LETTERS" 199 (.str "abcdefghijklmnopqrstuvwxyz" 198),kE Q "FIGURES" 201 (.str "0123456789" 200),kE Q "LONGEST_NAME" 203 (.int (8) 202),kE Q "DEED_KINDS" 209 (.ref 22),kE Q "is_whole" 216 (.ref 29),kE Q "is_value" 223 (.ref 36),kE Q "is_name" 229 (.ref 41),kE Q "is_operand" 236 (.ref 48),kE Q "is_deed" 243 (.ref 55),kE Q "is_row" 252 (.ref 62),kE Q "set_by" 261 (.ref 69),kE Q "OnceError" 281 (.ref 79),kE Q "Wrong" 306 (.ref 99),kE Q "NoThing" 331 (.ref 118),kE Q "TooMany" 356 (.ref 137),kE Q "NoWay" 381 (.ref 156),kE Q "MOST" 385 (.int (400) 384),kE Q "is_below" 393 (.ref 165)] 29,
boot_o_4 Q,
boot_o_5 Q,
boot_o_6 Q,
boot_o_7 Q,
boot_o_8 Q,
boot_o_9 Q,
boot_o_10 Q,
kS [] 0,
⟨.none,none,.fields ([(.int (1) 0),(.int (0) 0),(.ref 20),(.int (10) 0),(.int (0) 0),(.ref 28),(.int (12) 0),(.int (0) 0),(.ref 35),(.int (14) 0),(.int (0) 0),(.ref 40),(.int (18) 0),(.int (0) 0),(.ref 47),(.int (20) 0),(.int (0) 0),(.ref 54),(.int (24) 0),(.int (0) 0),(.ref 61),(.int (39) 0),(.int (0) 0),(.ref 68),(.int (42) 0),(.int (0) 0),(.ref 75),(.int (44) 0),(.int (0) 0),(.ref 88),(.int (48) 0),(.int (0) 0),(.ref 107),(.int (52) 0),(.int (0) 0),(.ref 126),(.int (56) 0),(.int (0) 0),(.ref 145),(.int (62) 0),(.int (0) 0),(.ref 164)]:List Value).toArray,([]:List (Option Value)).toArray⟩,
⟨(.type "code"),none,.fields ([(.str "<module>" 182),(.str "<module>" 183),(.str "/claim/cut.py" 184),(.int (1) 0),(.int (0) 0),(.int (0) 0),(.int (0) 0),(.int (0) 0),(.ref 11),(.bool false),(.int (181) 0),(.ref 12),.none,.none,.none,.none,(.int (185) 0),(.int (1) 0),(.str "/claim/cut.py" 186)]:List Value).toArray,([]:List (Option Value)).toArray⟩,
⟨(.type "frame"),none,.plain,([some (.ref 13),some (.ref 3),some (.ref 3),none,some (.str "__main__" 164),none,some (.ref 0)]:List (Option Value)).toArray⟩,
kS [] 0,
⟨.none,none,.fields ([]:List Value).toArray,([]:List (Option Value)).toArray⟩,
kS [(.str "k" 190)] 0,
kS [] 0,
kZ "_wall" "_wall" (top 0),
kk 20 Q,
kk 21 Q,
kk 22 Q,
kS [] 0,
⟨.none,none,.fields ([]:List Value).toArray,([]:List (Option Value)).toArray⟩,
kS [(.str "thing" 213)] 0,
kS [] 0,
kZ "is_whole" "is_whole" (top 7),
kk 28 Q,
kk 29 Q,
kS [] 0,
⟨.none,none,.fields ([]:List Value).toArray,([]:List (Option Value)).toArray⟩,
kS [(.str "thing" 220)] 0,
kS [] 0,
kZ "is_value" "is_value" (top 8),
kk 35 Q,
kk 36 Q,
kS [] 0,
⟨.none,none,.fields ([]:List Value).toArray,([]:List (Option Value)).toArray⟩,
kZ "is_name" "is_name" (top 9),
kk 40 Q,
kk 41 Q,
kS [] 0,
⟨.none,none,.fields ([]:List Value).toArray,([]:List (Option Value)).toArray⟩,
kS [(.str "thing" 233)] 0,
kS [] 0,
kZ "is_operand" "is_operand" (top 10),
kk 47 Q,
kk 48 Q,
kS [] 0,
⟨.none,none,.fields ([]:List Value).toArray,([]:List (Option Value)).toArray⟩,
kS [(.str "thing" 240)] 0,
kS [] 0,
kZ "is_deed" "is_deed" (top 11),
kk 54 Q,
kk 55 Q,
kS [] 0,
⟨.none,none,.fields ([]:List Value).toArray,([]:List (Option Value)).toArray⟩,
kS [(.str "thing" 247),(.str "kind" 248),(.str "rest" 249)] 0,
kS [] 0,
kZ "is_row" "is_row" (top 12),
kk 61 Q,
kk 62 Q,
kS [] 0,
⟨.none,none,.fields ([]:List Value).toArray,([]:List (Option Value)).toArray⟩,
kS [(.str "row" 258)] 0,
kS [] 0,
kZ "set_by" "set_by" (top 14),
kk 68 Q,
kk 69 Q,
kS [(.type "ValueError")] 0,
⟨(.type "builtin_function_or_method"),none,.fields ([(.builtin "type.__prepare__"),(.type "type")]:List Value).toArray,([]:List (Option Value)).toArray⟩,
kD [kE Q "__module__" 271 (.str "oncedone.errors" 262),kE Q "__qualname__" 273 (.str "OnceError" 272),kE Q "__firstlineno__" 275 (.int (42) 274),kE Q "__static_attributes__" 276 (.ref 77)] 4,
kS [] 0,
⟨.none,none,.fields ([]:List Value).toArray,([]:List (Option Value)).toArray⟩,
⟨(.type "code"),none,.fields ([(.str "OnceError" 266),(.str "OnceError" 267),(.str "/claim/cut.py" 268),(.int (42) 0),(.int (0) 0),(.int (0) 0),(.int (0) 0),(.int (0) 0),(.ref 73),(.bool false),(.int (181) 0),(.ref 74),.none,.none,.none,.none,(.int (269) 0),(.int (42) 0),(.str "/claim/cut.py" 270)]:List Value).toArray,([]:List (Option Value)).toArray⟩,
⟨(.type "frame"),none,.plain,([some (.ref 75),some (.ref 3),some (.ref 72),none,some (.str "oncedone.errors" 262),none,some (.ref 0)]:List (Option Value)).toArray⟩,
kS [] 0,
kk 78 Q,
kk 79 Q,
⟨(.type "getset_descriptor"),none,.fields ([(.str "__weakref__" 277),(.ref 79),(.builtin "ExceptionGroup.__weakref__"),.none]:List Value).toArray,([]:List (Option Value)).toArray⟩,
⟨(.type "super"),none,.fields ([(.ref 79),(.ref 79),(.ref 79)]:List Value).toArray,([]:List (Option Value)).toArray⟩,
⟨(.type "builtin_function_or_method"),none,.fields ([(.builtin "object.__init_subclass__"),(.ref 79)]:List Value).toArray,([]:List (Option Value)).toArray⟩,
kS [(.ref 79)] 0,
⟨(.type "builtin_function_or_method"),none,.fields ([(.builtin "type.__prepare__"),(.type "type")]:List Value).toArray,([]:List (Option Value)).toArray⟩,
kD [kE Q "__module__" 289 (.str "oncedone.errors" 262),kE Q "__qualname__" 291 (.str "Wrong" 290),kE Q "__firstlineno__" 293 (.int (44) 292),kE Q "__init__" 301 (.ref 96),kE Q "__static_attributes__" 303 (.ref 97)] 5,
kS [] 0,
⟨.none,none,.fields ([(.int (46) 0),(.int (4) 0),(.ref 95)]:List Value).toArray,([]:List (Option Value)).toArray⟩,
⟨(.type "code"),none,.fields ([(.str "Wrong" 284),(.str "Wrong" 285),(.str "/claim/cut.py" 286),(.int (44) 0),(.int (0) 0),(.int (0) 0),(.int (0) 0),(.int (0) 0),(.ref 86),(.bool false),(.int (181) 0),(.ref 87),.none,.none,.none,.none,(.int (287) 0),(.int (44) 0),(.str "/claim/cut.py" 288)]:List Value).toArray,([]:List (Option Value)).toArray⟩,
⟨(.type "frame"),none,.plain,([some (.ref 88),some (.ref 3),some (.ref 85),none,some (.str "oncedone.errors" 262),none,some (.ref 0)]:List (Option Value)).toArray⟩,
kS [] 0,
⟨.none,none,.fields ([]:List Value).toArray,([]:List (Option Value)).toArray⟩,
kS [(.str "self" 297),(.str "at" 298)] 0,
kS [] 0,
kZ "__init__" "Wrong.__init__" (R0 (top 17) 0),
kk 95 Q,
kk 96 Q,
kS [(.str "at" 302)] 0,
kk 98 Q,
kk 99 Q,
⟨(.type "super"),none,.fields ([(.ref 99),(.ref 99),(.ref 99)]:List Value).toArray,([]:List (Option Value)).toArray⟩,
⟨(.type "builtin_function_or_method"),none,.fields ([(.builtin "object.__init_subclass__"),(.ref 99)]:List Value).toArray,([]:List (Option Value)).toArray⟩,
kS [(.ref 79)] 0,
⟨(.type "builtin_function_or_method"),none,.fields ([(.builtin "type.__prepare__"),(.type "type")]:List Value).toArray,([]:List (Option Value)).toArray⟩,
kD [kE Q "__module__" 314 (.str "oncedone.errors" 262),kE Q "__qualname__" 316 (.str "NoThing" 315),kE Q "__firstlineno__" 318 (.int (48) 317),kE Q "__init__" 326 (.ref 115),kE Q "__static_attributes__" 328 (.ref 116)] 5,
kS [] 0,
⟨.none,none,.fields ([(.int (50) 0),(.int (4) 0),(.ref 114)]:List Value).toArray,([]:List (Option Value)).toArray⟩,
⟨(.type "code"),none,.fields ([(.str "NoThing" 309),(.str "NoThing" 310),(.str "/claim/cut.py" 311),(.int (48) 0),(.int (0) 0),(.int (0) 0),(.int (0) 0),(.int (0) 0),(.ref 105),(.bool false),(.int (181) 0),(.ref 106),.none,.none,.none,.none,(.int (312) 0),(.int (48) 0),(.str "/claim/cut.py" 313)]:List Value).toArray,([]:List (Option Value)).toArray⟩,
⟨(.type "frame"),none,.plain,([some (.ref 107),some (.ref 3),some (.ref 104),none,some (.str "oncedone.errors" 262),none,some (.ref 0)]:List (Option Value)).toArray⟩,
kS [] 0,
⟨.none,none,.fields ([]:List Value).toArray,([]:List (Option Value)).toArray⟩,
kS [(.str "self" 322),(.str "at" 323)] 0,
kS [] 0,
kZ "__init__" "NoThing.__init__" (R0 (top 18) 0),
kk 114 Q,
kk 115 Q,
kS [(.str "at" 327)] 0,
kk 117 Q,
kk 118 Q,
⟨(.type "super"),none,.fields ([(.ref 118),(.ref 118),(.ref 118)]:List Value).toArray,([]:List (Option Value)).toArray⟩,
⟨(.type "builtin_function_or_method"),none,.fields ([(.builtin "object.__init_subclass__"),(.ref 118)]:List Value).toArray,([]:List (Option Value)).toArray⟩,
kS [(.ref 79)] 0,
⟨(.type "builtin_function_or_method"),none,.fields ([(.builtin "type.__prepare__"),(.type "type")]:List Value).toArray,([]:List (Option Value)).toArray⟩,
kD [kE Q "__module__" 339 (.str "oncedone.errors" 262),kE Q "__qualname__" 341 (.str "TooMany" 340),kE Q "__firstlineno__" 343 (.int (52) 342),kE Q "__init__" 351 (.ref 134),kE Q "__static_attributes__" 353 (.ref 135)] 5,
kS [] 0,
⟨.none,none,.fields ([(.int (54) 0),(.int (4) 0),(.ref 133)]:List Value).toArray,([]:List (Option Value)).toArray⟩,
⟨(.type "code"),none,.fields ([(.str "TooMany" 334),(.str "TooMany" 335),(.str "/claim/cut.py" 336),(.int (52) 0),(.int (0) 0),(.int (0) 0),(.int (0) 0),(.int (0) 0),(.ref 124),(.bool false),(.int (181) 0),(.ref 125),.none,.none,.none,.none,(.int (337) 0),(.int (52) 0),(.str "/claim/cut.py" 338)]:List Value).toArray,([]:List (Option Value)).toArray⟩,
⟨(.type "frame"),none,.plain,([some (.ref 126),some (.ref 3),some (.ref 123),none,some (.str "oncedone.errors" 262),none,some (.ref 0)]:List (Option Value)).toArray⟩,
kS [] 0,
⟨.none,none,.fields ([]:List Value).toArray,([]:List (Option Value)).toArray⟩,
kS [(.str "self" 347),(.str "most" 348)] 0,
kS [] 0,
kZ "__init__" "TooMany.__init__" (R0 (top 19) 0),
kk 133 Q,
kk 134 Q,
kS [(.str "most" 352)] 0,
kk 136 Q,
kk 137 Q,
⟨(.type "super"),none,.fields ([(.ref 137),(.ref 137),(.ref 137)]:List Value).toArray,([]:List (Option Value)).toArray⟩,
⟨(.type "builtin_function_or_method"),none,.fields ([(.builtin "object.__init_subclass__"),(.ref 137)]:List Value).toArray,([]:List (Option Value)).toArray⟩,
kS [(.ref 79)] 0,
⟨(.type "builtin_function_or_method"),none,.fields ([(.builtin "type.__prepare__"),(.type "type")]:List Value).toArray,([]:List (Option Value)).toArray⟩,
kD [kE Q "__module__" 364 (.str "oncedone.errors" 262),kE Q "__qualname__" 366 (.str "NoWay" 365),kE Q "__firstlineno__" 368 (.int (56) 367),kE Q "__init__" 376 (.ref 153),kE Q "__static_attributes__" 378 (.ref 154)] 5,
kS [] 0,
⟨.none,none,.fields ([(.int (58) 0),(.int (4) 0),(.ref 152)]:List Value).toArray,([]:List (Option Value)).toArray⟩,
⟨(.type "code"),none,.fields ([(.str "NoWay" 359),(.str "NoWay" 360),(.str "/claim/cut.py" 361),(.int (56) 0),(.int (0) 0),(.int (0) 0),(.int (0) 0),(.int (0) 0),(.ref 143),(.bool false),(.int (181) 0),(.ref 144),.none,.none,.none,.none,(.int (362) 0),(.int (56) 0),(.str "/claim/cut.py" 363)]:List Value).toArray,([]:List (Option Value)).toArray⟩,
⟨(.type "frame"),none,.plain,([some (.ref 145),some (.ref 3),some (.ref 142),none,some (.str "oncedone.errors" 262),none,some (.ref 0)]:List (Option Value)).toArray⟩,
kS [] 0,
⟨.none,none,.fields ([]:List Value).toArray,([]:List (Option Value)).toArray⟩,
kS [(.str "self" 372),(.str "at" 373)] 0,
kS [] 0,
kZ "__init__" "NoWay.__init__" (R0 (top 20) 0),
kk 152 Q,
kk 153 Q,
kS [(.str "at" 377)] 0,
kk 155 Q,
kk 156 Q,
⟨(.type "super"),none,.fields ([(.ref 156),(.ref 156),(.ref 156)]:List Value).toArray,([]:List (Option Value)).toArray⟩,
⟨(.type "builtin_function_or_method"),none,.fields ([(.builtin "object.__init_subclass__"),(.ref 156)]:List Value).toArray,([]:List (Option Value)).toArray⟩,
kS [] 0,
⟨.none,none,.fields ([]:List Value).toArray,([]:List (Option Value)).toArray⟩,
kS [(.str "thing" 389),(.str "many" 390)] 0,
kS [] 0,
kZ "is_below" "is_below" (top 23),
kk 164 Q,
kk 165 Q]
abbrev bd:List Stmt:=behindTheImports P
abbrev en:Env:={ scope:=P.main.scope,locals:=mainNs,globals:=mainNs,cells:=[],code:=(.ref 13),frame:=some 14 }
abbrev cE:Code:=.body bd en
abbrev fB:List Frame:=[topFrame ⟨0,0,0,0⟩]
abbrev s0(w:World)(os:OsState):g9:=⟨boot_heap w.params,Array.mk [],boot_drawn,boot_toks,os⟩
def sa(w:World)(os:OsState):g9:=((topGo treeTable P w 11 (some (.ref 6)) 12 (s0 w os) (topStub P)).map (·.1)).getD (s0 w os)
abbrev s1(w:World)(os:OsState):g9:=⟨⟨Array.mk (h1 w.params),(boot_heap w.params).life⟩,Array.mk [],boot_drawn,394,os⟩
abbrev rn(w:World)(os:OsState):Option g9:=PySem.W.Fast.tw14082659384304107361 PySem.W.Fast.tw14364793385576792824 P w 11 (some (.ref 6)) 5177 (s1 w os) (restOf (bd.drop 24) en cE ⟨62,0,63,48⟩ fB)
end
theorem c5W(w:World)(os:OsState):topGo treeTable P w 11 (some (.ref 6)) 12 (s0 w os) (topStub P)=some (sa w os,⟨denote treeTable cE,cE,⟨0,0,0,0⟩,fB⟩):=by kernel_rfl
theorem c5V(w:World)(os:OsState):segRun treeTable P w 11 (some (.ref 6)) 1 1 (sa w os) (blockOf bd en cE ⟨0,0,0,0⟩ fB)=some (.next,sa w os,cE,⟨0,0,0,0⟩):=by kernel_rfl
theorem c5U(w:World)(os:OsState):segRun treeTable P w 11 (some (.ref 6)) 1 1524 (sa w os) (piecesOf (bd.take 24) en cE ⟨0,0,0,0⟩ fB)=some (.next,s1 w os,cE,⟨62,0,63,48⟩):=by kernel_rfl
theorem c5T(w:World)(os:OsState)(x:g9)(h:rn w os=some x):topRun treeTable P w 11 (some (.ref 6)) 6714 (s0 w os) (topStub P)=some x:=by
 have h:topRun treeTable P w 11 (some (.ref 6)) 5177 (s1 w os) (restOf (bd.drop 24) en cE ⟨62,0,63,48⟩ fB)=some x:=by rw[PySem.W.Fast.te14082659384304107361,PySem.W.Fast.te14364793385576792824];exact h
 have h:=piece_app (c5U w os) h
 rw[List.take_append_drop]at h
 exact go_top (c5W w os) (piece_block (c5V w os) h)
theorem c3t(w:World)(os:OsState):(rn w os).map (fun s₁=>staticsOk (a1s P.main.body) (boot_heap w.params) s₁.heap&&namesBound P s₁.heap&&gensDone s₁&&laidKept (boot_heap w.params) s₁.heap)=some true:=by kernel_rfl
theorem c3s(w:World)(os:OsState):(rn w os).map (PySem.W.Fast.tw4187177175401517315 q loose (a1s P.main.body) (fun s=>xlAt q [] s&&recOk (RowW.records row.row.toRowW) s) true)=some (openGood q loose):=by kernel_rfl
theorem c0G(w:World)(os:OsState):(rn w os).map (fun s=>c3R.map s.heap.get?)=some ((K1 w.params).map fun p=>some p.2):=by kernel_rfl
theorem c0F(w:World)(os:OsState):(rn w os).map (fun s=>c1c.map s.heap.get?)=some ((K2 w.params).map fun p=>some p.2):=by kernel_rfl
theorem c0E(w:World)(os:OsState):(rn w os).map (fun s=>c1b.map s.heap.get?)=some ((K3 w.params).map fun p=>some p.2):=by kernel_rfl
theorem c0D(w:World)(os:OsState):(rn w os).map (fun s=>c1a.map s.heap.get?)=some ((K4 w.params).map fun p=>some p.2):=by kernel_rfl
theorem c3r(w:World)(os:OsState):(rn w os).map (Hook.obs a9r)=some (Hook.val a9r w):=by
 obtain⟨s,h1,h2⟩:=l6.mp (c0G w os)
 have h3:=c0F w os
 have h4:=c0E w os
 have h5:=c0D w os
 rw[h1]at h3 h4 h5 ⊢
 have h3:c1c.map s.heap.get? = _:=Option.some.inj h3
 have h4:c1b.map s.heap.get? = _:=Option.some.inj h4
 have h5:c1a.map s.heap.get? = _:=Option.some.inj h5
 show some ((c3R++(c1c++(c1b++c1a))).map s.heap.get?)=some ((K1 w.params++(K2 w.params++(K3 w.params++K4 w.params))).map fun p=>some p.2)
 rw[B9,B9,B9,B9,B9,B9,h2,h3,h4,h5]
theorem left:LeftO P q loose (fun s=>xlAt q [] s&&recOk (RowW.records row.row.toRowW) s) (Hook.obs a9r) (Hook.val a9r) 6714:=
 b8n (m₀:=11) (ann:=(some (.ref 6))) (r:=rn) (by kernel_rfl) (by kernel_rfl) (fun s=>by kernel_rfl) (fun w=>by kernel_rfl) c5T c3t (by rw[PySem.W.Fast.te4187177175401517315];exact c3s) c3r
theorem c4x:row.wellSaid=true:=by
 rw[PySem.W.Fast.te9446332074065402090]
 kernel_rfl
theorem fin(hc:∀d:DefRec,d.name = "law" -> d.params.defaults=[]->WalkO q loose (XL q []) (Hook.says a9r) row.row.toRowW d [] (fun f vs=>b1q f vs)):row.Holds:=by
 refine holds_law (l:=row) c4x fun said=>?_
 refine holds_open (q:=q) (loose:=loose) (Xt:=fun s=>xlAt q [] s&&recOk (RowW.records row.row.toRowW) s) (XP:=XL q []) (Yf:=Hook.obs a9r) (Ya:=Hook.val a9r) (YP:=Hook.says a9r) (N:=6714) left (Hook.of a9r) (Hook.keeps a9r) (fun s e=>xl_of s (b6z.mp e).1) XL.keeps (by rfl) (by rfl) (by rfl) (fun s e=>recFacts_of (b6z.mp e).2) (by rfl) said (by decide +kernel) ⟨rfl,rfl,rfl,rfl,rfl,by decide +kernel⟩ ?hw (hc _ rfl rfl)
 case hw=>w_witness2
end HD
set_option Elab.async false
set_option linter.all false
set_option maxRecDepth 100000
namespace L2
open PySem PySem.Spec PyProof.Rows
variable{us:List Value}{i t':Nat}{u:Value}{C a b dx f:Addr}{w:World}{h h':Heap}{pins:List (Addr×Obj)}{s:g9}{c e tg:Expr}{p pos pos':Pos}{Q:Value->g9->Prop}{es:List Expr}{ps:List Str}{m:Str->Option Value}
abbrev Key:=Sum Int Str
def a8C:Key->Value->Bool
 | .inl k,v=>Value.isInt k v
 | .inr x,v=>Value.isStrOf x v
def c5R(w:World):Key->Int
 | .inl k=>hashInt k
 | .inr x=>hashStr w x
theorem O6:∀ {k:Key} {v:Value},a8C k v=true->(∃i t,k=Sum.inl i/\v=Value.int i t)\/(∃x t,k=Sum.inr x/\v=Value.str x t)
 | .inl i,v,h=>by
  obtain⟨t,e⟩:=Value.isInt_shape (k:=i) (v:=v) h
  exact .inl ⟨i,t,rfl,e⟩
 | .inr x,v,h=>by
  obtain⟨t,e⟩:=Value.isStrOf_shape (x:=x) (v:=v) h
  exact .inr ⟨x,t,rfl,e⟩
theorem b5Q(i:Int)(t:Tok):a8C (.inl i) (.int i t)=true:=by simp[a8C,Value.isInt]
theorem b5P(x:Str)(t:Tok):a8C (.inr x) (.str x t)=true:=by simp[a8C,Value.isStrOf]
theorem c3y(a b:Int):decide ((Sum.inl a:Key)=Sum.inl b)=(a == b):=by
 by_cases e:a=b
 ·subst e;simp
 ·have h:¬(Sum.inl a:Key)=Sum.inl b:=fun q=>e (Sum.inl.inj q)
  rw[c7q h]
  exact(beq_eq_false_iff_ne.mpr e).symm
theorem c3v(a b:Str):decide ((Sum.inr a:Key)=Sum.inr b)=decide (a=b):=by
 by_cases e:a=b
 ·subst e;simp
 ·have h:¬(Sum.inr a:Key)=Sum.inr b:=fun q=>e (Sum.inr.inj q)
  rw[c7q h,c7q e]
theorem c3x(a:Int)(b:Str):decide ((Sum.inl a:Key)=Sum.inr b)=false:=c7q (fun q=>nomatch q)
theorem c3w(a:Str)(b:Int):decide ((Sum.inr a:Key)=Sum.inl b)=false:=c7q (fun q=>nomatch q)
def L6(prog:w4)(w:World):PySem.KeyKind prog w Key where
 is:=a8C
 hash:=c5R w
 inj:=fun v a b ha hb=>by
  rcases O6 ha with ⟨i,t,rfl,rfl⟩ | ⟨x,t,rfl,rfl⟩
  ·rcases O6 hb with ⟨j,u,rfl,e⟩ | ⟨y,u,rfl,e⟩
   ·injection e with e1 _;rw[e1]
   ·exact nomatch e
  ·rcases O6 hb with ⟨j,u,rfl,e⟩ | ⟨y,u,rfl,e⟩
   ·exact nomatch e
   ·injection e with e1 _;rw[e1]
 byValue:=fun k v h=>by
  rcases O6 h with ⟨i,t,rfl,rfl⟩ | ⟨x,t,rfl,rfl⟩ <;> rfl
 pyHash:=fun hv h=>by
  rcases O6 hv with ⟨i,t,rfl,rfl⟩ | ⟨x,t,rfl,rfl⟩
  ·exact wpAny_pyHash_int h
  ·exact wpAny_pyHash_str h
 eqBool:=fun hu hv h=>by
  rcases O6 hu with ⟨i,t,rfl,rfl⟩ | ⟨x,t,rfl,rfl⟩
  ·rcases O6 hv with ⟨j,u,rfl,rfl⟩ | ⟨y,u,rfl,rfl⟩
   ·rw[c3y]at h;exact wpAny_eqBool_int h
   ·rw[c3x]at h;exact SeqAt.EqAt.int_str i t y u _ _ _ _ h
  ·rcases O6 hv with ⟨j,u,rfl,rfl⟩ | ⟨y,u,rfl,rfl⟩
   ·rw[c3w]at h;exact SeqAt.EqAt.str_int x t j u _ _ _ _ h
   ·rw[c3v]at h;exact wpAny_eqBool_str h
 «strs» := fun k x t v h=>by
  rcases O6 h with ⟨i,u,rfl,e⟩ | ⟨y,u,rfl,e⟩
  ·exact nomatch e
  ·injection e with e1 _
   subst e1
   cases v <;> rfl
theorem b2v(prog:w4)(w:World)(i:Int)(t:Tok):(L6 prog w).is (.inl i) (.int i t)=true:=b5Q i t
theorem b2u(prog:w4)(w:World)(x:Str)(t:Tok):(L6 prog w).is (.inr x) (.str x t)=true:=b5P x t
inductive V where
 | non | bl (b:Bool) | int (i:Int) | str (x:Str) | byt (b:Array UInt8) | flt (b:UInt64) | ref (a:Addr) | ty (n:String)
 deriving DecidableEq
variable{v y:V}{xs:List V}{kvs:List (Key×V)}
def C4:V->Value->Prop
 | .non,u=>u=Value.none
 | .bl b,u=>u=Value.bool b
 | .int i,u=>∃t,u=Value.int i t
 | .str x,u=>∃t,u=Value.str x t
 | .byt b,u=>∃t,u=Value.bytes b t
 | .flt b,u=>∃t,u=Value.float b t
 | .ref a,u=>u=Value.ref a
 | .ty n,u=>u=Value.type n
abbrev D8:List V->List Value->Prop:=Paired C4
theorem D8.length(r:D8 xs us):xs.length=us.length:=Paired.length r
theorem D8.get:∀ {xs:List V} {us:List Value} {i:Nat} {x:V},D8 xs us->xs[i]? = some x->∃u,us[i]? = some u/\C4 x u
 | _,_,_,_,.nil,e=>by simp at e
 | _,_,0,_,.cons r _,e=>by simp at e;subst e;exact⟨_,rfl,r⟩
 | _,_,i+1,x,.cons _ t,e=>by
  obtain⟨u,h1,h2⟩:=D8.get (i:=i) (x:=x) t (by simpa using e)
  exact⟨u,by simpa using h1,h2⟩
theorem D8.set{x:V}(r:C4 x u):∀ {xs:List V} {us:List Value} (i:Nat),D8 xs us->D8 (xs.set i x) (us.set i u)
 | _,_,_,.nil=>.nil
 | _,_,0,.cons _ t=>.cons r t
 | _,_,i+1,.cons q t=>.cons q (D8.set r i t)
theorem D8.append:∀ {xs ys:List V} {us ws:List Value},D8 xs us->D8 ys ws->D8 (xs++ys) (us++ws)
 | _,_,_,_,.nil,s=>s
 | _,_,_,_,.cons r t,s=>.cons r (D8.append t s)
theorem D8.take:∀ {xs:List V} {us:List Value} (n:Nat),D8 xs us->D8 (xs.take n) (us.take n)
 | _,_,0,_=>.nil
 | _,_,_+1,.nil=>.nil
 | _,_,n+1,.cons r t=>.cons r (D8.take n t)
theorem D8.drop:∀ {xs:List V} {us:List Value} (n:Nat),D8 xs us->D8 (xs.drop n) (us.drop n)
 | _,_,0,r=>r
 | _,_,_+1,.nil=>.nil
 | _,_,n+1,.cons _ t=>D8.drop n t
def a3o:Option V->Option Value->Prop
 | some v,some u=>C4 v u
 | none,none=>True
 | _,_=>False
def KV{κ:Type}:List (κ×V)->List (κ×Value)->Prop:=Paired fun(p:κ×V) (q:κ×Value)=>p.1=q.1/\C4 p.2 q.2
def kV:Key->V
 | .inl i=>.int i
 | .inr x=>.str x
inductive HO where
 /-- a list -/
 | lst (xs:List V)
 /-- a tuple (never changes) -/
 | tup (xs:List V)
 /-- a dict whose keys are ints and texts;one whose keys are tuples of ints and texts (the empty one is both) -/
 | dK (kvs:List (Key×V)) | dT (kvs:List (List Key×V))
 /-- a set of ints: its members,its size -/
 | set (S:Int->Bool) (n:Nat)
 /-- an instance of the class at C,its dict at dx,its attributes -/
 | ins (C dx:Addr) (fs:List (Str×V))
 /-- the dict of the instance at x -/
 | own (x:Addr)
 /-- the dict of an exception -/
 | xd (fs:List (Str×V))
 /-- a bound method,f of x -/
 | met (f x:Addr)
 /-- a range object lo,lo+1,.. below hi -/
 | rng (lo hi:Int)
 /-- a thing that is known to the object (the script;a dict while a loop walks it): read,never written while it is so -/
 | frz (o:Obj) (u:HO)
 /-- a code object's table -/
 | tbl (ps:Array Value)
 /-- any other thing,by what is true of its one object (a def of one's own: SetO a S n:=HO.ext fun h=>..) -/
 | ext (φ:Heap->Prop)
variable{o:HO}
abbrev Hp:=Addr->Option HO
variable{H H':Hp}
def upd(H:Hp)(a:Addr)(o:HO):Hp:=fun b=>if b=a then some o else H b
theorem c6:upd H a o a=some o:=by unfold upd;rw[if_pos rfl]
theorem c9(h:b≠a):upd H a o b=H b:=by unfold upd;rw[if_neg h]
theorem a7y{u:HO}:upd (upd H a o) a u=upd H a u:=by
 funext b;unfold upd;split <;> rfl
theorem G0{u:HO}(h:H a=some o)(h':H b=some u)(d:o≠u):a≠b:=by
 intro e;subst e;rw[h]at h';exact d (Option.some.inj h')
theorem c7(h:H a=some o)(h':H b=none):a≠b:=by
 intro e;subst e;rw[h]at h';cases h'
section
variable (P:w4)(w:World)
def R4(H:Hp)(h:Heap)(a:Addr):HO->Prop
 | .lst xs=>xs.length<=l7/\∃(its:List Value) (n:Nat),D8 xs its/\h.get? a=some { cls:=.type "list",data:=.seq its.toArray n }
 | .tup xs=>xs.length<=l7/\∃its:List Value,D8 xs its/\IsTup h a its.toArray
 | .dK kvs=>kvs.length<=l7/\(a == T0)=false/\∃vs,KV kvs vs/\h.DictOf (L6 P w) a vs
 | .dT kvs=>kvs.length<=l7/\(a == T0)=false/\∃xs:List (List Key×Addr×Value),
   Paired (fun(p:List Key×V) (q:List Key×Addr×Value)=>p.1=q.1/\H q.2.1=some (.tup (p.1.map kV))/\C4 p.2 q.2.2) kvs xs /\
   ∃o es ep,h.get? a=some o/\o.ExactDict/\o.data=.dict es ep/\es.toList=xs.map (entryOfKey (b1A (L6 P w)))/\(xs.map (·.1)).Nodup
 | .set S n=>h.SetOf (intKind P w) a S n
 | .ins C dx fs=>H dx=some (.own a)/\fs.length<=1000/\dx≠a/\h.get? a=some (R7 C dx) /\
   ∃mA,h.Ns1 dx mA/\(∀f,a3o (fs.lookup f) (mA f))/\PySem.Within mA (fs.map (·.1))
 | .own _=>∃o,h.get? a=some o
 | .xd fs=>∃mA,h.Ns1 a mA/\∀f,a3o (fs.lookup f) (mA f)
 | .rng lo hi=>∃t u v,h.get? a=some { cls:=.type "range",data:=.fields #[.int lo t,.int hi u,.int 1 v] }
 | .frz o u=>h.get? a=some o/\R4 H h a u
 | .tbl ps=>h.get? a=some { cls:=.none,data:=.fields ps }
 | .met f x=>h.get? a=some (a7b (.ref f) (.ref x))
 | .ext φ=>φ h/\(∃o,h.get? a=some o)/\∀h1 h2:Heap,φ h1->(∀o,h1.get? a=some o->h2.get? a=some o)->φ h2
def HOk(H:Hp)(h:Heap):Prop:=∀a o,H a=some o->R4 P w H h a o
end
section
variable {P:w4}
theorem R4.lt(x:R4 P w H h a o):a<h.objs.size:=by
 cases o with
 | lst xs=>obtain⟨_,_,_,_,e⟩:=x;exact i8 e
 | tup xs=>obtain⟨_,_,_,p⟩:=x;exact p.lt
 | dK kvs=>obtain⟨_,_,_,_,o,_,_,e,_⟩:=x;exact i8 e
 | dT kvs=>obtain⟨_,_,_,_,o,_,_,e,_⟩:=x;exact i8 e
 | set S n=>obtain⟨o,_,_,_,e,_⟩:=x;exact i8 e
 | ins C dx fs=>obtain⟨_,_,_,e,_⟩:=x;exact i8 e
 | own y=>obtain⟨_,e⟩:=x;exact i8 e
 | xd fs=>obtain⟨_,⟨_,_,_,e,_⟩,_⟩:=x;exact i8 e
 | rng lo hi=>obtain⟨_,_,_,e⟩:=x;exact i8 e
 | frz ob u=>obtain⟨e,_⟩:=x;exact i8 e
 | tbl ps=>exact i8 (show h.get? a=some _ from x)
 | met f y=>exact i8 (show h.get? a=some _ from x)
 | ext φ=>obtain⟨_,⟨_,e⟩,_⟩:=x;exact i8 e
theorem Paired.mapP{α β:Type}{F G:α->β->Prop}:∀ {l₁:List α} {l₂:List β},Paired F l₁ l₂->(∀a b,F a b->G a b)->Paired G l₁ l₂
 | _,_,.nil,_=>.nil
 | _,_,.cons r t,f=>.cons (f _ _ r) (Paired.mapP t f)
theorem R4.stay(x:R4 P w H h a o)(k:∀b u,(b=a\/H b=some (.own a))->h.get? b=some u->h'.get? b=some u)
  (ho:∀b,H b=some (.own a)->H' b=some (.own a)) (ht:∀b xs,H b=some (.tup xs)->H' b=some (.tup xs)):R4 P w H' h' a o:=by
 induction o with
 | lst xs=>obtain⟨z,its,n,r,e⟩:=x;exact⟨z,its,n,r,k _ _ (.inl rfl) e⟩
 | tup xs=>obtain⟨z,its,r,ob,e,c⟩:=x;exact⟨z,its,r,ob,k _ _ (.inl rfl) e,c⟩
 | dK kvs=>obtain⟨z,y,vs,r,ob,es,ep,e,c⟩:=x;exact⟨z,y,vs,r,ob,es,ep,k _ _ (.inl rfl) e,c⟩
 | dT kvs=>
  obtain⟨z,y,xs,r,ob,es,ep,e,c⟩:=x
  exact⟨z,y,xs,Paired.mapP r fun p q z=>⟨z.1,ht _ _ z.2.1,z.2.2⟩,ob,es,ep,k _ _ (.inl rfl) e,c⟩
 | set S n=>obtain⟨ob,es,ep,t,e,c⟩:=x;exact⟨ob,es,ep,t,k _ _ (.inl rfl) e,c⟩
 | ins C dx fs=>
  obtain⟨d,z,ne,e,mA,⟨od,es,ep,e2,c⟩,r⟩:=x
  exact⟨ho _ d,z,ne,k _ _ (.inl rfl) e,mA,⟨od,es,ep,k _ _ (.inr d) e2,c⟩,r⟩
 | own y=>obtain⟨ob,e⟩:=x;exact⟨ob,k _ _ (.inl rfl) e⟩
 | xd fs=>obtain⟨mA,⟨od,es,ep,e,c⟩,r⟩:=x;exact⟨mA,⟨od,es,ep,k _ _ (.inl rfl) e,c⟩,r⟩
 | rng lo hi=>obtain⟨t,u,v,e⟩:=x;exact⟨t,u,v,k _ _ (.inl rfl) e⟩
 | frz ob u ih=>obtain⟨e,q⟩:=x;exact⟨k _ _ (.inl rfl) e,ih q⟩
 | tbl ps=>
  have e:h.get? a=some { cls:=.none,data:=.fields ps }:=x
  show h'.get? a=some { cls:=.none,data:=.fields ps }
  exact k a _ (.inl rfl) e
 | met f y=>
  have e:h.get? a=some (a7b (.ref f) (.ref y)):=x
  show h'.get? a=some (a7b (.ref f) (.ref y))
  exact k a _ (.inl rfl) e
 | ext φ=>obtain⟨p,⟨o,e⟩,st⟩:=x;exact⟨st _ _ p fun o q=>k _ _ (.inl rfl) q,⟨o,k _ _ (.inl rfl) e⟩,st⟩
theorem HOk.lt(x:HOk P w H h)(e:H a=some o):a<h.objs.size:=(x a o e).lt
theorem HOk.fresh(x:HOk P w H h)(e:h.objs.size<=a):H a=none:=by
 cases q:H a with
 | none=>rfl
 | some u=>exact absurd (v7 (x.lt q) e) (E2 _)
theorem HOk.kept(x:HOk P w H h)(k:∀b u,h.get? b=some u->h'.get? b=some u):HOk P w H h':=fun a o e=>
 (x a o e).stay (fun b u _ q=>k b u q) (fun _ q=>q) fun _ _ q=>q
theorem HOk.laid(x:HOk P w H h)(k:∀b u,h.get? b=some u->h'.get? b=some u)(hp:h.objs.size<=a)(new:R4 P w (upd H a o) h' a o):HOk P w (upd H a o) h':=fun b u e=>by
 have hn:=x.fresh hp
 by_cases hb:b=a
 ·subst hb;rw[c6]at e;cases e;exact new
 ·rw[c9 hb]at e
  exact(x b u e).stay (fun c v _ q=>k c v q) (fun c q=>by rw[c9 (c7 q hn)];exact q) fun c xs q=>by rw[c9 (c7 q hn)];exact q
end
def Rd(H:Hp)(a:Addr)(u:HO):Prop:=H a=some u\/∃o,H a=some (.frz o u)
theorem Rd.ok{P:w4}{u:HO}(r:Rd H a u)(x:HOk P w H h):R4 P w H h a u:=by
 rcases r with r | ⟨o,r⟩
 ·exact x a u r
 ·obtain⟨_,q⟩:=x a _ r
  exact q
def Mut:Option HO->Prop
 | some (.lst _)=>True
 | some (.dK _)=>True
 | some (.dT _)=>True
 | some (.set _ _)=>True
 | some (.ins _ _ _)=>True
 | some (.ext _)=>True
 | _=>False
section
variable {P:w4}{x e:Addr}{o':HO}
theorem HOk.write(ok:HOk P w H h)(mu:Mut (H x))(he:e=x\/H e=some (.own x))(k:∀b u,b≠e->h.get? b=some u->h'.get? b=some u)(heo:∃u,h'.get? e=some u)
  (new:R4 P w (upd H x o') h' x o'):HOk P w (upd H x o') h':=fun b u q=>by
 have nown:∀c y,H c=some (.own y)->c≠x:=fun c y r z=>by subst z;rw[r]at mu;exact mu
 have ntup:∀c xs,H c=some (.tup xs)->c≠x:=fun c xs r z=>by subst z;rw[r]at mu;exact mu
 by_cases hb:b=x
 ·subst hb;rw[c6]at q;cases q;exact new
 ·rw[c9 hb]at q
  by_cases hbe:b=e
  ·have q':H b=some (.own x):=by
    rcases he with z | z
    ·exact absurd (hbe.trans z) hb
    ·rw[hbe];exact z
   rw[q]at q';cases q'
   obtain⟨v,hv⟩:=heo
   exact⟨v,by rw[hbe];exact hv⟩
  ·refine(ok b u q).stay (fun c v hc r=>k c v ?_ r) (fun c r=>by rw[c9 (nown c b r)];exact r) fun c xs r=>by rw[c9 (ntup c xs r)];exact r
   rcases hc with rfl | hc
   ·exact hbe
   ·rintro rfl
    rcases he with z | z
    ·exact nown c b hc z
    ·rw[hc]at z;cases z;exact hb rfl
end
structure Un(fs ex:List Addr)(H H':Hp)(h h':Heap):Prop where
 keep:∀b o,h.get? b=some o->H b=none->b∉fs->b∉ex->h'.get? b=some o
 slot:∀b o,h.get? b=some o->H b=none->b∈fs->b∉ex->∃sl,h'.get? b=some { o with slots:=sl }
 free:∀b o,h.get? b=some o->H b=none->b∉ex->H' b=none
 there:∀b o,h.get? b=some o->b∉ex->∃o',h'.get? b=some o'
 tups:∀b xs,H b=some (.tup xs)->H' b=some (.tup xs)
 frzs:∀b o u,H b=some (.frz o u)->H' b=some (.frz o u)
 tbls:∀b ps,H b=some (.tbl ps)->∃more,H' b=some (.tbl (ps++more))
section
variable {fs fs' ex ex':List Addr}{H1 H2:Hp}{h1 h2:Heap}{x e:Addr}
theorem Un.any(u:Un fs ex H H1 h h1){ob:Obj}(q:h.get? b=some ob)(n:H b=none)(hx:b∉ex):∃sl,h1.get? b=some { ob with slots:=sl }:=by
 by_cases hb:b∈fs
 ·exact u.slot b ob q n hb hx
 ·exact⟨ob.slots,u.keep b ob q n hb hx⟩
theorem Un.kept(k:∀b u,h.get? b=some u->h'.get? b=some u):Un fs ex H H h h':=
 ⟨fun b ob q _ _ _=>k b ob q,fun b ob q _ _ _=>⟨ob.slots,k b ob q⟩,fun _ _ _ n _=>n,fun b ob q _=>⟨ob,k b ob q⟩,fun _ _ q=>q,fun _ _ _ q=>q,fun _ ps q=>⟨#[],by rw[q];simp⟩⟩
theorem Un.refl:Un fs ex H H h h:=Un.kept fun _ _ q=>q
theorem Un.laid(k:∀b u,h.get? b=some u->h'.get? b=some u)(hp:h.objs.size<=a)(hn:H a=none):Un fs ex H (upd H a o) h h' where
 keep:=fun b u q _ _ _=>k b u q
 slot:=fun b u q _ _ _=>⟨u.slots,k b u q⟩
 free:=fun b u q n _=>by rw[c9 (u7 (v7 (i8 q) hp))];exact n
 there:=fun b u q _=>⟨u,k b u q⟩
 tups:=fun b xs q=>by rw[c9 (c7 q hn)];exact q
 frzs:=fun b u xs q=>by rw[c9 (c7 q hn)];exact q
 tbls:=fun b ps q=>⟨#[],by rw[c9 (c7 q hn),q];simp⟩
theorem Un.write(mu:Mut (H x))(he:e=x\/H e=some (.own x))(k:∀b u,b≠e->h.get? b=some u->h'.get? b=some u)(heo:∃u,h'.get? e=some u):Un fs ex H (upd H x o) h h':=by
 have hx:∀b,H b=none->b≠x:=fun b n z=>by subst z;rw[n]at mu;exact mu
 have hb:∀b,H b=none->b≠e:=fun b n z=>by
  subst z
  rcases he with r | r
  ·exact hx b n r
  ·rw[n]at r;cases r
 have hm:∀b u,H b=some u->¬Mut (some u)->b≠x:=fun b u q nm z=>by subst z;rw[q]at mu;exact nm mu
 refine⟨fun b u q n _ _=>k b u (hb b n) q,fun b u q n _ _=>⟨u.slots,k b u (hb b n) q⟩,fun b u q n _=>by rw[c9 (hx b n)];exact n,fun b u q _=>?_,
  fun b xs q=>by rw[c9 (hm b _ q fun z=>z)];exact q,fun b u xs q=>by rw[c9 (hm b _ q fun z=>z)];exact q,fun b ps q=>⟨#[],by rw[c9 (hm b _ q fun z=>z),q];simp⟩⟩
 by_cases hbe:b=e
 ·subst hbe;exact heo
 ·exact⟨u,k b u hbe q⟩
end
def trk(h:Heap)(H:Hp):List Addr:=(y9 h.objs.size).filter fun a=>(H a).isSome
def b0M(h:Heap)(H:Hp):Heap:=PySem.W.hideAll h (trk h H)
theorem b5V(h:Heap)(H:Hp):(b0M h H).objs.size=h.objs.size:=PySem.W.hideAll_size _ _
theorem b8u{o:Obj}(e:h.get? b=some o)(n:H b=none):(b0M h H).get? b=some o:=
 PySem.W.hideAll_get _ e fun hm=>by
  have q:(H b).isSome=true:=(J7.mp hm).2
  rw[n]at q;simp at q
theorem c0A{o:Obj}(e:(b0M h H).get? b=some o):h.get? b=some o/\H b=none:=by
 have e':h.get? b=some o:=PySem.W.of_hideAll (trk h H) e
 refine⟨e',?_⟩
 cases q:H b with
 | none=>rfl
 | some x=>
  have hm:b∈trk h H:=J7.mpr ⟨U7.mpr (i8 e'),by simp[q]⟩
  have z:(b0M h H).get? b=none:=PySem.W.hideAll_none (trk h H) hm
  rw[z]at e;cases e
def c0Z(g h:Heap)(L:Addr):List (Addr×Obj):=(y9 h.objs.size).filterMap fun a=>if a=L\/(g.get? a).isSome=true then none else (h.get? a).map fun o=>(a,o)
def a2N(g h:Heap)(L d:Addr):List (Addr×Obj):=(c0Z g h L).filter fun p=>decide (p.1≠d)
structure Mod(K:Fg)(mg:Str->Option Value)(base:Heap):Prop where
 kin:K.In base
 glob:base.Ns t5 mg
 blt:∃mb,base.Ns builtinsNs mb/\∀x:Str,x ≠ "__name__" -> mb x=a0f x
 nolimit:base.NoLimit
structure Cx where
 prog:w4
 w:World
 K:Fg
 mg:Str->Option Value
 base:Heap
 A:F8
 N:List Str
 s₀:g9
 H₀:Hp
 env:Env
 outer:List Env
 stack:List Env
 ex:List Addr
 fn:Str->Bool
 calm:Bool
 pn:List (Addr×Obj)
 xe:Value->g9->Prop
variable{X:Cx}
def frs(l:List Env):List Addr:=l.filterMap (·.frame)
abbrev Cx.fs(X:Cx):List Addr:=frs X.outer
def Vis(sc:Scope)(x:Str):Prop:=sc.names.lookup x=some .local\/sc.names.lookup x=some .cell\/sc.names.lookup x=some .free
def Loc(sc:Scope)(x:Str):Prop:=sc.names.lookup x=some .local\/sc.names.lookup x=some .cell
def c6a(env:Env)(h:Heap)(m:Str->Option Value)(x:Str)(u:Value):Prop:=
 (env.kindOf x=some .local/\m x=some u)\/((env.kindOf x=some .cell\/env.kindOf x=some .free)/\∃c,env.cells.lookup x=some c/\h.IsCell c (some u))
structure Cx.Ok(X:Cx):Prop where
 mod:Mod X.K X.mg X.base
 kind:X.env.scope.kind=.function
 glob:X.env.globals=t5
 blt:X.env.builtins=builtinsNs
 above:X.s₀.heap.objs.size<=X.env.locals
 inj:∀x y c,X.env.cells.lookup x=some c->X.env.cells.lookup y=some c->x=y
 has:∀x,(X.env.kindOf x=some .cell\/X.env.kindOf x=some .free)->∃c,X.env.cells.lookup x=some c
 cab:∀x c,X.fn x=true->X.env.cells.lookup x=some c->X.s₀.heap.objs.size<=c
 hd:X.calm=true->X.A.handled=none
 frames:X.A.frames=some X.stack
 stk:X.stack=X.outer\/(X.stack=X.env::X.outer/\X.env.frame=some X.env.locals)
 exf:∀b∈X.ex,b≠X.env.locals/\∀x c,X.env.cells.lookup x=some c->c≠b
 bs:∀b o,X.base.get? b=some o->X.s₀.heap.get? b=some o/\X.H₀ b=none
 bsz:X.base.objs.size<=X.s₀.heap.objs.size
 noex:∀b o,X.base.get? b=some o->b∉X.ex
 exfs:∀b∈X.ex,b∉X.fs
 funs:X.s₀.heap.FunFrames X.base X.outer
 frf:∀b∈X.fs,X.H₀ b=none
structure Inv(X:Cx)(pins:List (Addr×Obj))(σ:List (Option V))(H:Hp)(s:g9):Prop where
 ok:X.Ok
 os:s.os=X.s₀.os
 bare:b0g s.gens
 base:Un X.fs X.ex X.H₀ H X.s₀.heap s.heap
 loc:∃m,s.heap.Ns X.env.locals m/\∀(i:Nat) (x:Str) (v:V),X.N[i]? = some x->σ[i]? = some (some v)->Vis X.env.scope x->∃u,C4 v u/\c6a X.env s.heap m x u
 cell:∀x c,X.env.cells.lookup x=some c->∃v,s.heap.IsCell c v
 free:H X.env.locals=none
 freeC:∀x c,X.env.cells.lookup x=some c->H c=none
 pin:∀p∈X.pn++pins,s.heap.get? p.1=some p.2/\H p.1=none/\p.1≠X.env.locals/\p.1∉X.fs/\∀v,p.2.data≠.cell v
 hok:HOk X.prog X.w H s.heap
 len:σ.length=X.N.length
section
variable {σ:List (Option V)}
theorem Cx.Ok.nofr(ok:X.Ok){o:Obj}(e:X.base.get? b=some o):b∉X.fs:=fun hb=>by
 have:=(ok.funs.mem hb).1
 rw[e]at this;cases this
theorem Inv.bs(I:Inv X pins σ H s):∀b o,X.base.get? b=some o->s.heap.get? b=some o/\H b=none:=fun b o e=>
 ⟨I.base.keep b o (I.ok.bs b o e).1 (I.ok.bs b o e).2 (I.ok.nofr e) (I.ok.noex b o e),I.base.free b o (I.ok.bs b o e).1 (I.ok.bs b o e).2 (I.ok.noex b o e)⟩
theorem Inv.bk(I:Inv X pins σ H s):∀b o,X.base.get? b=some o->s.heap.get? b=some o:=fun b o e=>(I.bs b o e).1
theorem Inv.mod(I:Inv X pins σ H s):Mod X.K X.mg X.base:=I.ok.mod
theorem Inv.kIn(I:Inv X pins σ H s):X.K.In s.heap:=I.ok.mod.kin.keeps I.bk
theorem Inv.lt(I:Inv X pins σ H s):X.env.locals<s.heap.objs.size:=let⟨_,hn,_⟩:=I.loc;hn.lt
theorem Inv.sz(I:Inv X pins σ H s):X.s₀.heap.objs.size<=s.heap.objs.size:=A9 I.ok.above (b6r I.lt)
theorem Inv.nofs(I:Inv X pins σ H s)(h:s.heap.objs.size<=a):a∉X.fs:=fun hb=>by
 obtain⟨_,o,ho,_⟩:=I.ok.funs.mem hb
 exact absurd (v7 (i8 ho) (A9 I.sz h)) (E2 _)
theorem Inv.cne(I:Inv X pins σ H s):∀x c,X.env.cells.lookup x=some c->c≠X.env.locals:=fun x c e z=>by
 obtain⟨v,o,ho,hd⟩:=I.cell x c e
 obtain⟨m,⟨o',es,ep,ho',hd',_⟩,_⟩:=I.loc
 rw[z,ho']at ho;cases ho;rw[hd']at hd;cases hd
theorem Inv.funs(I:Inv X pins σ H s):s.heap.FunFrames X.base X.outer:=by
 have all:∀(l:List Env),(∀b∈frs l,b∈X.fs)->X.s₀.heap.FunFrames X.base l->s.heap.FunFrames X.base l:=by
  intro l
  induction l with
  | nil=>intro _ _;trivial
  | cons env r ih=>
   intro hs hl
   obtain⟨hk,⟨L,o,hf,hn,ho,hd⟩,hr⟩:=hl
   have hL:L∈X.fs:=hs L (by unfold frs;rw[a6g,hf];exact D0)
   obtain⟨sl,e⟩:=I.base.slot L o ho (I.ok.frf L hL) hL fun z=>I.ok.exfs L z hL
   exact⟨hk,⟨L,_,hf,hn,e,hd⟩,ih (fun b hb=>hs b (by unfold frs;rw[a6g,hf];exact C3 _ hb)) hr⟩
 exact all X.outer (fun _ hb=>hb) I.ok.funs
theorem Inv.stack(I:Inv X pins σ H s):s.heap.FunFrames X.base X.stack:=by
 rcases I.ok.stk with e | ⟨e,hf⟩
 ·rw[e];exact I.funs
 ·rw[e]
  obtain⟨m,hn,_⟩:=I.loc
  refine .cons (by rw[I.ok.kind];decide) hf hn ?_ I.funs
  exact Heap.get?_none_of_le (A9 I.ok.bsz I.ok.above)
theorem Inv.stkSub(I:Inv X pins σ H s):∀b∈frs X.stack,b∈X.env.locals::X.fs:=fun b hb=>by
 rcases I.ok.stk with e | ⟨e,hf⟩
 ·rw[e]at hb;exact C3 _ hb
 ·rw[e]at hb
  unfold frs at hb
  rw[a6g,hf]at hb
  exact hb
theorem Inv.stkFree(I:Inv X pins σ H s):∀b∈frs X.stack,H b=none:=fun b hb=>by
 rcases c8.mp (I.stkSub b hb)with e | hb
 ·rw[e];exact I.free
 ·obtain⟨_,o,ho,_⟩:=I.ok.funs.mem hb
  exact I.base.free b o ho (I.ok.frf b hb) fun z=>I.ok.exfs b z hb
theorem Inv.step{g':Array GenState}{t':Nat}{d':Drawn}{ch:List Addr}(I:Inv X pins σ H s)
  (hch:∀b∈ch,(b∈X.ex\/X.s₀.heap.objs.size<=b)/\b≠X.env.locals/\(∀x c,X.env.cells.lookup x=some c->c≠b)/\∀p∈X.pn++pins,p.1≠b)
  (keep:∀b o,b≠X.env.locals->b∉X.fs->b∉ch->s.heap.get? b=some o->H b=none->h'.get? b=some o)
  (slot:∀b o,b≠X.env.locals->b∈X.fs->b∉ch->s.heap.get? b=some o->H b=none->∃sl,h'.get? b=some { o with slots:=sl }) (free:∀b o,b∉ch->s.heap.get? b=some o->H b=none->H' b=none)
  (there:∀b o,b∉ch->s.heap.get? b=some o->∃o',h'.get? b=some o')
  (tups:∀b xs,H b=some (.tup xs)->H' b=some (.tup xs)) (frzs:∀b o u,H b=some (.frz o u)->H' b=some (.frz o u)) (tbls:∀b ps,H b=some (.tbl ps)->∃more,H' b=some (.tbl (ps++more)))
  (ns:∀m,s.heap.Ns X.env.locals m->h'.Ns X.env.locals m) (hok:HOk X.prog X.w H' h') (hg:b0g g') :
  Inv X pins σ H' { s with heap:=h',gens:=g',drawn:=d',toks:=t' }:=by
 have neL:∀b o,X.s₀.heap.get? b=some o->b≠X.env.locals:=fun b o e=>u7 (v7 (i8 e) I.ok.above)
 have neC:∀b o,X.s₀.heap.get? b=some o->b∉X.ex->b∉ch:=fun b o e hx hb=>by
  rcases(hch b hb).1 with z | z
  ·exact hx z
  ·exact absurd (v7 (i8 e) z) (E2 _)
 have cellK:∀x c,X.env.cells.lookup x=some c->∀v,s.heap.IsCell c v->h'.IsCell c v:=fun x c e v ⟨o,ho,hd⟩=>by
  have nch:c∉ch:=fun z=>(hch c z).2.2.1 x c e rfl
  by_cases hc:c∈X.fs
  ·obtain⟨sl,q⟩:=slot c o (I.cne x c e) hc nch ho (I.freeC x c e)
   exact⟨_,q,hd⟩
  ·exact⟨o,keep c o (I.cne x c e) hc nch ho (I.freeC x c e),hd⟩
 refine⟨I.ok,I.os,hg,⟨fun b o e n hb hx=>?_,fun b o e n hb hx=>?_,fun b o e n hx=>?_,fun b o e hx=>?_,fun b xs e=>tups b xs (I.base.tups b xs e),fun b o xs e=>frzs b o xs (I.base.frzs b o xs e),fun b ps e=>?_⟩,?_,fun x c e=>?_,?_,fun x c e=>?_,fun p hp=>?_,hok,I.len⟩
 ·exact keep b o (neL b o e) hb (neC b o e hx) (I.base.keep b o e n hb hx) (I.base.free b o e n hx)
 ·obtain⟨sl,e1⟩:=I.base.slot b o e n hb hx
  obtain⟨sl',e2⟩:=slot b _ (neL b o e) hb (neC b o e hx) e1 (I.base.free b o e n hx)
  exact⟨sl',e2⟩
 ·obtain⟨o',e1⟩:=I.base.there b o e hx
  exact free b o' (neC b o e hx) e1 (I.base.free b o e n hx)
 ·obtain⟨o',e1⟩:=I.base.there b o e hx
  exact there b o' (neC b o e hx) e1
 ·obtain⟨m1,e1⟩:=I.base.tbls b ps e
  obtain⟨m2,e2⟩:=tbls b _ e1
  exact⟨m1++m2,by rw[e2,Array.append_assoc]⟩
 ·obtain⟨m,hn,hl⟩:=I.loc
  refine⟨m,ns m hn,fun i x v e1 e2 e3=>?_⟩
  obtain⟨u,r,l⟩:=hl i x v e1 e2 e3
  refine⟨u,r,?_⟩
  rcases l with l | ⟨k,c,e,z⟩
  ·exact .inl l
  ·exact .inr ⟨k,c,e,cellK x c e _ z⟩
 ·obtain⟨v,z⟩:=I.cell x c e
  exact⟨v,cellK x c e v z⟩
 ·obtain⟨m,⟨o,_,_,ho,_⟩,_⟩:=I.loc
  exact free _ o (fun z=>(hch _ z).2.1 rfl) ho I.free
 ·obtain⟨v,o,ho,hd⟩:=I.cell x c e
  exact free c o (fun z=>(hch c z).2.2.1 x c e rfl) ho (I.freeC x c e)
 ·obtain⟨e,n,ne,nf,d⟩:=I.pin p hp
  have nch:p.1∉ch:=fun z=>(hch p.1 z).2.2.2 p hp rfl
  exact⟨keep p.1 p.2 ne nf nch e n,free p.1 p.2 nch e n,ne,nf,d⟩
theorem Inv.un(I:Inv X pins σ H s)(u:Un X.fs [] H H' s.heap h')(hok:HOk X.prog X.w H' h'):Inv X pins σ H' { s with heap:=h',toks:=t' }:=by
 obtain⟨m,⟨o,es,ep,ho,r⟩,_⟩:=id I.loc
 obtain⟨sl,hL⟩:=u.any ho I.free (by simp)
 exact I.step (g':=s.gens) (d':=s.drawn) (ch:=[]) (fun _ z=>nomatch z) (fun b o _ hb _ e n=>u.keep b o e n hb (by simp)) (fun b o _ hb _ e n=>u.slot b o e n hb (by simp)) (fun b o _ e n=>u.free b o e n (by simp)) (fun b o _ e=>u.there b o e (by simp)) u.tups u.frzs u.tbls (fun m' hm=>by
  obtain⟨o',es',ep',ho',r'⟩:=hm
  rw[ho]at ho';cases ho'
  exact⟨_,es',ep',hL,r'⟩) hok I.bare
theorem Inv.call{g':Array GenState}{d':Drawn}{ch:List Addr}(I:Inv X pins σ H s)(u:Un (frs X.stack) ch H H' s.heap h')(hok:HOk X.prog X.w H' h')(hg:b0g g')
  (hch:∀b∈ch,(b∈X.ex\/X.s₀.heap.objs.size<=b)/\b≠X.env.locals/\(∀x c,X.env.cells.lookup x=some c->c≠b)/\∀p∈X.pn++pins,p.1≠b) :
  Inv X pins σ H' { s with heap:=h',gens:=g',drawn:=d',toks:=t' }:=by
 obtain⟨m,⟨o,es,ep,ho,r⟩,_⟩:=id I.loc
 obtain⟨sl,hL⟩:=u.any ho I.free fun z=>(hch _ z).2.1 rfl
 exact I.step (ch:=ch) hch (fun b o hL hb hc e n=>u.keep b o e n (fun z=>(c8.mp (I.stkSub b z)).elim hL hb) hc) (fun b o _ _ hc e n=>u.any e n hc) (fun b o hc e n=>u.free b o e n hc) (fun b o hc e=>u.there b o e hc) u.tups u.frzs u.tbls (fun m' hm=>by
  obtain⟨o',es',ep',ho',r'⟩:=hm
  rw[ho]at ho';cases ho'
  exact⟨_,es',ep',hL,r'⟩) hok hg
theorem Inv.turned{it:Addr}(I:Inv X pins σ H s)(k:∀b o,b≠it->s.heap.get? b=some o->h'.get? b=some o)(hn:H it=none)(hL:it≠X.env.locals)
  (h1:it∈X.ex\/X.s₀.heap.objs.size<=it) (h2:∀x c,X.env.cells.lookup x=some c->c≠it) (h3:∀p∈X.pn++pins,p.1≠it):Inv X pins σ H { s with heap:=h',toks:=t' }:=by
 have nit:∀b u,H b=some u->b≠it:=fun b u e z=>by rw[z,hn]at e;cases e
 refine I.step (g':=s.gens) (d':=s.drawn) (ch:=[it]) (fun b hb=>?_) (fun b o _ _ hc e _=>k b o (fun z=>hc (by simp[z])) e) (fun b o _ _ hc e _=>⟨o.slots,k b o (fun z=>hc (by simp[z])) e⟩) (fun _ _ _ _ n=>n)
  (fun b o hc e=>⟨o,k b o (fun z=>hc (by simp[z])) e⟩) (fun _ _ e=>e) (fun _ _ _ e=>e) (fun b ps e=>⟨#[],by rw[e];simp⟩) (fun m hm=>?_) (fun b u e=>?_) I.bare
 ·have e:b=it:=by simpa using hb
  subst e
  exact⟨h1,hL,h2,h3⟩
 ·obtain⟨o,es,ep,ho,r⟩:=hm
  exact⟨o,es,ep,k _ o (Ne.symm hL) ho,r⟩
 ·refine(I.hok b u e).stay (fun c v hc q=>k c v ?_ q) (fun _ q=>q) fun _ _ q=>q
  rcases hc with z | z
  ·rw[z];exact nit b u e
  ·exact nit c _ z
theorem Inv.tok(I:Inv X pins σ H s)(t:Nat):Inv X pins σ H { s with toks:=t }:=I.un (h':=s.heap) (t':=t) Un.refl I.hok
theorem Inv.kept(I:Inv X pins σ H s)(k:∀b u,s.heap.get? b=some u->h'.get? b=some u):Inv X pins σ H { s with heap:=h',toks:=t' }:=I.un (Un.kept k) (I.hok.kept k)
theorem Inv.laid(I:Inv X pins σ H s)(k:∀b u,s.heap.get? b=some u->h'.get? b=some u)(hp:s.heap.objs.size<=a)(new:R4 X.prog X.w (upd H a o) h' a o) :
  Inv X pins σ (upd H a o) { s with heap:=h',toks:=t' }:=I.un (Un.laid k hp (I.hok.fresh hp)) (I.hok.laid k hp new)
theorem Inv.write{x e:Addr}(I:Inv X pins σ H s)(mu:Mut (H x))(he:e=x\/H e=some (.own x))(k:∀b u,b≠e->s.heap.get? b=some u->h'.get? b=some u)(heo:∃u,h'.get? e=some u)
  (new:R4 X.prog X.w (upd H x o) h' x o):Inv X pins σ (upd H x o) { s with heap:=h',toks:=t' }:=I.un (Un.write mu he k heo) (I.hok.write mu he k heo new)
theorem Inv.weak{σ':List (Option V)}(I:Inv X pins σ H s)(hl:σ'.length=σ.length)(w:∀(i:Nat) v,σ'[i]? = some (some v)->σ[i]? = some (some v)):Inv X pins σ' H s:=
 ⟨I.ok,I.os,I.bare,I.base,let⟨m,hn,hl'⟩:=I.loc; ⟨m,hn,fun i x v e1 e2 e3=>hl' i x v e1 (w i v e2) e3⟩,I.cell,I.free,I.freeC,I.pin,I.hok,hl.trans I.len⟩
theorem Inv.pins_of{pins':List (Addr×Obj)}(I:Inv X pins σ H s)(h:∀p∈pins',s.heap.get? p.1=some p.2/\H p.1=none/\p.1≠X.env.locals/\p.1∉X.fs/\∀v,p.2.data≠.cell v):Inv X pins' σ H s:=
 ⟨I.ok,I.os,I.bare,I.base,I.loc,I.cell,I.free,I.freeC,fun p hp=>(o8.mp hp).elim (fun z=>I.pin p (A5 _ z)) (h p),I.hok,I.len⟩
theorem b2q{N:List Str}(hN:N.Nodup){j:Nat}{x:Str}(a:N[i]? = some x)(b:N[j]? = some x):i=j:=by
 obtain⟨h1,e1⟩:=k9.mp a
 obtain⟨h2,e2⟩:=k9.mp b
 exact(List.getElem_inj hN).mp (e1.trans e2.symm)
theorem a9N{M:Model}{A:F8}{E:Value->g9->Prop}{x:Str}{Q:Unit->g9->Prop}(I:Inv X pins σ H s)(hN:X.N.Nodup)(hi:X.N[i]? = some x)(hx:Loc X.env.scope x)(r:C4 v u)
  (h:∀s',Inv X pins (σ.set i (some v)) H s'->(∃a,Heap.SameBut a s.heap s'.heap/\(a=X.env.locals\/X.env.cells.lookup x=some a))->Q () s') (hf:X.fn x=true\/X.env.scope.names.lookup x=some .local:=by first | exact .inl rfl | exact .inr rfl | assumption):wpAny M A (storeName X.env x u) Q E s:=by
 obtain⟨m,hn,hl⟩:=id I.loc
 have hcls:(X.env.scope.kind == .class||(X.env.scope.kind == .module&&X.env.locals != X.env.globals))=false:=by rw[I.ok.kind];rfl
 have hiσ:i<σ.length:=by rw[I.len];exact(k9.mp hi).1
 have cne:=I.cne
 have tracked:∀ {a:Addr} {h':Heap},(∃o,s.heap.get? a=some o/\H a=none)->Heap.SameBut a s.heap h'->HOk X.prog X.w H h':=fun {a h'} ha hs b ob e=>by
  obtain⟨_,_,hfree⟩:=ha
  refine(I.hok b ob e).stay (fun c w' hc q=>(hs.2 c ?_).trans q) (fun _ q=>q) fun _ _ q=>q
  rintro rfl
  rcases hc with rfl | hc
  ·rw[hfree]at e;cases e
  ·rw[hfree]at hc;cases hc
 rcases hx with hk | hk
 ·refine wpAny_storeName_local hk hn (fun h' hn' hs=>?_) hcls
  obtain⟨oL,_,_,hoL,_⟩:=id hn
  refine h _ ⟨I.ok,I.os,I.bare,⟨fun b o e n hb hx=>?_,fun b o e n hb hx=>?_,I.base.free,fun b o e hx=>?_,I.base.tups,I.base.frzs,I.base.tbls⟩,⟨_,hn',fun j y v' e1 e2 e3=>?_⟩,fun y c e=>?_,I.free,I.freeC,fun p hp=>?_,tracked ⟨oL,hoL,I.free⟩ hs,by simpa using I.len⟩ ⟨_,hs,.inl rfl⟩
  ·exact(hs.2 b (u7 (v7 (i8 e) I.ok.above))).trans (I.base.keep b o e n hb hx)
  ·obtain⟨sl,e1⟩:=I.base.slot b o e n hb hx
   exact⟨sl,(hs.2 b (u7 (v7 (i8 e) I.ok.above))).trans e1⟩
  ·obtain⟨o',e1⟩:=I.base.there b o e hx
   exact⟨o',(hs.2 b (u7 (v7 (i8 e) I.ok.above))).trans e1⟩
  ·by_cases hj:j=i
   ·subst hj
    rw[hi]at e1;cases e1
    rw[F7 hiσ]at e2
    cases e2
    exact⟨u,r,.inl ⟨hk,by simp⟩⟩
   ·rw[J9 (Ne.symm hj)]at e2
    obtain⟨u',r',q⟩:=hl j y v' e1 e2 e3
    refine⟨u',r',?_⟩
    rcases q with ⟨k,e⟩ | ⟨k,c,e,z⟩
    ·refine .inl ⟨k,?_⟩
     have:y≠x:=fun e=>hj (b2q hN e1 (e ▸ hi))
     simp[this,e]
    ·exact .inr ⟨k,c,e,z.sameBut hs (cne y c e)⟩
  ·obtain⟨w',z⟩:=I.cell y c e
   exact⟨w',z.sameBut hs (cne y c e)⟩
  ·obtain⟨e,n,ne,nf,d⟩:=I.pin p hp
   exact⟨(hs.2 p.1 ne).trans e,n,ne,nf,d⟩
 ·have hfn:X.fn x=true:=by
   rcases hf with z | z
   ·exact z
   ·rw[z]at hk;cases hk
  obtain⟨c,hc⟩:=I.ok.has x (.inl hk)
  obtain⟨w',z⟩:=I.cell x c hc
  refine wpAny_storeName_cell I.ok.kind hk hc z (fun h' hc' hs=>?_)
  obtain⟨oc,hoc,hocd⟩:=id z
  refine h { s with heap:=h' } ⟨I.ok,I.os,I.bare,⟨fun b o e n hb hx=>?_,fun b o e n hb hx=>?_,I.base.free,fun b o e hx=>?_,I.base.tups,I.base.frzs,I.base.tbls⟩,⟨m,hn.sameBut hs (Ne.symm (cne x c hc)),fun j y v' e1 e2 e3=>?_⟩,fun y c' e=>?_,I.free,I.freeC,fun p hp=>?_,tracked ⟨oc,hoc,I.freeC x c hc⟩ hs,by simpa using I.len⟩ ⟨c,hs,.inr hc⟩
  ·exact(hs.2 b (u7 (v7 (i8 e) (I.ok.cab x c hfn hc)))).trans (I.base.keep b o e n hb hx)
  ·obtain⟨sl,e1⟩:=I.base.slot b o e n hb hx
   exact⟨sl,(hs.2 b (u7 (v7 (i8 e) (I.ok.cab x c hfn hc)))).trans e1⟩
  ·obtain⟨o',e1⟩:=I.base.there b o e hx
   exact⟨o',(hs.2 b (u7 (v7 (i8 e) (I.ok.cab x c hfn hc)))).trans e1⟩
  ·by_cases hj:j=i
   ·subst hj
    rw[hi]at e1;cases e1
    rw[F7 hiσ]at e2
    cases e2
    exact⟨u,r,.inr ⟨.inl hk,c,hc,hc'⟩⟩
   ·rw[J9 (Ne.symm hj)]at e2
    obtain⟨u',r',q⟩:=hl j y v' e1 e2 e3
    refine⟨u',r',?_⟩
    rcases q with q | ⟨k,c',e,z'⟩
    ·exact .inl q
    ·refine .inr ⟨k,c',e,z'.sameBut hs ?_⟩
     rintro rfl
     exact hj (b2q hN e1 (I.ok.inj _ _ _ e hc ▸ hi))
  ·by_cases hcc:c'=c
   ·subst hcc;exact⟨_,hc'⟩
   ·obtain⟨w2,z2⟩:=I.cell y c' e
    exact⟨w2,z2.sameBut hs hcc⟩
  ·obtain⟨e,n,ne,nf,d⟩:=I.pin p hp
   refine⟨(hs.2 p.1 ?_).trans e,n,ne,nf,d⟩
   intro q
   rw[q,hoc]at e
   have q':oc=p.2:=Option.some.inj e
   exact d w' (by rw[<-q'];exact hocd)
theorem a5v{M:Model}{A:F8}{E:Value->g9->Prop}{x:Str}{Q:Unit->g9->Prop}(I:Inv X pins σ H s)(hN:X.N.Nodup)(hi:X.N[i]? = some x)(hx:Loc X.env.scope x)(r:C4 v u)
  (h:∀s',Inv X pins (σ.set i (some v)) H s'->Q () s') (hf:X.fn x=true\/X.env.scope.names.lookup x=some .local:=by first | exact .inl rfl | exact .inr rfl | assumption):wpAny M A (storeName X.env x u) Q E s:=
 a9N I hN hi hx r (fun s' I' _=>h s' I') hf
theorem Inv.call'{s':g9}{ch:List Addr}(I:Inv X pins σ H s)(ho:s'.os=s.os)(u:Un (frs X.stack) ch H H' s.heap s'.heap)(hok:HOk X.prog X.w H' s'.heap)(hg:b0g s'.gens)
  (hch:∀b∈ch,(b∈X.ex\/X.s₀.heap.objs.size<=b)/\b≠X.env.locals/\(∀x c,X.env.cells.lookup x=some c->c≠b)/\∀p∈X.pn++pins,p.1≠b):Inv X pins σ H' s':=by
 obtain⟨h',g',d',t',o'⟩:=s'
 have e:o'=s.os:=ho
 subst e
 exact I.call (g':=g') (t':=t') (d':=d') u hok hg hch
end
abbrev XK:=Value->Option Addr->Hp->Prop
abbrev St:=List (Option V)
variable{σ:St}
abbrev VK:=V->Hp->Prop
abbrev TE:=St->Hp->VK->Prop
variable{ta te:TE}
abbrev TT:=St->Hp->(Bool->Hp->Prop)->Prop
abbrev TA:=St->Hp->(List V->Hp->Prop)->Prop
structure a6Z where
 nx:St->Hp->Prop
 rt:VK
 bk:St->Hp->Prop:=fun _ _=>False
 ct:St->Hp->Prop:=fun _ _=>False
abbrev TS:=a6Z->St->Hp->Prop
variable{tb:TS}
def EP(X:Cx)(pins:List (Addr×Obj))(σ:St)(Q:VK)(u:Value)(s':g9):Prop:=∃v H',Inv X pins σ H' s'/\C4 v u/\Q v H'
def TP(X:Cx)(pins:List (Addr×Obj))(σ:St)(Q:Bool->Hp->Prop)(b:Bool)(s':g9):Prop:=∃H',Inv X pins σ H' s'/\Q b H'
def AP(X:Cx)(pins:List (Addr×Obj))(σ:St)(Q:List V->Hp->Prop)(us:List Value)(s':g9):Prop:=∃vs H',Inv X pins σ H' s'/\D8 vs us/\Q vs H'
def SP(X:Cx)(pins:List (Addr×Obj))(D:a6Z)(f:Flow)(s':g9):Prop:=
 match f with
 | .next=>∃σ' H',Inv X pins σ' H' s'/\D.nx σ' H'
 | .brk=>∃σ' H',Inv X pins σ' H' s'/\D.bk σ' H'
 | .cont=>∃σ' H',Inv X pins σ' H' s'/\D.ct σ' H'
 | .ret u=>∃v σ' H',Inv X pins σ' H' s'/\C4 v u/\D.rt v H'
def PE(X:Cx)(e:Expr)(t:TE):Prop:=
 ∀(pins:List (Addr×Obj)) (s:g9) (σ:St) (H:Hp) (Q:VK),Inv X pins σ H s->t σ H Q->wpAny (model X.prog X.w) X.A (eval e X.env) (EP X pins σ Q) X.xe s
def PT(X:Cx)(e:Expr)(t:TT):Prop:=
 ∀(pins:List (Addr×Obj)) (s:g9) (σ:St) (H:Hp) (Q:Bool->Hp->Prop),Inv X pins σ H s->t σ H Q->wpAny (model X.prog X.w) X.A (isTrue e X.env (eval e X.env)) (TP X pins σ Q) X.xe s
def PW(X:Cx)(e:Expr)(t:TT):Prop:=
 ∀(whole:Sem Value) (pins:List (Addr×Obj)) (s:g9) (σ:St) (H:Hp) (Q:Bool->Hp->Prop),Inv X pins σ H s->t σ H Q->wpAny (model X.prog X.w) X.A (isTrue e X.env whole) (TP X pins σ Q) X.xe s
theorem PW.pt{t:TT}(h:PW X e t):PT X e t:=h _
def PA(X:Cx)(es:List Expr)(t:TA):Prop:=
 ∀(pos:Pos) (pins:List (Addr×Obj)) (s:g9) (σ:St) (H:Hp) (Q:List V->Hp->Prop),Inv X pins σ H s->t σ H Q->wpAny (model X.prog X.w) X.A (spliced (U8 pos (g7 es X.env))) (AP X pins σ Q) X.xe s
def PS(X:Cx)(st:Stmt)(t:TS):Prop:=
 ∀(pins:List (Addr×Obj)) (s:g9) (σ:St) (H:Hp) (D:a6Z),Inv X pins σ H s->t D σ H->wpAny (model X.prog X.w) X.A (exec st X.env) (SP X pins D) X.xe s
def PSs(X:Cx)(st:List Stmt)(t:TS):Prop:=
 ∀(pins:List (Addr×Obj)) (s:g9) (σ:St) (H:Hp) (D:a6Z),Inv X pins σ H s->t D σ H->wpAny (model X.prog X.w) X.A (execs st X.env) (SP X pins D) X.xe s
theorem thn{α:Type}{t:Sem α}{Q Q':α->g9->Prop}{M:Model}{A:F8}{E:Value->g9->Prop}(h:wpAny M A t Q E s)(hQ:∀a s,Q a s->Q' a s):wpAny M A t Q' E s:=U6 h hQ fun _ _ x=>x
section
def b5(i:Nat):TE:=fun σ H Q=>∃v,σ[i]? = some (some v)/\Q v H
def tC(v:V):TE:=fun _ H Q=>Q v H
theorem c2I{x:Str}(hN:X.N[i]? = some x)(hv:Vis X.env.scope x)(hd:(x == ("__debug__" : Str))=false:=by decide)(hcd:(x == ("__classdict__" : Str))=false:=by decide):PE X (.Name x pos) (b5 i):=by
 intro pins s σ H Q I h
 obtain⟨v,e,h⟩:=h
 obtain⟨m,hn,hl⟩:=I.loc
 obtain⟨u,r,l⟩:=hl i x v hN e hv
 have fin:EP X pins σ Q u s:=⟨v,H,I,r,h⟩
 rcases l with ⟨hk,hm⟩ | ⟨hk,c,hc,hcell⟩
 ·exact wpAny_Name (c5D I.ok.kind hk hn hm fin) hd
 ·rcases hk with hk | hk
  ·exact wpAny_Name (c5E I.ok.kind hk hc hcell fin) hd
  ·exact wpAny_Name (wpAny_loadName_free I.ok.kind hk hc hcell fin hcd) hd
theorem c2R{i j pos}:PE X (.Constant (.int i) j pos) (tC (.int i)):=fun _ _ _ H _ I h=>wpAny_Constant_int ⟨.int i,H,I.tok _,⟨_,rfl⟩,h⟩
theorem c5e{b j pos}:PE X (.Constant (.bool b) j pos) (tC (.bl b)):=fun _ _ _ H _ I h=>Constant_bool ⟨.bl b,H,I,rfl,h⟩
theorem c2O{j pos}:PE X (.Constant .none j pos) (tC .non):=fun _ _ _ H _ I h=>Constant_none ⟨.non,H,I,rfl,h⟩
theorem c2K{x j pos}:PE X (.Constant (.str x) j pos) (tC (.str x)):=fun _ _ _ H _ I h=>Calls.Constant_str ⟨.str x,H,I.tok _,⟨_,rfl⟩,h⟩
def Gl(X:Cx)(x:Str):Prop:=X.env.kindOf x=some .globalImplicit
theorem b0J{E:Value->g9->Prop}{x:Str}(I:Inv X pins σ H s)(hg:Gl X x)(hm:X.mg x=some u)(h:Q u s)
  (hd:(x == ("__debug__" : Str))=false:=by decide):wpAny (model X.prog X.w) X.A (eval (.Name x pos) X.env) Q E s:=
 Calls.Name_function_global I.ok.kind hg (Calls.loadGlobal_global (by rw[I.ok.glob];exact I.mod.glob.keeps I.bk) hm h) hd
theorem a6O{E:Value->g9->Prop}{x:Str}(I:Inv X pins σ H s)(hg:Gl X x)(hm:X.mg x=none)(hv:a0f x=some u)(h:Q u s)
  (hn:x ≠ "__name__" := by decide) (hd:(x == ("__debug__" : Str))=false:=by decide):wpAny (model X.prog X.w) X.A (eval (.Name x pos) X.env) Q E s:=by
 obtain⟨mb,h1,h2⟩:=I.mod.blt
 exact Calls.Name_function_global I.ok.kind hg (Calls.loadGlobal_builtin (by rw[I.ok.glob];exact I.mod.glob.keeps I.bk) hm (by rw[I.ok.blt];exact h1.keeps I.bk) ((h2 x hn).trans hv) h) hd
theorem b9W{x:Str}(hg:Gl X x)(hm:X.mg x=some u)(r:C4 v u)(hd:(x == ("__debug__" : Str))=false:=by decide):PE X (.Name x pos) (tC v):=
 fun _ _ _ H _ I h=>b0J I hg hm ⟨v,H,I,r,h⟩ hd
theorem c0c{x:Str}(hg:Gl X x)(hm:X.mg x=none)(hv:a0f x=some u)(r:C4 v u)(hn:x ≠ "__name__" := by decide)(hd:(x == ("__debug__" : Str))=false:=by decide):PE X (.Name x pos) (tC v):=
 fun _ _ _ H _ I h=>a6O I hg hm hv ⟨v,H,I,r,h⟩ hn hd
variable {a b:Expr}{tb:TE}
def PC(X:Cx)(op:CmpOp)(a b:Expr)(t:TE):Prop:=
 ∀(pins:List (Addr×Obj)) (s:g9) (σ:St) (H:Hp) (Q:VK),Inv X pins σ H s->t σ H Q ->
  wpAny (model X.prog X.w) X.A (eval a X.env) (fun v s₁=>wpAny (model X.prog X.w) X.A (eval b X.env) (fun u s₂=>wpAny (model X.prog X.w) X.A (p9 op v u) (EP X pins σ Q) X.xe s₂) X.xe s₁) X.xe s
def tB(t:TE):TT:=fun σ H Q=>t σ H fun x H1=>∃c,x=.bl c/\Q c H1
theorem c2T{op:CmpOp}{t:TE}(h:PC X op a b t)(h1:M3 op b=false:=by first | exact nobehind _ (by decide) (by decide) | rfl):PE X (.Compare a [op] [b] pos) t:=fun pins s σ H Q I hw=>wpAny_Compare1 (h pins s σ H Q I hw) h1
theorem b7E{op:CmpOp}{t:TE}(h:PC X op a b t)(h1:M3 op b=false:=by first | exact nobehind _ (by decide) (by decide) | rfl):PT X (.Compare a [op] [b] pos) (tB t):=by
 intro pins s σ H Q I hw
 refine c4o (thn (h pins s σ H _ I hw) fun v s1 h1=>thn h1 fun u s2 h2=>thn h2 fun c s3 ⟨x,H1,I1,r1,q1⟩=>?_) h1
 obtain⟨d,rfl,q⟩:=q1
 cases r1
 exact I0 ⟨H1,I1,q⟩
theorem c2y{t:TE}(h:PE X e t)(he:∀whole,isTrue e X.env whole=(do let v <-whole;b6C e.pos;a3t [v] (truthy v)):=by intro _;rfl):PT X e (tB t):=by
 intro pins s σ H Q I hw
 refine isTrue_plain (thn (h pins s σ H _ I hw) fun v s1 ⟨x,H1,I1,r1,q1⟩=>?_) (he _)
 obtain⟨d,rfl,q⟩:=q1
 cases r1
 exact I0 ⟨H1,I1,q⟩
variable {tA tB':TT}{a2N:List Expr}
def a8d(t u:TT):TT:=fun σ H Q=>t σ H fun c H1=>if c=true then u σ H1 Q else Q false H1
def tOr(t u:TT):TT:=fun σ H Q=>t σ H fun c H1=>if c=true then Q true H1 else u σ H1 Q
def a4J(t:TT):TT:=fun σ H Q=>t σ H fun c H1=>Q (!c) H1
theorem b9D(ha:PT X a tA):PW X (.BoolOp .And [a] pos) tA:=by
 intro wh pins s σ H Q I h
 refine isTrue_and (thn (ha pins s σ H Q I h) fun c s1 e=>?_)
 cases c with
 | true=>exact isTrue_and_nil e
 | false=>exact e
theorem c2w(ha:PT X a tA):PW X (.BoolOp .Or [a] pos) tA:=by
 intro wh pins s σ H Q I h
 refine isTrue_or (thn (ha pins s σ H Q I h) fun c s1 e=>?_)
 cases c with
 | false=>exact isTrue_or_nil e
 | true=>exact e
theorem c2x(ha:PT X a tA)(hb:PW X (.BoolOp .And (b::a2N) pos) tB'):PW X (.BoolOp .And (a::b::a2N) pos) (a8d tA tB'):=by
 intro wh pins s σ H Q I h
 refine isTrue_and (thn (ha pins s σ H _ I h) fun c s1 ⟨H1,I1,q1⟩=>?_)
 cases c with
 | true=>exact hb wh pins s1 σ H1 Q I1 q1
 | false=>exact⟨H1,I1,q1⟩
theorem c4X(ha:PT X a tA)(hb:PW X (.BoolOp .Or (b::a2N) pos) tB'):PW X (.BoolOp .Or (a::b::a2N) pos) (tOr tA tB'):=by
 intro wh pins s σ H Q I h
 refine isTrue_or (thn (ha pins s σ H _ I h) fun c s1 ⟨H1,I1,q1⟩=>?_)
 cases c with
 | true=>exact⟨H1,I1,q1⟩
 | false=>exact hb wh pins s1 σ H1 Q I1 q1
theorem c2z(ha:PT X a tA):PT X (.UnaryOp .Not a pos) (a4J tA):=by
 intro pins s σ H Q I h
 exact isTrue_not (ha pins s σ H (fun c H1=>Q (!c) H1) I h)
def a0a(ta tb:TE):TE:=fun σ H Q=>ta σ H fun x H1=>∃c,x=.bl c/\if c=true then tb σ H1 Q else Q (.bl false) H1
def b9i(ta tb:TE):TE:=fun σ H Q=>ta σ H fun x H1=>∃c,x=.bl c/\if c=true then Q (.bl true) H1 else tb σ H1 Q
def b1Q(ta:TE):TE:=fun σ H Q=>ta σ H fun x H1=>∃c,x=.bl c/\Q (.bl (!c)) H1
theorem c2M{op}{t:TE}(h:PE X a t):PE X (.BoolOp op [a] pos) t:=fun pins s σ H Q I hw=>BoolOp_one (h pins s σ H Q I hw)
theorem c2V(ha:PE X a ta)(hb:PE X (.BoolOp .And (b::a2N) pos) tb):PE X (.BoolOp .And (a::b::a2N) pos) (a0a ta tb):=by
 intro pins s σ H Q I h
 refine BoolOp_and (thn (ha pins s σ H _ I h) fun v s1 ⟨x,H1,I1,r1,q1⟩=>?_)
 obtain⟨c,rfl,q1⟩:=q1
 cases r1
 refine I0 ?_
 cases c with
 | true=>exact hb pins s1 σ H1 Q I1 q1
 | false=>exact⟨.bl false,H1,I1,rfl,q1⟩
theorem c4Z(ha:PE X a ta)(hb:PE X (.BoolOp .Or (b::a2N) pos) tb):PE X (.BoolOp .Or (a::b::a2N) pos) (b9i ta tb):=by
 intro pins s σ H Q I h
 refine BoolOp_or (thn (ha pins s σ H _ I h) fun v s1 ⟨x,H1,I1,r1,q1⟩=>?_)
 obtain⟨c,rfl,q1⟩:=q1
 cases r1
 refine I0 ?_
 cases c with
 | false=>exact hb pins s1 σ H1 Q I1 q1
 | true=>exact⟨.bl true,H1,I1,rfl,q1⟩
theorem c2N(ha:PE X a ta):PE X (.UnaryOp .Not a pos) (b1Q ta):=by
 intro pins s σ H Q I h
 refine UnaryOp_ (thn (ha pins s σ H _ I h) fun v s1 ⟨x,H1,I1,r1,q1⟩=>?_)
 obtain⟨c,rfl,q1⟩:=q1
 cases r1
 exact not_of (I0 ⟨.bl (!c),H1,I1,rfl,q1⟩)
def tIf(t:TT)(ta tb:TE):TE:=fun σ H Q=>t σ H fun c H1=>if c=true then ta σ H1 Q else tb σ H1 Q
theorem b7P(hc:PT X c tA)(ha:PE X a ta)(hb:PE X b tb):PE X (.IfExp c a b pos) (tIf tA ta tb):=by
 intro pins s σ H Q I h
 refine wpAny_IfExp (thn (hc pins s σ H _ I h) fun d s1 ⟨H1,I1,q1⟩=>?_)
 cases d with
 | true=>exact ha pins s1 σ H1 Q I1 q1
 | false=>exact hb pins s1 σ H1 Q I1 q1
end
def SqL(K:Fg)(H:Hp)(a:Addr)(xs:List V):Prop:=
 Rd H a (.lst xs) \/
  ∃(o:Obj) (its:Array Value) (n:Nat),K.lookup a=some o/\o.cls=.type "list" /\ o.dict=none/\o.data=.seq its n/\its.size<=l7/\D8 xs its.toList
def SqT(K:Fg)(H:Hp)(a:Addr)(xs:List V):Prop:=
 Rd H a (.tup xs) \/
  ∃(o:Obj) (its:Array Value) (n:Nat),K.lookup a=some o/\o.cls=.type "tuple" /\ o.data=.seq its n/\its.size<=l7/\D8 xs its.toList
def c5Y:Value->Option V
 | .none=>some .non
 | .bool b=>some (.bl b)
 | .int i _=>some (.int i)
 | .str x _=>some (.str x)
 | .bytes b _=>some (.byt b)
 | .float b _=>some (.flt b)
 | .ref a=>some (.ref a)
 | .type n=>some (.ty n)
 | _=>none
theorem C4.abs{x:V}(r:C4 x u):c5Y u=some x:=by
 cases x with
 | non=>cases r;rfl
 | bl _=>cases r;rfl
 | int _=>obtain⟨t,rfl⟩:=r;rfl
 | str _=>obtain⟨t,rfl⟩:=r;rfl
 | byt _=>obtain⟨t,rfl⟩:=r;rfl
 | flt _=>obtain⟨t,rfl⟩:=r;rfl
 | ref _=>cases r;rfl
 | ty _=>cases r;rfl
theorem C4.inj{x:V}(r:C4 x u)(q:C4 y u):x=y:=Option.some.inj (r.abs.symm.trans q.abs)
theorem D8.inj:∀ {xs ys:List V} {us:List Value},D8 xs us->D8 ys us->xs=ys
 | _,_,_,.nil,.nil=>rfl
 | _,_,_,.cons r t,.cons r' t'=>by rw[r.inj r',D8.inj t t']
section
variable {ys:List V}
theorem SqL.of{K:Fg}(h:H a=some (.lst xs)):SqL K H a xs:=.inl (.inl h)
theorem SqT.of{K:Fg}(h:H a=some (.tup xs)):SqT K H a xs:=.inl (.inl h)
theorem Inv.list(I:Inv X pins σ H s)(h:SqL X.K H a xs):∃its:List Value,D8 xs its/\PlainL s.heap a its.toArray/\xs.length<=l7:=by
 rcases h with h | ⟨o,its,n,hk,hc,hd,hs,hz,r⟩
 ·obtain⟨z,its,n,r,e⟩:=h.ok I.hok
  exact⟨its,r,⟨_,n,e,rfl,rfl,rfl⟩,z⟩
 ·refine⟨its.toList,r,⟨o,n,I.kIn a o hk,hc,hd,by simpa using hs⟩,?_⟩
  have e:=r.length
  simp only[Z7]at e
  omega
theorem Inv.tuple(I:Inv X pins σ H s)(h:SqT X.K H a xs):∃its:List Value,D8 xs its/\IsTup s.heap a its.toArray/\xs.length<=l7:=by
 rcases h with h | ⟨o,its,n,hk,hc,hs,hz,r⟩
 ·obtain⟨z,its,r,p⟩:=h.ok I.hok
  exact⟨its,r,p,z⟩
 ·refine⟨its.toList,r,⟨o,I.kIn a o hk,hc,n,by simpa using hs⟩,?_⟩
  have e:=r.length
  simp only[Z7]at e
  omega
theorem Inv.list_inj(I:Inv X pins σ H s)(h:SqL X.K H a xs)(h':SqL X.K H a ys):xs=ys:=by
 obtain⟨its,r,⟨o,n,e,_,_,d⟩,_⟩:=I.list h
 obtain⟨its',r',⟨o',n',e',_,_,d'⟩,_⟩:=I.list h'
 rw[e]at e';cases e'
 rw[d]at d'
 injection d' with d1 _
 have:its=its':=by simpa using congrArg Array.toList d1
 subst this
 exact r.inj r'
end
abbrev Cx.wish(X:Cx)(E:Value->g9->Prop):Cx:={ X with xe:=E }
abbrev Cx.nox(X:Cx):Cx:=X.wish fun _ _=>False
theorem Cx.Ok.wish(ok:X.Ok)(E:Value->g9->Prop):(X.wish E).Ok:=
 ⟨ok.mod,ok.kind,ok.glob,ok.blt,ok.above,ok.inj,ok.has,ok.cab,ok.hd,ok.frames,ok.stk,ok.exf,ok.bs,ok.bsz,ok.noex,ok.exfs,ok.funs,ok.frf⟩
theorem Cx.Ok.unwish{E:Value->g9->Prop}(ok:(X.wish E).Ok):X.Ok:=
 ⟨ok.mod,ok.kind,ok.glob,ok.blt,ok.above,ok.inj,ok.has,ok.cab,ok.hd,ok.frames,ok.stk,ok.exf,ok.bs,ok.bsz,ok.noex,ok.exfs,ok.funs,ok.frf⟩
section
variable {E:Value->g9->Prop}
theorem Inv.wish(I:Inv X pins σ H s)(E:Value->g9->Prop):Inv (X.wish E) pins σ H s:=⟨I.ok.wish E,I.os,I.bare,I.base,I.loc,I.cell,I.free,I.freeC,I.pin,I.hok,I.len⟩
theorem Inv.unwish(I:Inv (X.wish E) pins σ H s):Inv X pins σ H s:=⟨I.ok.unwish,I.os,I.bare,I.base,I.loc,I.cell,I.free,I.freeC,I.pin,I.hok,I.len⟩
theorem SP.unwish{D:a6Z}{f:Flow}{s':g9}(h:SP (X.wish E) pins D f s'):SP X pins D f s':=by
 cases f with
 | next=>obtain⟨σ',H',I,q⟩:=h;exact⟨σ',H',I.unwish,q⟩
 | brk=>obtain⟨σ',H',I,q⟩:=h;exact⟨σ',H',I.unwish,q⟩
 | cont=>obtain⟨σ',H',I,q⟩:=h;exact⟨σ',H',I.unwish,q⟩
 | ret u=>obtain⟨v,σ',H',I,r,q⟩:=h;exact⟨v,σ',H',I.unwish,r,q⟩
theorem PSs.nox{st:List Stmt}{t:TS}(h:PSs X.nox st t):PSs X st t:=fun pins s σ H D I hw=>
 U6 (h pins s σ H D (I.wish _) hw) (fun _ _ q=>q.unwish) fun _ _ z=>False.elim z
end
section
variable {st:Stmt}{a2N:List Stmt}{t u:TS}
def C5:TS:=fun D σ H=>D.nx σ H
def u5(t u:TS):TS:=fun D σ H=>t { D with nx:=u D } σ H
theorem b9J:PSs X [] C5:=fun _ _ σ H _ I h=>a7N ⟨σ,H,I,h⟩
theorem b7G(h1:PS X st t)(h2:PSs X a2N u):PSs X (st::a2N) (u5 t u):=by
 intro pins s σ H D I h
 refine wpAny_execs_cons (thn (h1 pins s σ H { D with nx:=u D } I h) fun f s1 q=>?_)
 cases f with
 | next=>
  obtain⟨σ',H',I',q⟩:=q
  exact h2 pins s1 σ' H' D I' q
 | ret v=>exact q
 | brk=>exact q
 | cont=>exact q
theorem b9I(h1:PS X st t):PSs X [st] t:=by
 intro pins s σ H D I h
 refine wpAny_execs_cons (thn (h1 pins s σ H D I h) fun f s1 q=>?_)
 cases f with
 | next=>exact a7N q
 | ret v=>exact q
 | brk=>exact q
 | cont=>exact q
theorem Inv.quiet(I:Inv X pins σ H s):interactive X.env=false:=by simp[interactive,I.ok.kind]
def a0O(te:TE):TS:=fun D σ H=>te σ H fun _ H1=>D.nx σ H1
theorem b9L(he:PE X e te)(hs:a1r e none pos.line X.env=pure false:=by rfl):PS X (.Expr e pos) (a0O te):=by
 intro pins s σ H D I h
 exact wpAny_Expr_any (thn (he pins s σ H _ I h) fun v s1 ⟨x,H1,I1,r1,q1⟩=>⟨σ,H1,I1,q1⟩) I.quiet hs
def F4(te:TE):TS:=fun D σ H=>te σ H D.rt
theorem c2B(he:PE X e te):PS X (.Return (some e) pos) (F4 te):=by
 intro pins s σ H D I h
 exact wpAny_Return_some (thn (he pins s σ H _ I h) fun v s1 ⟨x,H1,I1,r1,q1⟩=>⟨x,σ,H1,I1,r1,q1⟩)
def J3(c:TT)(t u:TS):TS:=fun D σ H=>c σ H fun b H1=>if b=true then t D σ H1 else u D σ H1
theorem c4Y{a b:List Stmt}{tc:TT}(hc:PT X c tc)(ha:PSs X a t)(hb:PSs X b u):PS X (.If c a b pos) (J3 tc t u):=by
 intro pins s σ H D I h
 refine wpAny_If (thn (hc pins s σ H _ I h) fun d s1 ⟨H1,I1,q1⟩=>?_)
 cases d with
 | true=>exact ha pins s1 σ H1 D I1 q1
 | false=>exact hb pins s1 σ H1 D I1 q1
end
abbrev TG:=V->St->Hp->(St->Hp->Prop)->Prop
variable{g:TG}
abbrev TGs:=List V->St->Hp->(St->Hp->Prop)->Prop
def PG(X:Cx)(target:Expr)(t:TG):Prop:=
 ∀(pins:List (Addr×Obj)) (s:g9) (σ:St) (H:Hp) (v:V) (u:Value) (Q:St->Hp->Prop),Inv X pins σ H s->C4 v u->t v σ H Q ->
  wpAny (model X.prog X.w) X.A (a9B target X.env u) (fun _ s'=>∃σ' H',Inv X pins σ' H' s'/\Q σ' H') X.xe s
def PGs(X:Cx)(ts:List Expr)(t:TGs):Prop:=
 ∀(pins:List (Addr×Obj)) (s:g9) (σ:St) (H:Hp) (vs:List V) (us:List Value) (Q:St->Hp->Prop),Inv X pins σ H s->D8 vs us->t vs σ H Q ->
  wpAny (model X.prog X.w) X.A (assignInOrder ((a0r ts X.env).map (·.2)) us) (fun _ s'=>∃σ' H',Inv X pins σ' H' s'/\Q σ' H') X.xe s
abbrev a9w:=V->V->V->Hp->(Hp->Prop)->Prop
def b8K(X:Cx)(t:a9w):Prop:=
 ∀(pins:List (Addr×Obj)) (s:g9) (σ:St) (H:Hp) (o i v:V) (ov iv u:Value) (Q:Hp->Prop),Inv X pins σ H s->C4 o ov->C4 i iv->C4 v u->t o i v H Q ->
  wpAny (model X.prog X.w) X.A (c1P ov iv u) (fun _ s'=>∃H',Inv X pins σ H' s'/\Q H') X.xe s
abbrev TIp:=V->V->Hp->VK->Prop
def PIp(X:Cx)(op:a9f)(t:TIp):Prop:=
 ∀(pins:List (Addr×Obj)) (s:g9) (σ:St) (H:Hp) (x y:V) (v u:Value) (Q:VK),Inv X pins σ H s->C4 x v->C4 y u->t x y H Q ->
  wpAny (model X.prog X.w) X.A (inplaceOp op v u) (EP X pins σ Q) X.xe s
section
def o5(i:Nat):TG:=fun v σ H Q=>Q (σ.set i (some v)) H
theorem b0D{x:Str}(hN:X.N.Nodup)(hi:X.N[i]? = some x)(hx:Loc X.env.scope x)(hf:X.fn x=true\/X.env.scope.names.lookup x=some .local:=by first | exact .inl rfl | exact .inr rfl | assumption):PG X (.Name x pos) (o5 i):=by
 intro pins s σ H v u Q I r h
 exact b3b (a5v I hN hi hx r (fun s' I'=>⟨_,H,I',h⟩) hf)
def a8H:TGs:=fun vs σ H Q=>vs=[]/\Q σ H
def Y8(t:TG)(u:TGs):TGs:=fun vs σ H Q=>∃v r,vs=v::r/\t v σ H fun σ' H'=>u r σ' H' Q
theorem b4E:PGs X [] a8H:=by
 intro pins s σ H vs us Q I r h
 obtain⟨e,h⟩:=h
 subst e
 cases r
 exact assignInOrder_nil ⟨σ,H,I,h⟩
theorem a8r{t:TG}{u:TGs}(h1:PG X e t)(h2:PGs X es u)
  (hs:(a0r (e::es) X.env).map (·.2)=a9B e X.env::(a0r es X.env).map (·.2):=by rfl):PGs X (e::es) (Y8 t u):=by
 intro pins s σ H vs us Q I r h
 obtain⟨v,vr,e1,h⟩:=h
 subst e1
 cases r with
 | cons r rr=>
  rw[hs]
  refine assignInOrder_cons (thn (h1 pins s σ H _ _ _ I r h) fun _ s1 ⟨σ1,H1,I1,q1⟩=>?_)
  exact h2 pins s1 σ1 H1 _ _ Q I1 rr q1
def a8G(K:Fg)(n:Nat)(t:TGs):TG:=fun v σ H Q=>∃a xs,v=.ref a/\SqT K H a xs/\xs.length=n/\t xs σ H Q
theorem b7N{k:Nat}{t:TGs}{n:Nat}(hc:X.calm=true)(h:PGs X es t)
  (hn:(a0r es X.env).length=n:=by rfl) (hst:(a0r es X.env).findIdx? (·.1)=none:=by rfl):PG X (.Tuple es k pos) (a8G X.K n t):=by
 intro pins s σ H v u Q I r hw
 obtain⟨a,xs,e1,hq,hl,hw⟩:=hw
 subst e1
 cases r
 obtain⟨its,rv,ht,hz⟩:=I.tuple hq
 refine assign_Tuple_tuple (I.ok.hd hc) ht (by simp[hn,<-hl,rv.length]) hst fun h' hx=>?_
 have I1:Inv X pins σ H { s with heap:=h' }:=I.kept (t':=s.toks) fun b o e=>hx b o (u7 (i8 e)) e
 exact h pins _ σ H xs _ Q I1 (by simpa using rv) hw
def b0O(to ti:TE)(t:a9w):TG:=fun v σ H Q=>to σ H fun o H1=>ti σ H1 fun i H2=>t o i v H2 fun H3=>Q σ H3
theorem c2H{o i:Expr}{to ti:TE}{t:a9w}(ho:PE X o to)(hi:PE X i ti)(hs:b8K X t)
  (ha:∀v,a9B (.Subscript o i pos) X.env v=(do
   let ov <-a3t [v] (eval o X.env)
   let iv <-a3t [v,ov] (eval i X.env)
   b6C pos
   a3t [v,ov,iv] (c1P ov iv v)
   release [v,ov,iv] []):=by intro _;rfl):PG X (.Subscript o i pos) (b0O to ti t):=by
 intro pins s σ H v u Q I r h
 rw[ha]
 refine c5 (a6h (thn (ho pins s σ H _ I h) fun ov s1 ⟨x,H1,I1,r1,q1⟩=>?_))
 refine c5 (a6h (thn (hi pins s1 σ H1 _ I1 q1) fun iv s2 ⟨y,H2,I2,r2,q2⟩=>?_))
 refine c5 (c1N (c5 (a6h (thn (hs pins s2 σ H2 x y v ov iv u _ I2 r1 r2 r q2) fun _ s3 ⟨H3,I3,q3⟩=>?_))))
 exact wpAny_release ⟨σ,H3,I3,q3⟩
def D2(te:TE)(g:TG):TS:=fun D σ H=>te σ H fun x H1=>g x σ H1 D.nx
theorem c2E(he:PE X e te)(hg:PG X tg g)(hs:swapsWithSole [tg] e pos.line X.env=pure false:=by rfl)(hw:swappedStores [tg] e X.env=pure none:=by rfl)
  (h1:(a0r [tg] X.env).map (·.2)=[a9B tg X.env]:=by rfl):PS X (.Assign [tg] e pos) (D2 te g):=by
 intro pins s σ H D I h
 refine wpAny_Assign_stores (thn (he pins s σ H _ I h) fun v s1 ⟨x,H1,I1,r1,q1⟩=>?_) hs hw
 rw[h1]
 exact thn (hg pins s1 σ H1 x v _ I1 r1 q1) fun _ s2 q=>q
theorem c2A{x:Str}(hN:X.N.Nodup)(hi:X.N[i]? = some x)(hx:Loc X.env.scope x)(he:PE X e te)(hs:a1r e (some (.Name x pos')) pos.line X.env=pure false:=by rfl)(hf:X.fn x=true\/X.env.scope.names.lookup x=some .local:=by first | exact .inl rfl | exact .inr rfl | assumption) :
  PS X (.Assign [.Name x pos'] e pos) (D2 te (o5 i)):=by
 intro pins s σ H D I h
 refine wpAny_Assign_Name (thn (he pins s σ H _ I h) fun v s1 ⟨y,H1,I1,r1,q1⟩=>?_) hs
 exact a5v I1 hN hi hx r1 (fun s2 I2=>⟨_,H1,I2,q1⟩) hf
def b9k(i:Nat)(te:TE)(ti:TIp):TS:=fun D σ H=>∃x,σ[i]? = some (some x)/\te σ H fun y H1=>ti x y H1 fun z H2=>D.nx (σ.set i (some z)) H2
theorem c2D{x:Str}{op:a9f}{ti:TIp}(hN:X.N.Nodup)(hi:X.N[i]? = some x)(hx:Loc X.env.scope x)(he:PE X e te)(ho:PIp X op ti)(hf:X.fn x=true\/X.env.scope.names.lookup x=some .local:=by first | exact .inl rfl | exact .inr rfl | assumption) :
  PS X (.AugAssign (.Name x pos') op e pos) (b9k i te ti):=by
 intro pins s σ H D I h
 obtain⟨v,e1,h⟩:=h
 obtain⟨m,hn,hl⟩:=I.loc
 have vis:Vis X.env.scope x:=by rcases hx with k | k;exact .inl k;exact .inr (.inl k)
 obtain⟨u,r,l⟩:=hl i x v hi e1 vis
 refine wpAny_AugAssign_Name ?_
 have go:wpAny (model X.prog X.w) X.A (eval e X.env) (fun w s₂=>wpAny (model X.prog X.w) X.A (inplaceOp op u w) (fun r s₃=>wpAny (model X.prog X.w) X.A (storeName X.env x r) (fun _=>SP X pins D .next) X.xe s₃) X.xe s₂) X.xe s:=by
  refine thn (he pins s σ H _ I h) fun w s1 ⟨y,H1,I1,r1,q1⟩=>?_
  refine thn (ho pins s1 σ H1 v y u w _ I1 r r1 q1) fun z s2 ⟨zv,H2,I2,r2,q2⟩=>?_
  exact a5v I2 hN hi hx r2 (fun s3 I3=>⟨_,H2,I3,q2⟩) hf
 rcases l with ⟨hk,hm⟩ | ⟨hk,c,hc,hcell⟩
 ·exact c5D I.ok.kind hk hn hm go
 ·rcases hk with hk | hk
  ·exact c5E I.ok.kind hk hc hcell go
  ·rcases hx with k | k
   ·have:X.env.scope.names.lookup x=some .free:=hk
    rw[k]at this;cases this
   ·have:X.env.scope.names.lookup x=some .free:=hk
    rw[k]at this;cases this
def b4w(to ti te:TE)(tget:V->V->Hp->VK->Prop)(tip:TIp)(tset:a9w):TS:=fun D σ H=>to σ H fun o H1=>ti σ H1 fun i H2=>tget o i H2 fun x H3=>te σ H3 fun y H4=>tip x y H4 fun z H5=>tset o i z H5 fun H6=>D.nx σ H6
def c3S(X:Cx)(t:V->V->Hp->VK->Prop):Prop:=
 ∀(pins:List (Addr×Obj)) (s:g9) (σ:St) (H:Hp) (o i:V) (ov iv:Value) (Q:VK),Inv X pins σ H s->C4 o ov->C4 i iv->t o i H Q ->
  wpAny (model X.prog X.w) X.A (b0f ov iv) (EP X pins σ Q) X.xe s
theorem b9N{o i:Expr}{to ti:TE}{tget:V->V->Hp->VK->Prop}{tip:TIp}{tset:a9w}{op:a9f}{tpos:Pos}(ho:PE X o to)(hi:PE X i ti)(hg:c3S X tget)(he:PE X e te)(hp:PIp X op tip)(hs:b8K X tset)
  (ha:∀ov iv new,augStore i ov iv new=(do a3t [new,ov,iv] (c1P ov iv new);release [new,ov,iv] [];pure .next):=by intros;rfl):PS X (.AugAssign (.Subscript o i tpos) op e pos) (b4w to ti te tget tip tset):=by
 intro pins s σ H D I h
 refine wpAny_AugAssign_SubscriptAny (thn (ho pins s σ H _ I h) fun ov s1 ⟨x1,H1,I1,r1,q1⟩=>?_) ha
 refine thn (hi pins s1 σ H1 _ I1 q1) fun iv s2 ⟨x2,H2,I2,r2,q2⟩=>?_
 refine thn (hg pins s2 σ H2 x1 x2 ov iv _ I2 r1 r2 q2) fun old s3 ⟨x3,H3,I3,r3,q3⟩=>?_
 refine thn (he pins s3 σ H3 _ I3 q3) fun v s4 ⟨x4,H4,I4,r4,q4⟩=>?_
 refine thn (hp pins s4 σ H4 x3 x4 old v _ I4 r3 r4 q4) fun new s5 ⟨x5,H5,I5,r5,q5⟩=>?_
 exact thn (hs pins s5 σ H5 x1 x2 x5 ov iv new _ I5 r1 r2 r5 q5) fun _ s6 ⟨H6,I6,q6⟩=>⟨σ,H6,I6,q6⟩
def ipI(f:Int->Int->Int):TIp:=fun x y H Q=>∃i j,x=.int i/\y=.int j/\Q (.int (f i j)) H
theorem c3E:PIp X .Add (ipI fun i j=>i+j):=by
 intro pins s σ H x y v u Q I r1 r2 h
 obtain⟨i,j,e1,e2,q⟩:=h
 subst e1;subst e2
 obtain⟨t,rfl⟩:=r1
 obtain⟨t',rfl⟩:=r2
 exact iadd_int ⟨.int _,H,I.tok _,⟨_,rfl⟩,q⟩
end
section
def a6q(c:TT)(tb:TS):TS:=fun D σ H=>∃W:Nat->St->Hp->Prop,(∃m,W m σ H)/\∀m σ H,W m σ H ->
 c σ H fun b H1=>if b=true then ∃N:St->Hp->Prop,(∀σ' H',N σ' H'->∃m',m'<m/\W m' σ' H')/\tb { D with nx:=N,ct:=N,bk:=D.nx } σ H1 else D.nx σ H1
theorem b7H{body:List Stmt}{tc:TT}(hp:b1C (model X.prog X.w) X.A X.env X.xe)(hc:PT X c tc)(hb:PSs X body tb):PS X (.While c body [] pos) (a6q tc tb):=by
 intro pins s σ H D I h
 obtain⟨W,⟨m0,w0⟩,turn⟩:=h
 refine wpAny_While (codeAny_whileLoop (fun n s'=>∃σ' H',Inv X pins σ' H' s'/\W n σ' H') ?_ m0 ⟨σ,H,I,w0⟩)
 rintro n s1 ⟨σ1,H1,I1,w1⟩
 refine a0e hp (thn (hc pins s1 σ1 H1 _ I1 (turn n σ1 H1 w1)) fun b s2 ⟨H2,I2,q2⟩=>?_)
 cases b with
 | true=>
  obtain⟨N,hN,q2⟩:=q2
  rw[if_pos rfl]
  refine a0e hp (thn (hb pins s2 σ1 H2 _ I2 q2) fun f s3 q3=>?_)
  cases f with
  | next=>
   obtain⟨σ3,H3,I3,n3⟩:=q3
   obtain⟨m',hm,w3⟩:=hN σ3 H3 n3
   exact⟨m',hm,σ3,H3,I3,w3⟩
  | cont=>
   obtain⟨σ3,H3,I3,n3⟩:=q3
   obtain⟨m',hm,w3⟩:=hN σ3 H3 n3
   exact⟨m',hm,σ3,H3,I3,w3⟩
  | brk=>exact q3
  | ret v=>exact q3
 | false=>
  rw[if_neg l9]
  exact a7N ⟨σ1,H2,I2,q2⟩
end
structure It where
 go:Nat->Hp->Prop
 yld:Nat->Hp->V->Hp->Prop
 stop:Nat->Hp->Prop
def a4o(X:Cx)(pins:List (Addr×Obj))(H:Hp)(b:Addr):Prop:=
 H b=none/\b≠X.env.locals/\b∉X.fs/\(b∈X.ex\/X.s₀.heap.objs.size<=b)/\(∀x c,X.env.cells.lookup x=some c->c≠b)/\∀p∈X.pn++pins,p.1≠b
theorem Inv.fpOk(I:Inv X pins σ H s)(hb:s.heap.objs.size<=b)(hn:H' b=none):a4o X pins H' b:=by
 refine⟨hn,b6p (v7 I.lt hb),I.nofs hb,.inr (A9 I.sz hb),fun x c e z=>?_,fun p hp z=>?_⟩
 ·obtain⟨v,q⟩:=I.cell x c e
  exact absurd (v7 q.lt (by rw[z];exact hb)) (E2 _)
 ·exact absurd (v7 (i8 (I.pin p hp).1) (by rw[z];exact hb)) (E2 _)
structure b1i(P:w4)(w:World)(K:Fg)(tg:Expr)(J:It)(fp:List Addr)(it:Addr)(tn:Nat->Heap->Prop):Prop where
 mem:it∈fp
 obj:∀i h,tn i h->∀b∈fp,∃o,h.get? b=some o/\∀v,o.data≠.cell v
 keep:∀i h h',tn i h->(∀b∈fp,∀o,h.get? b=some o->h'.get? b=some o)->tn i h'
 item:∀(X:Cx),X.prog=P->X.w=w->X.K=K->X.calm=true->∀(i:Nat) (pins:List (Addr×Obj)) (s:g9) (σ:St) (H:Hp) (E:Value->g9->Prop),Inv X pins σ H s->(∀b∈fp,a4o X pins H b)->tn i s.heap->J.go i H ->
  wpAny (model P w) X.A (c4r (.ref it)) (fun r s1=>∃u,r=some u /\
   wpAny (model P w) X.A (a3s tg (.ref it) u) (fun _ s2=>∃x H',Inv X pins σ H' s2/\C4 x u/\J.yld i H x H'/\tn (i+1) s2.heap/\∀b∈fp,H' b=none) E s1) E s
 done:∀(X:Cx),X.prog=P->X.w=w->X.K=K->X.calm=true->∀(i:Nat) (pins:List (Addr×Obj)) (s:g9) (σ:St) (H:Hp) (E:Value->g9->Prop),Inv X pins σ H s->(∀b∈fp,a4o X pins H b)->tn i s.heap->J.stop i H ->
  wpAny (model P w) X.A (c4r (.ref it)) (fun r s1=>r=none/\Inv X pins σ H s1) E s
 self:∀(A:F8) (i:Nat) (s:g9) (Q:Value->g9->Prop) (E:Value->g9->Prop),tn i s.heap->Q (.ref it) s->wpAny (model P w) A (pyIter (.ref it)) Q E s
abbrev TI:=St->Hp->(It->Hp->Prop)->Prop
def PIE(X:Cx)(pins:List (Addr×Obj))(σ:St)(tg:Expr)(R:It->Hp->Prop)(itv:Value)(s2:g9):Prop:=
 ∃(it:Addr) (fp:List Addr) (tn:Nat->Heap->Prop) (J:It) (H':Hp),itv=.ref it/\Inv X pins σ H' s2/\b1i X.prog X.w X.K tg J fp it tn/\tn 0 s2.heap/\(∀b∈fp,a4o X pins H' b)/\R J H'
def PI(X:Cx)(tg iter:Expr)(wi:TI):Prop:=
 ∀(pins:List (Addr×Obj)) (s:g9) (σ:St) (H:Hp) (R:It->Hp->Prop),Inv X pins σ H s->wi σ H R ->
  wpAny (model X.prog X.w) X.A (eval iter X.env) (fun v s1=>wpAny (model X.prog X.w) X.A (pyIter v) (PIE X pins σ tg R) X.xe s1) X.xe s
theorem b4K{M:Model}{A:F8}{E:Value->g9->Prop}{it:Addr}{o:Obj}{n:String}{vs:Array Value}{Q:Unit->g9->Prop}(ho:s.heap.get? it=some o)(hc:o.cls=.type n)(hd:o.data=.fields vs)
  (hn:["enumerate","zip","dict_itemiterator","dict_reverseitemiterator","odict_iterator","itertools.zip_longest","itertools.pairwise"].contains n=false) (hQ:Q () s):wpAny M A (a3s tg (.ref it) u) Q E s:=by
 unfold a3s
 cases tg <;> first
  | exact o0 hQ
  | (cases u <;> first
    | exact o0 hQ
    | (refine c5 (wpAny_load ho ?_)
       rw[hc,hd]
       show wpAny M A (if(["enumerate","zip","dict_itemiterator","dict_reverseitemiterator","odict_iterator","itertools.zip_longest","itertools.pairwise"].contains n&&vs[0]? == some (rawInt _))=true then _ else _) Q E s
       rw[if_neg (by intro h;rw[hn,c4m]at h;cases h)]
       exact o0 hQ))
def Itl(K:Fg)(a:Addr):It:=
 ⟨fun i H=>∃xs x,SqL K H a xs/\xs[i]? = some x,fun i H x H'=>H'=H/\∀xs,SqL K H a xs->xs[i]? = some x,fun i H=>∃xs,SqL K H a xs/\xs.length<=i⟩
def Itr(lo:Int)(n:Nat):It:=⟨fun i _=>i<n,fun i H x H'=>H'=H/\x=.int (lo+i),fun i _=>n<=i⟩
theorem b5l{P:w4}{K:Fg}(a it:Addr):b1i P w K tg (Itl K a) [it] it (fun i h=>h.IsListIter it a i) where
 mem:=by simp
 obj:=fun i h st b hb=>by
  have e:b=it:=by simpa using hb
  subst e
  obtain⟨o,e,c,d⟩:=st
  exact⟨o,e,fun v z=>by rw[d]at z;cases z⟩
 keep:=fun i h h' st k=>st.at fun o e=>k it (by simp) o e
 item:=by
  intro X hP hw hK hc i pins s σ H E I hf st hg
  subst hP hw hK
  obtain⟨xs,x,hq,hx⟩:=hg
  obtain⟨its,rv,p,hz⟩:=I.list hq
  obtain⟨u,hu,ru⟩:=rv.get hx
  obtain⟨f0,f1,f2,f3,f4,f5⟩:=hf it (by simp)
  refine wpAny_pyNext_list_item st p.isList (x:=u) (by simpa using hu) fun h' st' sb=>?_
  have I1:Inv X pins σ H { s with heap:=h' }:=I.turned (t':=s.toks) (fun b o hb e=>(sb.2 b hb).trans e) f0 f1 f3 f4 f5
  obtain⟨o,e,c,d⟩:=id st'
  exact⟨u,rfl,b4K (s:={ s with heap:=h' }) e c d (by decide) ⟨x,H,I1,ru,⟨rfl,fun ys hy=>by rw[I.list_inj hy hq];exact hx⟩,st',fun b hb=>(hf b hb).1⟩⟩
 done:=by
  intro X hP hw hK hc i pins s σ H E I hf st hg
  subst hP hw hK
  obtain⟨xs,hq,hx⟩:=hg
  obtain⟨its,rv,p,hz⟩:=I.list hq
  obtain⟨f0,f1,f2,f3,f4,f5⟩:=hf it (by simp)
  have hl:=rv.length
  exact wpAny_pyNext_list_end (I.ok.hd hc) st p.isList (by simp;omega) fun h' eb=>⟨rfl,I.turned (t':=s.toks) (fun b o hb e=>eb b o hb e) f0 f1 f3 f4 f5⟩
 self:=fun _ _ _ _ _ st h=>wpAny_pyIter_listiter st h
theorem b3i{P:w4}{K:Fg}(it:Addr)(lo:Int)(n:Nat):b1i P w K tg (Itr lo n) [it] it (fun i h=>IsRangeIter h it (lo+(i:Nat) * 1) ((n:Int) - (i:Nat)) 1) where
 mem:=by simp
 obj:=fun i h st b hb=>by
  have e:b=it:=by simpa using hb
  subst e
  exact⟨_,st,fun v z=>by
   have z':Data.fields _=Data.cell v:=z
   cases z'⟩
 keep:=fun i h h' st k=>k it (by simp) _ st
 item:=by
  intro X hP hw hK hc i pins s σ H E I hf st hg
  subst hP hw hK
  obtain⟨f0,f1,f2,f3,f4,f5⟩:=hf it (by simp)
  have W:=Walks.range (prog:=X.prog) (w:=X.w) (I.ok.hd hc) it lo 1 n
  refine W.item i s _ _ hg st fun v h' tk hv st' kk=>?_
  obtain⟨t,rfl⟩:=hv
  have I1:Inv X pins σ H { s with heap:=h',toks:=tk }:=I.turned (fun b o hb e=>kk b o (by simpa using hb) e) f0 f1 f3 f4 f5
  refine⟨_,rfl,b4K (s:={ s with heap:=h',toks:=tk }) (n := "range_iterator") st' rfl rfl (by decide) ⟨.int (lo+i),H,I1,⟨t,?_⟩,⟨rfl,rfl⟩,st',fun b hb=>(hf b hb).1⟩⟩
  rw[Int.mul_one]
 done:=by
  intro X hP hw hK hc i pins s σ H E I hf st hg
  subst hP hw hK
  obtain⟨f0,f1,f2,f3,f4,f5⟩:=hf it (by simp)
  exact wpAny_pyNext_range_end (I.ok.hd hc) st (by have:n<=i:=hg;omega) fun h' eb=>⟨rfl,I.turned (t':=s.toks) (fun b o hb e=>eb b o hb e) f0 f1 f3 f4 f5⟩
 self:=fun _ _ _ _ _ st h=>wpAny_pyIter_rangeiter st h
section
def U0(K:Fg)(tl:TE):TI:=fun σ H R=>tl σ H fun x H1=>∃a,x=.ref a/\(∃xs,SqL K H1 a xs)/\R (Itl K a) H1
theorem b9S{l:Expr}{tl:TE}(hl:PE X l tl):PI X tg l (U0 X.K tl):=by
 intro pins s σ H R I h
 refine thn (hl pins s σ H _ I h) fun v s1 ⟨x,H1,I1,r1,q1⟩=>?_
 obtain⟨a,e,⟨xs,hq⟩,q⟩:=q1
 subst e
 cases r1
 obtain⟨its,rv,p,hz⟩:=I1.list hq
 refine b2Z p.isList ?_
 refine⟨s1.heap.objs.size,[s1.heap.objs.size],_,_,H1,rfl,I1.kept (t':=s1.toks) fun b o e=>i9 _ e,b5l a _,⟨_,t9 _ rfl,rfl,rfl⟩,fun b hb=>?_,q⟩
 have e:b=s1.heap.objs.size:=by simpa using hb
 subst e
 exact I1.fpOk (d9 _) (I1.hok.fresh (d9 _))
theorem b7z{R:It->Hp->Prop}{E:Value->g9->Prop}{lo hi:Int}{t u v:Tok}{tk:Nat}(I:Inv X pins σ H s)(h1 : -(2 ^ 62)<=lo)(h2:lo<2 ^ 62)(h3 : -(2 ^ 62)<=hi)(h4:hi<2 ^ 62)
  (q:R (Itr lo (hi - lo).toNat) H):wpAny (model X.prog X.w) X.A (pyIter (.ref s.heap.objs.size)) (PIE X pins σ tg R) E { s with heap:=s.heap.push { cls:=.type "range",data:=.fields #[.int lo t,.int hi u,.int 1 v] },toks:=tk }:=by
 refine wpAny_pyIter_range (IsRange.new ..) (small_one h1 h2 h3 h4) ?_
 have I1:Inv X pins σ H { s with heap:=s.heap.push { cls:=.type "range",data:=.fields #[.int lo t,.int hi u,.int 1 v] },toks:=tk }:=I.kept fun b o e=>i9 _ e
 refine⟨(s.heap.push { cls:=.type "range",data:=.fields #[.int lo t,.int hi u,.int 1 v] }).objs.size,[(s.heap.push { cls:=.type "range",data:=.fields #[.int lo t,.int hi u,.int 1 v] }).objs.size],_,_,H,rfl,
  I1.kept (t':=tk) fun b o e=>i9 _ e,b3i _ lo (hi - lo).toNat,?_,fun b hb=>?_,q⟩
 ·have e1:lo+((0:Nat):Int) * 1=lo:=by simp
  have e2:(((hi - lo).toNat:Nat):Int) - ((0:Nat):Int)=Builtin.Range.rangeSize lo hi 1:=by rw[rangeSize_one];split <;> omega
  show IsRangeIter _ _ (lo+((0:Nat):Int) * 1) ((((hi - lo).toNat:Nat):Int) - ((0:Nat):Int)) 1
  rw[e1,e2]
  exact t9 _ rfl
 ·have e:b=(s.heap.push { cls:=.type "range",data:=.fields #[.int lo t,.int hi u,.int 1 v] }).objs.size:=by simpa using hb
  subst e
  exact I1.fpOk (d9 _) (I1.hok.fresh (d9 _))
def a0Q(ta:TA):TI:=fun σ H R=>ta σ H fun vs H1=>∃j:Int,vs=[.int j] /\ -(2 ^ 62)<=j/\j<2 ^ 62/\R (Itr 0 j.toNat) H1
theorem b5z{a:Expr}{ta:TA}(hg:Gl X "range")(hm:X.mg "range" = none)(ha:PA X [a] ta)(hs:g7 [a] X.env=[(false,eval a X.env)]:=by rfl):PI X tg (.Call (.Name "range" p) [a] [] pos) (a0Q ta):=by
 intro pins s σ H R I h
 refine Call_ (a6O I hg hm boot_range (V2 (thn (ha pos pins s σ H _ I h) fun us s1 ⟨vs,H1,I1,r1,q1⟩=>?_) hs rfl))
 obtain⟨j,e,q1,q2,q⟩:=q1
 subst e
 cases r1 with
 | cons r rr=>
  cases rr
  obtain⟨t,rfl⟩:=r
  exact call_range_1 (b7z I1 (by omega) (by omega) q1 q2 (by simpa using q))
def a1g(wi:TI)(g:TG)(tb:TS):TS:=fun D σ H=>wi σ H fun J H1=>∃W:Nat->Nat->St->Hp->Prop,(∃m,W 0 m σ H1)/\∀i m σ H,W i m σ H ->
 (J.stop i H/\D.nx σ H)\/(J.go i H/\∃N:St->Hp->Prop,(∀σ' H',N σ' H'->∃m',m'<m/\W (i+1) m' σ' H')/\∀x H',J.yld i H x H'->g x σ H' fun σ2 H2=>tb { D with nx:=N,ct:=N,bk:=D.nx } σ2 H2)
def a4T(fp:List Addr)(h:Heap):List (Addr×Obj):=fp.filterMap fun b=>(h.get? b).map fun o=>(b,o)
theorem a0A{fp:List Addr}{o:Obj}(hb:b∈fp)(e:h.get? b=some o):(b,o)∈a4T fp h:=a7r.mpr ⟨b,hb,by rw[e];rfl⟩
theorem b5J{fp:List Addr}{p:Addr×Obj}(hp:p∈a4T fp h):p.1∈fp/\h.get? p.1=some p.2:=by
 obtain⟨b,hb,e⟩:=a7r.mp hp
 cases q:h.get? b with
 | none=>rw[q]at e;cases e
 | some o=>
  rw[q]at e
  have e':(b,o)=p:=Option.some.inj e
  subst e'
  exact⟨hb,q⟩
theorem Inv.pinned{fp:List Addr}(I:Inv X pins σ H s)(hf:∀b∈fp,a4o X pins H b)(ho:∀b∈fp,∃o,s.heap.get? b=some o/\∀v,o.data≠.cell v):Inv X (pins++a4T fp s.heap) σ H s:=
 I.pins_of fun p hp=>(o8.mp hp).elim (fun z=>I.pin p (t6 _ z)) fun z=>by
  obtain⟨hb,e⟩:=b5J z
  obtain⟨f0,f1,f2,_⟩:=hf p.1 hb
  obtain⟨o,e',d⟩:=ho p.1 hb
  rw[e]at e';cases e'
  exact⟨e,f0,f1,f2,d⟩
theorem Inv.unpinned{pl:List (Addr×Obj)}(I:Inv X (pins++pl) σ H s):Inv X pins σ H s:=I.pins_of fun p hp=>I.pin p (t6 _ (A5 _ hp))
theorem b7J{iter:Expr}{body:List Stmt}{wi:TI}(hp:b1C (model X.prog X.w) X.A X.env X.xe)(hc:X.calm=true)(hi:PI X tg iter wi)(hg:PG X tg g)(hb:PSs X body tb)
  (hs:∀x,K9 iter X.env x=pure x:=by intro _;rfl):PS X (.For tg iter body [] pos) (a1g wi g tb):=by
 intro pins s σ H D I h
 refine wpAny_For (thn (hi pins s σ H _ I h) fun v s1 h1=>thn h1 fun itv s2 h2=>?_) hs
 obtain⟨it,fp,tn,J,H2,e,I2,T,st2,f2,W,⟨m0,w0⟩,turn⟩:=h2
 subst e
 have stat:∀ {H':Hp},(∀b∈fp,H' b=none)->∀b∈fp,a4o X pins H' b:=fun hn b hb=>⟨hn b hb,(f2 b hb).2⟩
 refine codeAny_forLoop_any (fun n s'=>∃i σ' H',Inv X pins σ' H' s'/\tn i s'.heap/\(∀b∈fp,H' b=none)/\W i n σ' H') ?_ m0 ⟨0,σ,H2,I2,st2,fun b hb=>(f2 b hb).1,w0⟩
 rintro n s3 ⟨i,σ3,H3,I3,st3,fr3,w3⟩
 rcases turn i n σ3 H3 w3 with ⟨stop,qn⟩ | ⟨go,N,hN,step⟩
 ·refine a0e hp (thn (T.done X rfl rfl rfl hc i pins s3 σ3 H3 X.xe I3 (stat fr3) st3 stop) fun r s4 ⟨hr,I4⟩=>?_)
  subst hr
  exact a7N ⟨σ3,H3,I4,qn⟩
 ·refine a0e hp (thn (T.item X rfl rfl rfl hc i pins s3 σ3 H3 X.xe I3 (stat fr3) st3 go) fun r s4 ⟨u,hr,h4⟩=>?_)
  subst hr
  refine a0e hp (thn h4 fun _ s5 ⟨x,H5,I5,r5,y5,st5,fr5⟩=>?_)
  have I5':=I5.pinned (stat fr5) (T.obj _ _ st5)
  refine a0e hp (thn (hg _ s5 σ3 H5 x u _ I5' r5 (step x H5 y5)) fun _ s6 ⟨σ6,H6,I6,q6⟩=>?_)
  refine a0e hp (thn (hb _ s6 σ6 H6 _ I6 q6) fun f s7 q7=>?_)
  have again:∀ {σ7:St} {H7:Hp},Inv X (pins++a4T fp s5.heap) σ7 H7 s7->N σ7 H7->∃m,m<n/\∃i σ' H',Inv X pins σ' H' s7/\tn i s7.heap/\(∀b∈fp,H' b=none)/\W i m σ' H':=fun {σ7 H7} I7 n7=>by
   obtain⟨m',hm,w7⟩:=hN σ7 H7 n7
   refine⟨m',hm,i+1,σ7,H7,I7.unpinned,T.keep _ _ _ st5 fun b hb o e=>(I7.pin (b,o) (t6 _ (t6 _ (a0A hb e)))).1,fun b hb=>?_,w7⟩
   obtain⟨o,e,d⟩:=T.obj _ _ st5 b hb
   exact(I7.pin (b,o) (t6 _ (t6 _ (a0A hb e)))).2.1
  cases f with
  | next=>obtain⟨σ7,H7,I7,n7⟩:=q7;exact again I7 n7
  | cont=>obtain⟨σ7,H7,I7,n7⟩:=q7;exact again I7 n7
  | brk=>obtain⟨σ7,H7,I7,q7⟩:=q7;exact⟨σ7,H7,I7.unpinned,q7⟩
  | ret v=>obtain⟨x7,σ7,H7,I7,r7,q7⟩:=q7;exact⟨x7,σ7,H7,I7.unpinned,r7,q7⟩
end
theorem a2q{K:Fg}{D:a6Z}(Pv:Nat->St->Hp->Prop)(h0:Pv 0 σ H)(hl:∀i σ H,i<=xs.length->Pv i σ H->SqL K H a xs)
  (hs:∀i x σ H,xs[i]? = some x->Pv i σ H->g x σ H fun σ2 H2=>tb { D with nx:=Pv (i+1),ct:=Pv (i+1),bk:=D.nx } σ2 H2) (hd:∀σ H,Pv xs.length σ H->D.nx σ H) :
  ∃W:Nat->Nat->St->Hp->Prop,(∃m,W 0 m σ H)/\∀i m σ H,W i m σ H ->
   ((Itl K a).stop i H/\D.nx σ H)\/((Itl K a).go i H/\∃N:St->Hp->Prop,(∀σ' H',N σ' H'->∃m',m'<m/\W (i+1) m' σ' H')/\∀x H',(Itl K a).yld i H x H'->g x σ H' fun σ2 H2=>tb { D with nx:=N,ct:=N,bk:=D.nx } σ2 H2):=by
 refine⟨fun i m σ H=>m=xs.length - i/\i<=xs.length/\Pv i σ H,⟨xs.length,by simp,L5 _,h0⟩,?_⟩
 rintro i m σ H ⟨rfl,hi,p⟩
 have q:=hl i σ H hi p
 by_cases hlt:i<xs.length
 ·refine .inr ⟨⟨xs,xs[i],q,by simp[hlt]⟩,Pv (i+1),fun σ' H' p'=>⟨xs.length - (i+1),by omega,rfl,hlt,p'⟩,fun x H' y=>?_⟩
  obtain⟨e,y⟩:=y
  subst e
  exact hs i x σ _ (y xs q) p
 ·have e:i=xs.length:=by omega
  subst e
  exact .inl ⟨⟨xs,q,d9 _⟩,hd σ H p⟩
theorem X7{lo:Int}{n:Nat}{D:a6Z}(Pv:Nat->St->Hp->Prop)(h0:Pv 0 σ H)
  (hs:∀i σ H,i<n->Pv i σ H->g (.int (lo+i)) σ H fun σ2 H2=>tb { D with nx:=Pv (i+1),ct:=Pv (i+1),bk:=D.nx } σ2 H2) (hd:∀σ H,Pv n σ H->D.nx σ H) :
  ∃W:Nat->Nat->St->Hp->Prop,(∃m,W 0 m σ H)/\∀i m σ H,W i m σ H ->
   ((Itr lo n).stop i H/\D.nx σ H)\/((Itr lo n).go i H/\∃N:St->Hp->Prop,(∀σ' H',N σ' H'->∃m',m'<m/\W (i+1) m' σ' H')/\∀x H',(Itr lo n).yld i H x H'->g x σ H' fun σ2 H2=>tb { D with nx:=N,ct:=N,bk:=D.nx } σ2 H2):=by
 refine⟨fun i m σ H=>m=n - i/\i<=n/\Pv i σ H,⟨n,by simp,L5 _,h0⟩,?_⟩
 rintro i m σ H ⟨rfl,hi,p⟩
 by_cases hlt:i<n
 ·refine .inr ⟨hlt,Pv (i+1),fun σ' H' p'=>⟨n - (i+1),by omega,rfl,hlt,p'⟩,fun x H' y=>?_⟩
  obtain⟨e,y⟩:=y
  subst e y
  exact hs i σ _ hlt p
 ·have e:i=n:=by omega
  subst e
  exact .inl ⟨d9 _,hd σ H p⟩
abbrev R2:=V->V->Hp->VK->Prop
def OpR(X:Cx)(f:Value->Value->Sem Value)(r:R2):Prop:=
 ∀(pins:List (Addr×Obj)) (s:g9) (σ:St) (H:Hp) (x y:V) (v u:Value) (Q:VK),Inv X pins σ H s->C4 x v->C4 y u->r x y H Q ->
  wpAny (model X.prog X.w) X.A (f v u) (EP X pins σ Q) X.xe s
def UnR(X:Cx)(f:Value->Sem Value)(r:V->Hp->VK->Prop):Prop:=
 ∀(pins:List (Addr×Obj)) (s:g9) (σ:St) (H:Hp) (x:V) (v:Value) (Q:VK),Inv X pins σ H s->C4 x v->r x H Q ->
  wpAny (model X.prog X.w) X.A (f v) (EP X pins σ Q) X.xe s
def U2(X:Cx)(f:Value)(r:List V->Hp->VK->Prop):Prop:=
 ∀(pins:List (Addr×Obj)) (s:g9) (σ:St) (H:Hp) (xs:List V) (us:List Value) (Q:VK),Inv X pins σ H s->D8 xs us->r xs H Q ->
  wpAny (model X.prog X.w) X.A (call f us) (EP X pins σ Q) X.xe s
def tOp(r:R2)(ta tb:TE):TE:=fun σ H Q=>ta σ H fun x H1=>tb σ H1 fun y H2=>r x y H2 Q
def rI(C:Int->Int->Prop)(g:Int->Int->V):R2:=fun x y H Q=>∃i j,x=.int i/\y=.int j/\C i j/\Q (g i j) H
def rI0(g:Int->Int->V):R2:=fun x y H Q=>∃i j,x=.int i/\y=.int j/\Q (g i j) H
section
variable {a b:Expr}{tb tc:TE}
theorem c3N(ha:PE X a ta)(hb:PE X b tb){R:V->V->Hp->Prop}(I:Inv X pins σ H s)
  (h:ta σ H fun x H1=>tb σ H1 fun y H2=>R x y H2) {Q:Value->g9->Prop} {f:Value->Value->Sem Value}
  (hf:∀v u s2 x y H2,Inv X pins σ H2 s2->C4 x v->C4 y u->R x y H2->wpAny (model X.prog X.w) X.A (f v u) Q X.xe s2) :
  wpAny (model X.prog X.w) X.A (eval a X.env) (fun v s₁=>wpAny (model X.prog X.w) X.A (eval b X.env) (fun u s₂=>wpAny (model X.prog X.w) X.A (f v u) Q X.xe s₂) X.xe s₁) X.xe s:=by
 refine thn (ha pins s σ H _ I h) fun v s1 ⟨x,H1,I1,r1,q1⟩=>?_
 refine thn (hb pins s1 σ H1 _ I1 q1) fun u s2 ⟨y,H2,I2,r2,q2⟩=>?_
 exact hf v u s2 x y H2 I2 r1 r2 q2
theorem c5a{op:a9f}{r:R2}(ho:OpR X (W1 op) r)(ha:PE X a ta)(hb:PE X b tb):PE X (.BinOp a op b pos) (tOp r ta tb):=by
 intro pins s σ H Q I h
 exact wpAny_BinOp (c3N ha hb I h fun v u s2 x y H2 I2 rx ry q=>ho pins s2 σ H2 x y v u Q I2 rx ry q)
theorem opI{f:Value->Value->Sem Value}{C:Int->Int->Prop}{g:Int->Int->Int}
  (rule:∀(i j:Int) (t u:Tok) (s:g9) (Q:Value->g9->Prop) (E:Value->g9->Prop),C i j->Q (.int (g i j) s.toks) { s with toks:=s.toks+1 }->wpAny (model X.prog X.w) X.A (f (.int i t) (.int j u)) Q E s) :
  OpR X f (rI C fun i j=>.int (g i j)):=by
 intro pins s σ H x y v u Q I rx ry h
 obtain⟨i,j,rfl,rfl,hc,q⟩:=h
 obtain⟨t,rfl⟩:=rx
 obtain⟨t',rfl⟩:=ry
 exact rule i j t t' s _ _ hc ⟨.int (g i j),H,I.tok _,⟨_,rfl⟩,q⟩
theorem c5k{f:Value->Value->Sem Value}{g:Int->Int->Int}
  (rule:∀(i j:Int) (t u:Tok) (s:g9) (Q:Value->g9->Prop) (E:Value->g9->Prop),Q (.int (g i j) s.toks) { s with toks:=s.toks+1 }->wpAny (model X.prog X.w) X.A (f (.int i t) (.int j u)) Q E s) :
  OpR X f (rI0 fun i j=>.int (g i j)):=by
 intro pins s σ H x y v u Q I rx ry h
 obtain⟨i,j,rfl,rfl,q⟩:=h
 obtain⟨t,rfl⟩:=rx
 obtain⟨t',rfl⟩:=ry
 exact rule i j t t' s _ _ ⟨.int (g i j),H,I.tok _,⟨_,rfl⟩,q⟩
theorem c0s{f:Value->Value->Sem Value}{g:Int->Int->Bool}
  (rule:∀(i j:Int) (t u:Tok) (s:g9) (Q:Value->g9->Prop) (E:Value->g9->Prop),Q (.bool (g i j)) s->wpAny (model X.prog X.w) X.A (f (.int i t) (.int j u)) Q E s) :
  OpR X f (rI0 fun i j=>.bl (g i j)):=by
 intro pins s σ H x y v u Q I rx ry h
 obtain⟨i,j,rfl,rfl,q⟩:=h
 obtain⟨t,rfl⟩:=rx
 obtain⟨t',rfl⟩:=ry
 exact rule i j t t' s _ _ ⟨.bl (g i j),H,I,rfl,q⟩
def b8Q(i j:Int):Prop:=(-(2 ^ 64)<i/\i<2 ^ 64)\/(-(2 ^ 64)<j/\j<2 ^ 64)
theorem b8Q.ok{i j:Int}(h:b8Q i j):IntMulOk i j:=by
 rcases h with ⟨h1,h2⟩ | ⟨h1,h2⟩
 ·exact .of_left (intBits_le_64 h1 h2)
 ·exact .of_right (intBits_le_64 h1 h2)
theorem c3i:OpR X (W1 .Add) (rI0 fun i j=>.int (i+j)):=c5k fun _ _ _ _ _ _ _ q=>add_int q
theorem c2X:OpR X (W1 .Sub) (rI0 fun i j=>.int (i - j)):=c5k fun _ _ _ _ _ _ _ q=>sub_int q
theorem c3f:OpR X (W1 .Mult) (rI b8Q fun i j=>.int (i * j)):=opI fun _ _ _ _ _ _ _ hc q=>mul_int q hc.ok
theorem c3g:OpR X (W1 .Mod) (rI (fun _ j=>0<j) fun i j=>.int (i % j)):=opI fun i j _ _ _ _ _ hc q=>by
 have h1:(0:Int)<j:=hc
 exact mod_int' (by omega) (by rw[Int.fmod_eq_emod_of_nonneg i (by omega)];exact q)
end
def b0r:V->V->Bool
 | .non,.non=>true | .non,.int _=>true | .int _,.non=>true | .non,.bl _=>true | .bl _,.non=>true | .non,.str _=>true | .str _,.non=>true
 | .int _,.int _=>true | .bl _,.bl _=>true | .str _,.str _=>true | .byt _,.byt _=>true
 | .int _,.str _=>true | .str _,.int _=>true | .bl _,.str _=>true | .str _,.bl _=>true
 | _,_=>false
def rEq:R2:=fun x y H Q=>b0r x y=true/\Q (.bl (decide (x=y))) H
def rNe:R2:=fun x y H Q=>b0r x y=true/\Q (.bl (!decide (x=y))) H
theorem b4N{i j:Int}:decide (V.int i=V.int j)=(i == j):=by
 rw[L4]
 simp
theorem b8A{i j:Bool}:decide (V.bl i=V.bl j)=(i == j):=by
 rw[L4]
 simp
theorem b4M{i j:Str}:decide (V.str i=V.str j)=(i == j):=by
 rw[L4]
 simp
theorem b4O{i j:Array UInt8}:decide (V.byt i=V.byt j)=(i.toList == j.toList):=by
 rw[L4]
 cases i
 cases j
 simp
section
variable {a b:Expr}{tb tc:TE}
theorem G5{Q:VK}{k k':Bool}(I:Inv X pins σ H s)(q:Q (.bl k) H)(e:k=k'):EP X pins σ Q (.bool k') s:=by
 subst e
 exact⟨.bl k,H,I,rfl,q⟩
theorem c5j:OpR X (p9 .Eq) rEq:=by
 intro pins s σ H x y v u Q I rx ry h
 obtain⟨hs,q⟩:=h
 cases x with
 | non=>
  cases rx
  cases y with
  | non=>cases ry;exact PySem.EqNone.eq_none_none (G5 I q (by simp))
  | bl j=>cases ry;exact PySem.EqNone.eq_none_bool (G5 I q (by simp))
  | int j=>obtain⟨t',rfl⟩:=ry;exact PySem.EqNone.eq_none_int (G5 I q (by simp))
  | str j=>obtain⟨t',rfl⟩:=ry;exact PySem.EqNone.eq_none_str (G5 I q (by simp))
  | _=>exact absurd (show false=true from hs) l9
 | bl i=>
  cases rx
  cases y with
  | non=>cases ry;exact PySem.EqNone.eq_bool_none (G5 I q (by simp))
  | bl j=>cases ry;exact eq_bool (G5 I q b8A)
  | str j=>obtain⟨t',rfl⟩:=ry;exact PySem.EqMixed.eq_bool_str (G5 I q (by simp))
  | _=>exact absurd (show false=true from hs) l9
 | int i=>
  obtain⟨t,rfl⟩:=rx
  cases y with
  | non=>cases ry;exact PySem.EqNone.eq_int_none (G5 I q (by simp))
  | int j=>obtain⟨t',rfl⟩:=ry;exact eq_int (G5 I q b4N)
  | str j=>obtain⟨t',rfl⟩:=ry;exact PySem.EqMixed.eq_int_str (G5 I q (by simp))
  | _=>exact absurd (show false=true from hs) l9
 | str i=>
  obtain⟨t,rfl⟩:=rx
  cases y with
  | non=>cases ry;exact PySem.EqNone.eq_str_none (G5 I q (by simp))
  | bl j=>cases ry;exact PySem.EqMixed.eq_str_bool (G5 I q (by simp))
  | int j=>obtain⟨t',rfl⟩:=ry;exact PySem.EqMixed.eq_str_int (G5 I q (by simp))
  | str j=>obtain⟨t',rfl⟩:=ry;exact eq_str (G5 I q b4M)
  | _=>exact absurd (show false=true from hs) l9
 | byt i=>
  obtain⟨t,rfl⟩:=rx
  cases y with
  | byt j=>obtain⟨t',rfl⟩:=ry;exact PySem.W.eq_bytes (G5 I q b4O)
  | _=>exact absurd (show false=true from hs) l9
 | _=>cases y <;> exact absurd (show false=true from hs) l9
theorem b4F:OpR X (p9 .NotEq) rNe:=by
 intro pins s σ H x y v u Q I rx ry h
 obtain⟨hs,q⟩:=h
 cases x with
 | non=>
  cases rx
  cases y with
  | non=>cases ry;exact PySem.EqNone.ne_none_none (G5 I q (by simp))
  | bl j=>cases ry;exact PySem.EqNone.ne_none_bool (G5 I q (by simp))
  | int j=>obtain⟨t',rfl⟩:=ry;exact PySem.EqNone.ne_none_int (G5 I q (by simp))
  | str j=>obtain⟨t',rfl⟩:=ry;exact PySem.EqNone.ne_none_str (G5 I q (by simp))
  | _=>exact absurd (show false=true from hs) l9
 | bl i=>
  cases rx
  cases y with
  | non=>cases ry;exact PySem.EqNone.ne_bool_none (G5 I q (by simp))
  | bl j=>cases ry;exact ne_bool (G5 I q (congrArg not b8A))
  | str j=>obtain⟨t',rfl⟩:=ry;exact PySem.EqMixed.ne_bool_str (G5 I q (by simp))
  | _=>exact absurd (show false=true from hs) l9
 | int i=>
  obtain⟨t,rfl⟩:=rx
  cases y with
  | non=>cases ry;exact PySem.EqNone.ne_int_none (G5 I q (by simp))
  | int j=>obtain⟨t',rfl⟩:=ry;exact ne_int (G5 I q (congrArg not b4N))
  | str j=>obtain⟨t',rfl⟩:=ry;exact PySem.EqMixed.ne_int_str (G5 I q (by simp))
  | _=>exact absurd (show false=true from hs) l9
 | str i=>
  obtain⟨t,rfl⟩:=rx
  cases y with
  | non=>cases ry;exact PySem.EqNone.ne_str_none (G5 I q (by simp))
  | bl j=>cases ry;exact PySem.EqMixed.ne_str_bool (G5 I q (by simp))
  | int j=>obtain⟨t',rfl⟩:=ry;exact PySem.EqMixed.ne_str_int (G5 I q (by simp))
  | str j=>obtain⟨t',rfl⟩:=ry;exact ne_str (G5 I q (congrArg not b4M))
  | _=>exact absurd (show false=true from hs) l9
 | byt i=>
  obtain⟨t,rfl⟩:=rx
  cases y with
  | byt j=>obtain⟨t',rfl⟩:=ry;exact PySem.W.ne_bytes (G5 I q (congrArg not b4O))
  | _=>exact absurd (show false=true from hs) l9
 | _=>cases y <;> exact absurd (show false=true from hs) l9
theorem c5f:OpR X (p9 .Lt) (rI0 fun i j=>.bl (decide (i<j))):=c0s fun _ _ _ _ _ _ _ q=>lt_int q
theorem c5g:OpR X (p9 .LtE) (rI0 fun i j=>.bl (decide (i<=j))):=c0s fun _ _ _ _ _ _ _ q=>le_int q
theorem c5h:OpR X (p9 .Gt) (rI0 fun i j=>.bl (decide (j<i))):=c0s fun _ _ _ _ _ _ _ q=>gt_int q
theorem c5i:OpR X (p9 .GtE) (rI0 fun i j=>.bl (decide (j<=i))):=c0s fun _ _ _ _ _ _ _ q=>ge_int q
theorem b5D:OpR X (p9 .In) (fun x y H Q=>∃i j,x=.str i/\y=.str j/\Q (.bl (!(Builtin.Str.occurrences j i 0 j.length 1).isEmpty)) H):=by
 intro pins s σ H x y v u Q I rx ry h
 obtain⟨i,j,rfl,rfl,q⟩:=h
 obtain⟨t,rfl⟩:=rx
 obtain⟨t',rfl⟩:=ry
 exact in_str (G5 I q rfl)
theorem c0q:OpR X (p9 .IsNot) (fun x y H Q=>y=.non/\Q (.bl (!decide (x=.non))) H):=by
 intro pins s σ H x y v u Q I rx ry h
 obtain⟨rfl,q⟩:=h
 cases ry
 refine isnot_none_gen (G5 I q ?_)
 cases x <;> first
  | (cases rx;rfl)
  | (obtain⟨t,rfl⟩:=rx;rfl)
theorem OpR.or{f:Value->Value->Sem Value}{r r':R2}(h:OpR X f r)(h':OpR X f r'):OpR X f (fun x y H Q=>r x y H Q\/r' x y H Q):=by
 intro pins s σ H x y v u Q I rx ry q
 rcases q with q | q
 ·exact h pins s σ H x y v u Q I rx ry q
 ·exact h' pins s σ H x y v u Q I rx ry q
theorem a2a(b:Expr){op:CmpOp}(h:op≠.In:=by decide)(h2:op≠.NotIn:=by decide):M3 op b=false:=by
 have e1:(op == CmpOp.In)=false:=by cases op <;> first | rfl | exact absurd rfl h
 have e2:(op == CmpOp.NotIn)=false:=by cases op <;> first | rfl | exact absurd rfl h2
 cases b <;> simp[M3,e1,e2]
theorem c0a{op:CmpOp}{r:R2}(ho:OpR X (p9 op) r)(ha:PE X a ta)(hb:PE X b tb)(hm:M3 op b=false):PE X (.Compare a [op] [b] pos) (tOp r ta tb):=by
 intro pins s σ H Q I h
 exact wpAny_Compare1 (c3N ha hb I h fun v u s2 x y H2 I2 rx ry q=>ho pins s2 σ H2 x y v u Q I2 rx ry q) hm
def C1(t:TE):TT:=fun σ H Q=>t σ H fun x H'=>∃k,x=.bl k/\Q k H'
theorem b9H{op:CmpOp}{r:R2}(ho:OpR X (p9 op) r)(ha:PE X a ta)(hb:PE X b tb)(hm:M3 op b=false):PT X (.Compare a [op] [b] pos) (C1 (tOp r ta tb)):=by
 intro pins s σ H Q I h
 refine c4o (thn (ha pins s σ H _ I h) fun v s1 ⟨x,H1,I1,r1,q1⟩=>thn (hb pins s1 σ H1 _ I1 q1) fun u s2 ⟨y,H2,I2,r2,q2⟩=>
  thn (ho pins s2 σ H2 x y v u _ I2 r1 r2 q2) fun c s3 ⟨z,H3,I3,r3,k,e,q3⟩=>?_) hm
 subst e
 cases r3
 exact I0 ⟨H3,I3,q3⟩
def a3y(r r':R2)(ta tb tc:TE):TE:=fun σ H Q=>ta σ H fun x H1=>tb σ H1 fun y H2=>r x y H2 fun z H3=>∃k,z=.bl k /\
 (if k=true then tc σ H3 fun w' H4=>r' y w' H4 Q else Q (.bl false) H3)
theorem b7U{op op':CmpOp}{r r':R2}(ho:OpR X (p9 op) r)(ho':OpR X (p9 op') r')(ha:PE X a ta)(hb:PE X b tb)(hc:PE X c tc)
  (hm:c4s [op,op'] [b,c]=false:=by with_unfolding_all rfl):PE X (.Compare a [op,op'] [b,c] pos) (a3y r r' ta tb tc):=by
 intro pins s σ H Q I h
 refine Compare_chain (thn (ha pins s σ H _ I h) fun v s1 ⟨x,H1,I1,r1,q1⟩=>chain_link (thn (hb pins s1 σ H1 _ I1 q1) fun u s2 ⟨y,H2,I2,r2,q2⟩=>
  thn (ho pins s2 σ H2 x y v u _ I2 r1 r2 q2) fun d s3 ⟨z,H3,I3,r3,k,e,q3⟩=>?_)) hm
 subst e
 cases r3
 refine I0 ?_
 cases k with
 | false=>exact ite_ff ⟨.bl false,H3,I3,rfl,q3⟩
 | true=>exact ite_tt (chain_last (thn (hc pins s3 σ H3 _ I3 q3) fun w' s4 ⟨z',H4,I4,r4,q4⟩=>ho' pins s4 σ H4 y z' u w' Q I4 r2 r4 q4))
theorem b7F{op op':CmpOp}{r r':R2}(ho:OpR X (p9 op) r)(ho':OpR X (p9 op') r')(ha:PE X a ta)(hb:PE X b tb)(hc:PE X c tc)
  (hm:c4s [op,op'] [b,c]=false:=by with_unfolding_all rfl):PT X (.Compare a [op,op'] [b,c] pos) (C1 (a3y r r' ta tb tc)):=by
 intro pins s σ H Q I h
 refine isTrue_chain (thn (ha pins s σ H _ I h) fun v s1 ⟨x,H1,I1,r1,q1⟩=>test_link (thn (hb pins s1 σ H1 _ I1 q1) fun u s2 ⟨y,H2,I2,r2,q2⟩=>
  thn (ho pins s2 σ H2 x y v u _ I2 r1 r2 q2) fun d s3 ⟨z,H3,I3,r3,k,e,q3⟩=>?_)) hm
 subst e
 cases r3
 refine I0 ?_
 cases k with
 | false=>
  obtain⟨k',e',q'⟩:=q3
  cases e'
  exact ite_ff ⟨H3,I3,q'⟩
 | true=>
  refine ite_tt (test_last (thn (hc pins s3 σ H3 _ I3 q3) fun w' s4 ⟨z',H4,I4,r4,q4⟩=>thn (ho' pins s4 σ H4 y z' u w' _ I4 r2 r4 q4) fun d' s5 ⟨z2,H5,I5,r5,k2,e2,q5⟩=>?_))
  subst e2
  cases r5
  exact I0 ⟨H5,I5,q5⟩
theorem a5d:(l7:Nat)<2 ^ 63:=by rw[sizeLine_eq];decide
theorem b3P:OpR X (W1 .Add) (fun x y H Q=>∃i j,x=.str i/\y=.str j/\i.length+j.length<=l7/\Q (.str (i++j)) H):=by
 intro pins s σ H x y v u Q I rx ry h
 obtain⟨i,j,rfl,rfl,hz,q⟩:=h
 obtain⟨t,rfl⟩:=rx
 obtain⟨t',rfl⟩:=ry
 exact add_str (fun t' tk=>⟨.str (i++j),H,I.tok _,⟨_,rfl⟩,q⟩) hz
theorem a5q{x:V}(r:D8 [x] us):∃u,us=[u]/\C4 x u:=by
 cases r with
 | cons r1 r2=>cases r2;exact⟨_,rfl,r1⟩
theorem b6V{x:V}(r:D8 [x,y] us):∃u w',us=[u,w']/\C4 x u/\C4 y w':=by
 cases r with
 | cons r1 r2=>
  cases r2 with
  | cons r3 r4=>cases r4;exact⟨_,_,rfl,r1,r3⟩
theorem b8H:U2 X (.builtin "abs") (fun xs H Q=>∃i,xs=[.int i]/\Q (.int (if i<0 then -i else i)) H):=by
 intro pins s σ H xs us Q I r h
 obtain⟨i,rfl,q⟩:=h
 obtain⟨u,rfl,t,rfl⟩:=a5q r
 exact call_abs_int fun u tk=>⟨.int (if i<0 then -i else i),H,I.tok _,⟨_,rfl⟩,q⟩
theorem b6l(hc:X.calm=true):U2 X (.builtin "min") (fun xs H Q=>∃i j,xs=[.int i,.int j]/\Q (.int (if j<i then j else i)) H):=by
 intro pins s σ H xs us Q I r h
 obtain⟨i,j,rfl,q⟩:=h
 obtain⟨u,w',rfl,⟨t,rfl⟩,⟨t',rfl⟩⟩:=b6V r
 refine min_two_ints (I.ok.hd hc) fun h' tk k=>⟨_,H,I.kept k,?_,q⟩
 by_cases hj:j<i
 ·rw[if_pos hj,if_pos hj];exact⟨_,rfl⟩
 ·rw[if_neg hj,if_neg hj];exact⟨_,rfl⟩
end
structure b4p(h:Heap)(x dx C:Addr)(mA:Str->Option Value):Prop where
 obj:h.get? x=some (R7 C dx)
 ns:h.Ns1 dx mA
 ne:dx≠x
theorem b5O{mA:Str->Option Value}(n:h.Ns1 dx mA):∃od,h.get? dx=some od/\∀name,a4p name od=some (mA name):=by
 obtain⟨o,es,ep,ho,hd,hk,_,hm⟩:=n
 refine⟨o,ho,fun name=>?_⟩
 have e:=hm name
 unfold nsFind findBy at e
 rw[<-Array.find?_toList]at e
 unfold a4p
 rw[hd]
 dsimp only
 split
 ·rename_i y q
  rw[q]at e
  exact congrArg some e
 ·rename_i q
  rw[q]at e
  have a:es.toList.any (·.refKey)=false:=by
   rw[List.any_eq_false]
   intro y hy
   obtain⟨z,t,hkey⟩:=hk y (Array.mem_toList_iff.mp hy)
   simp[DictEntry.refKey,hkey]
  have a':¬es.toList.any (·.refKey)=true:=by rw[a];exact l9
  rw[if_neg a']
  exact congrArg some e
theorem b4p.look{x:Addr}{mA:Str->Option Value}(I:b4p h x dx C mA):∃od,PySem.W.InstAt h x (R7 C dx) C (some od)/\∀name,a4p name od=some (mA name):=
 let⟨od,ho,hl⟩:=b5O I.ns
 ⟨od,⟨I.obj,rfl,rfl,ho⟩,hl⟩
section
variable {prog:w4}{A:F8}{E:Value->g9->Prop}{K:Fg}{x:Addr}{mA:Str->Option Value}{name:Str}{v:Value}
theorem c0O{expr:Bool}(X:K.In s.heap)(I:b4p s.heap x dx C mA)(hg:a0R K C name=true)(hh:a2e K C=true)
  (ha:C0 K (.ref C) name=some none) (hv:mA name=some v) (hv':b8U v=true) (h:Q v { s with toks:=s.toks+1 }) :
  wpAny (model prog w) A (getAttr (.ref x) name expr) Q E s:=by
 obtain⟨od,J,hl⟩:=I.look
 exact PySem.W.get_value X J (a5k hg).1 (PySem.W.findObj_own hh ha rfl (by rw[hl,hv])) hv' h
theorem b8v{pl:Sem Bool}{Q:Value×List Value->g9->Prop}(X:K.In s.heap)(I:b4p s.heap x dx C mA)(hg:a0R K C name=true)
  (hf:C0 K (.ref C) name=some (some (.ref f))) (ht:a7c K (.ref f)=true) (hv:mA name=none) (h:Q (.ref f,[.ref x]) s) :
  wpAny (model prog w) A (b6D (.ref x) name pl) Q E s:=by
 obtain⟨od,J,hl⟩:=I.look
 exact PySem.W.method_fn X J (a5k hg).1 (a5k hg).2 hf (beq_iff_eq.mp ht) (by show(a4p name od).map (·.isSome)=some false;rw[hl,hv];rfl) h
theorem b9m{ns:List Str}{Q:Unit->g9->Prop}(X:K.In s.heap)(I:b4p s.heap x dx C mA)
  (hs:C0 K (.ref C) "__setattr__" = some (some (.builtin "object.__setattr__"))) (hp:a7a K C=true) (ht:a9b K C name=some none) (hh:a2e K C=true)
  (hw:PySem.Within mA ns) (hsz:ns.length<=l7)
  (h:∀h',b4p h' x dx C (fun y=>if y=name then some v else mA y)->Heap.SameBut dx s.heap h'->Q () { s with heap:=h',toks:=s.toks+2 }) :
  wpAny (model prog w) A (setAttr (.ref x) name v) Q E s:=by
 obtain⟨od,J,hl⟩:=I.look
 refine PySem.W.set_plain X J hs (PySem.W.osa_open (s:={ s with toks:=s.toks+1 }) (r:=none) X J hp ht fun b=>?_)
 obtain⟨cd,hc,hd'⟩:=PySem.W.any_some hh
 have hx:s.heap.get? x=some ⟨.ref C,some dx,.plain,#[]⟩:=I.obj
 refine c5 (o0 (c5 (c5 (wpAny_loadPart hx (c5 (PySem.W.Looks.here (s:={ s with toks:=s.toks+1 }) (PySem.W.looks_clsIn X hc) ?_))))))
 rw[hd']
 refine o0 (a:=some dx) (c5 (o0 (c5 ?_)))
 refine wpAny_nsSet1 (s:={ s with toks:=s.toks+1 }) I.ns fun h' hn2 hs2=>?_
 obtain⟨oD,esD,epD,hoD,hdD,hcD⟩:=hn2.count (PySem.Within.cons name v hw)
 refine c5 (wpAny_lookBehind hoD (by rw[hdD];exact pastItsLine_dict (A9 hcD (by rw[v9];omega))) ?_)
 exact o0 (h _ ⟨(hs2.2 _ (Ne.symm I.ne)).trans I.obj,hn2,I.ne⟩ hs2)
theorem b8l{R:c4t->g9->Prop}{vs:List Value}{kw:List (Str×Value)}(X:K.In s.heap)(hm:a3p K C=true)
  (hi:C0 K (.ref C) "__init__" = some (some (.ref f))) (hf:PySem.W.typeIn K (.ref f)=some (.type "function"))
  (h:a6k (model prog w) (A.under (.builtin "type.__call__" ⟨.ref C::vs,kw⟩)) (.call (.ref f) ⟨.ref (s.heap.objs.size+1)::vs,kw⟩) (PySem.W.InitBack (s.heap.objs.size+1) R)
   { s with heap:=(s.heap.push K7).push (R7 C s.heap.objs.size) }) :
  a6k (model prog w) A (.call (.ref C) ⟨vs,kw⟩) R s:=by
 obtain⟨hh,g,d,t,os⟩:=s
 exact PySem.W.make_core (PySem.W.makes_of X hm) (PySem.W.looks_findIn X hi) (fun self=>PySem.W.bind_fn X self hf) (.inl rfl) h
end
def a1H(f:Str)(v:V):List (Str×V)->List (Str×V)
 | []=>[(f,v)]
 | (g,x)::r=>if g=f then (g,v)::r else (g,x)::a1H f v r
theorem a7k(f g:Str)(v:V):∀fs:List (Str×V),(a1H f v fs).lookup g=if g=f then some v else fs.lookup g
 | []=>by
  show a1p g [(f,v)]=_
  by_cases h:g=f
  ·have hb:(g == f)=true:=beq_iff_eq.mpr h
   simp only[a1p,hb,if_pos h]
  ·have hb:(g == f)=false:=beq_eq_false_iff_ne.mpr h
   simp only[a1p,hb,if_neg h]
 | (k,x)::r=>by
  have ih:=a7k f g v r
  rw[show a1H f v ((k,x)::r)=(if k=f then (k,v)::r else (k,x)::a1H f v r)from rfl]
  by_cases hk:k=f
  ·rw[if_pos hk]
   by_cases h:g=k
   ·have hb:(g == k)=true:=beq_iff_eq.mpr h
    simp only[a1p,hb,if_pos (h.trans hk)]
   ·have hb:(g == k)=false:=beq_eq_false_iff_ne.mpr h
    simp only[a1p,hb,if_neg (fun e:g=f=>h (e.trans hk.symm))]
  ·rw[if_neg hk]
   by_cases h:g=k
   ·have hb:(g == k)=true:=beq_iff_eq.mpr h
    simp only[a1p,hb,if_neg (fun e:g=f=>hk (h.symm.trans e))]
   ·have hb:(g == k)=false:=beq_eq_false_iff_ne.mpr h
    simp only[a1p,hb]
    exact ih
theorem a6Q(f:Str)(v:V):∀fs:List (Str×V),f∈(a1H f v fs).map (·.1)/\∀g,g∈fs.map (·.1)->g∈(a1H f v fs).map (·.1)
 | []=>⟨by simp[a1H],fun g h=>by simp at h⟩
 | (k,x)::r=>by
  obtain⟨i1,i2⟩:=a6Q f v r
  rw[show a1H f v ((k,x)::r)=(if k=f then (k,v)::r else (k,x)::a1H f v r)from rfl]
  by_cases hk:k=f
  ·rw[if_pos hk]
   subst hk
   exact⟨by simp,fun g h=>by simpa using h⟩
  ·rw[if_neg hk]
   refine⟨?_,fun g h=>?_⟩
   ·rw[F3]
    exact C3 _ i1
   ·rw[F3]at h ⊢
    rcases c8.mp h with e | e
    ·exact c8.mpr (.inl e)
    ·exact C3 _ (i2 g e)
theorem a7l(f:Str)(v:V):∀fs:List (Str×V),(a1H f v fs).length<=fs.length+1
 | []=>by simp[a1H]
 | (k,x)::r=>by
  have ih:=a7l f v r
  rw[show a1H f v ((k,x)::r)=(if k=f then (k,v)::r else (k,x)::a1H f v r)from rfl]
  by_cases hk:k=f
  ·rw[if_pos hk,v9,v9];omega
  ·rw[if_neg hk,v9,v9];omega
theorem a3o.some_of{o:Option Value}(r:a3o (some v) o):∃u,o=some u/\C4 v u:=by
 cases o with
 | none=>exact(show False from r).elim
 | some u=>exact⟨u,rfl,r⟩
theorem a3o.none_of{o:Option Value}(r:a3o none o):o=none:=by
 cases o with
 | none=>rfl
 | some u=>exact(show False from r).elim
theorem b5W(r:C4 v u):b8U u=true:=by
 cases v with
 | non=>cases (show u=Value.none from r);rfl
 | bl b=>cases (show u=Value.bool b from r);rfl
 | int i=>obtain⟨t,e⟩:=(show ∃t,u=Value.int i t from r);cases e;rfl
 | str x=>obtain⟨t,e⟩:=(show ∃t,u=Value.str x t from r);cases e;rfl
 | byt b=>obtain⟨t,e⟩:=(show ∃t,u=Value.bytes b t from r);cases e;rfl
 | flt b=>obtain⟨t,e⟩:=(show ∃t,u=Value.float b t from r);cases e;rfl
 | ref a=>cases (show u=Value.ref a from r);rfl
 | ty n=>cases (show u=Value.type n from r);rfl
section
variable {P:w4}{fs fs':List (Str×V)}
theorem a7F(hok:HOk P w H h)(e:H a=some (.ins C dx fs)):∃mA,b4p h a dx C mA/\(∀f,a3o (fs.lookup f) (mA f))/\PySem.Within mA (fs.map (·.1))/\fs.length<=1000/\H dx=some (.own a):=by
 obtain⟨d,z,ne,ob,mA,n,r,q⟩:=(show R4 P w H h a (.ins C dx fs)from hok a _ e)
 exact⟨mA,⟨ob,n,ne⟩,r,q,z,d⟩
end
structure Cls(K:Fg)(C:Addr):Prop where
 pg:a0R K C Str.empty=true
 hd:a2e K C=true
 po:a7a K C=true
 sa:C0 K (.ref C) "__setattr__" = some (some (.builtin "object.__setattr__"))
theorem Cls.get{K:Fg}(c:Cls K C)(f:Str):a0R K C f=true:=c.pg
def a1E(K:Fg)(C:Addr)(f:Str):Prop:=C0 K (.ref C) f=some none
theorem a1E.taker{K:Fg}{f:Str}(n:a1E K C f):a9b K C f=some none:=by
 unfold a9b
 rw[show C0 K (.ref C) f=some none from n]
 rfl
structure Con(K:Fg)(C:Addr)(f:Str)(v:V)(u:Value):Prop where
 at_:C0 K (.ref C) f=some (some u)
 rel:C4 v u
 get:a2d K u "__get__" = some none
 cp:PySem.W.copiedNames.contains f=false
structure c3U(K:Fg)(C:Addr)(m:Str)(f:Addr):Prop where
 at_:C0 K (.ref C) m=some (some (.ref f))
 fn:a7c K (.ref f)=true
 kp:P8 K (.ref f)=true
section
variable {fs:List (Str×V)}{f:Str}{A:F8}{E:Value->g9->Prop}
theorem b4e{b:Bool}(I:Inv X pins σ H s)(e:H a=some (.ins C dx fs))(c:Cls X.K C)(n:a1E X.K C f)(l:fs.lookup f=some v)
  (h:∀u s',Inv X pins σ H s'->C4 v u->Q u s'):wpAny (model X.prog X.w) A (getAttr (.ref a) f b) Q E s:=by
 obtain⟨mA,O,r,_,_,_⟩:=a7F I.hok e
 obtain⟨u,hu,ru⟩:=a3o.some_of (v:=v) (o:=mA f) (by rw[<-l];exact r f)
 exact c0O I.kIn O (c.get f) c.hd n hu (b5W ru) (h u _ (I.tok _) ru)
theorem b4d{m:Str}{g:Addr}{pl:Sem Bool}{Q:Value×List Value->g9->Prop}(I:Inv X pins σ H s)(e:H a=some (.ins C dx fs))(c:Cls X.K C)(k:c3U X.K C m g)(l:fs.lookup m=none)
  (h:Q (.ref g,[.ref a]) s):wpAny (model X.prog X.w) A (b6D (.ref a) m pl) Q E s:=by
 obtain⟨mA,O,r,_,_,_⟩:=a7F I.hok e
 have hn:mA m=none:=a3o.none_of (by rw[<-l];exact r m)
 exact b8v I.kIn O (c.get m) k.at_ k.fn hn h
theorem b3p{Q:Unit->g9->Prop}(I:Inv X pins σ H s)(e:H a=some (.ins C dx fs))(c:Cls X.K C)(n:a1E X.K C f)(hl:fs.length<1000)(ry:C4 y u)
  (h:∀s',Inv X pins σ (upd H a (.ins C dx (a1H f y fs))) s'->Q () s'):wpAny (model X.prog X.w) A (setAttr (.ref a) f u) Q E s:=by
 obtain⟨mA,O,r,wi,_,ho⟩:=a7F I.hok e
 have hz:(fs.map (·.1)).length<=l7:=by rw[a8,sizeLine_eq];omega
 refine b9m I.kIn O c.sa c.po n.taker c.hd wi hz fun h' O' sb=>h _ ?_
 have hd:∃o,h'.get? dx=some o:=let⟨o,_,_,e',_⟩:=O'.ns; ⟨o,e'⟩
 refine I.write (x:=a) (e:=dx) (by rw[e];exact True.intro) (.inr ho) (fun b q hb z=>(sb.2 b hb).trans z) hd ?_
 refine⟨by rw[c9 O.ne];exact ho,?_,O.ne,O'.obj,_,O'.ns,fun g=>?_,fun g hg=>?_⟩
 ·have:=a7l f y fs;omega
 ·show a3o ((a1H f y fs).lookup g) (if g=f then some u else mA g)
  rw[a7k]
  by_cases q:g=f
  ·rw[if_pos q,if_pos q];exact ry
  ·rw[if_neg q,if_neg q];exact r g
 ·by_cases q:g=f
  ·rw[q];exact(a6Q f y fs).1
  ·refine(a6Q f y fs).2 g (wi g fun z=>hg ?_)
   show(if g=f then some u else mA g)=none
   rw[if_neg q];exact z
theorem Inv.made(I:Inv X pins σ H s):Inv X pins σ (upd (upd H s.heap.objs.size (.own (s.heap.objs.size+1))) (s.heap.objs.size+1) (.ins C s.heap.objs.size []))
  { s with heap:=(s.heap.push K7).push (R7 C s.heap.objs.size) }:=by
 have e1:(s.heap.push K7).get? s.heap.objs.size=some K7:=t9 s.heap rfl
 have e2:((s.heap.push K7).push (R7 C s.heap.objs.size)).get? (s.heap.objs.size+1)=some (R7 C s.heap.objs.size):=by
  have:=t9 (s.heap.push K7) (o:=R7 C s.heap.objs.size) rfl
  rwa [c4l]at this
 have e3:(s.heap.push K7).Ns s.heap.objs.size (fun _=>none):=⟨K7,#[],_,e1,rfl,(fun e he=>absurd he (by simp)),fun _=>rfl⟩
 have I1:=I.laid (a:=s.heap.objs.size) (o:=.own (s.heap.objs.size+1)) (h':=s.heap.push K7) (t':=s.toks) (fun b u q=>i9 _ q) (d9 _) ⟨_,e1⟩
 refine I1.laid (a:=s.heap.objs.size+1) (o:=.ins C s.heap.objs.size []) (t':=s.toks) (fun b u q=>i9 _ q) (Nat.le_of_eq (c4l _ _)) ?_
 have ne:s.heap.objs.size≠s.heap.objs.size+1:=u7 (c4c _)
 refine⟨by rw[c9 ne,c6],L5 _,ne,e2,fun _=>none,(Heap.Ns1.of_empty e3).at fun o q=>i9 _ q,fun _=>True.intro,fun y hy=>absurd rfl hy⟩
theorem c0Y{prog:w4}{env:Env}(hb:U9 e f env (eval e env)=eval e env)
  (h:wpAny (model prog w) A (eval e env) (fun o s₁=>wpAny (model prog w) A (getAttr o f true) Q E s₁) E s):wpAny (model prog w) A (eval (.Attribute e f pos) env) Q E s:=
 Attribute_any_ h (by rw[arm_eval_Attribute,hb])
end
def a2B(K:Fg)(ta:TE)(f:Str):TE:=fun σ H Q=>ta σ H fun x H1=>∃a C dx fs v,x=.ref a/\H1 a=some (.ins C dx fs)/\Cls K C/\a1E K C f/\fs.lookup f=some v/\Q v H1
def b5v(K:Fg)(ta tv:TE)(f:Str):TS:=fun D σ H=>tv σ H fun y H1=>ta σ H1 fun x H2=>∃a C dx fs,x=.ref a/\H2 a=some (.ins C dx fs)/\Cls K C/\a1E K C f/\fs.length<1000 /\
 D.nx σ (upd H2 a (.ins C dx (a1H f y fs)))
section
variable {o value:Expr}{f:Str}{tpos:Pos}{tv:TE}
theorem c2S(he:PE X e ta)(hb:U9 e f X.env (eval e X.env)=eval e X.env):PE X (.Attribute e f pos) (a2B X.K ta f):=by
 intro pins s σ H Q I h
 refine c0Y hb (thn (he pins s σ H _ I h) fun u s1 ⟨x,H1,I1,rx,a,C,dx,fs,v,ex,ea,c,n,l,q⟩=>?_)
 subst ex
 obtain rfl:u=Value.ref a:=rx
 exact b4e I1 ea c n l fun u' s2 I2 ru=>⟨v,H1,I2,ru,q⟩
theorem c2C(ha:PE X o ta)(hv:PE X value tv)(hs:a1r value (some (.Attribute o f pos')) pos.line X.env=pure false):PS X (.Assign [.Attribute o f pos'] value pos) (b5v X.K ta tv f):=by
 intro pins s σ H D I h
 refine plainObj_wpAny_Assign_Attribute (thn (hv pins s σ H _ I h) fun u s1 ⟨y,H1,I1,ry,q⟩=>thn (ha pins s1 σ H1 _ I1 q) fun ov s2 ⟨x,H2,I2,rx,a,C,dx,fs,ex,ea,c,n,l,q2⟩=>?_) hs
 subst ex
 obtain rfl:ov=Value.ref a:=rx
 exact b3p I2 ea c n l ry fun s3 I3=>⟨σ,_,I3,q2⟩
end
section
variable {A:F8}{E:Value->g9->Prop}{c:Value}{b:Bool}
inductive a6X(K:Fg)(H:Hp):V->Value->Prop where
 | non:a6X K H .non (.type "NoneType")
 | bl (x:Bool):a6X K H (.bl x) (.type "bool")
 | int (i:Int):a6X K H (.int i) (.type "int")
 | str (x:Str):a6X K H (.str x) (.type "str")
 | flt (x:UInt64):a6X K H (.flt x) (.type "float")
 | lst {a:Addr} {xs:List V} (e:H a=some (.lst xs)):a6X K H (.ref a) (.type "list")
 | frz {a:Addr} {o:Obj} {xs:List V} (e:H a=some (.frz o (.lst xs))):a6X K H (.ref a) (.type "list")
 | tup {a:Addr} {xs:List V} (e:H a=some (.tup xs)):a6X K H (.ref a) (.type "tuple")
 | dK {a:Addr} {kvs:List (Key×V)} (e:H a=some (.dK kvs)):a6X K H (.ref a) (.type "dict")
 | dT {a:Addr} {kvs:List (List Key×V)} (e:H a=some (.dT kvs)):a6X K H (.ref a) (.type "dict")
 | ins {a C dx:Addr} {fs:List (Str×V)} (e:H a=some (.ins C dx fs)) (cl:Cls K C) (ha:C0 K (.ref C) "__class__" = some (some (.builtin "object.__class__")))
   (hn:a2d K (.builtin "object.__class__") "__get__" = some (some (.builtin "getset_descriptor.__get__"))) (htk:a9a K (.builtin "object.__class__")=some true)
   (hm:b1r K C (.type "object")=some true):a6X K H (.ref a) (.ref C)
theorem a9U{x:V}{t:Value}(I:Inv X pins σ H s)(rx:C4 x u)(ty:a6X X.K H x t)(e:a4q X.K t c=some b)(h:∀tk,Q (.bool b) { s with toks:=tk }) :
  wpAny (model X.prog X.w) A (call (.builtin "isinstance") [u,c]) Q E s:=by
 cases ty with
 | non=>cases (show u=Value.none from rx);exact J1 PySem.W.kitx_none I.kIn True.intro e (fun z=>nomatch z) h
 | bl y=>cases (show u=Value.bool y from rx);exact J1 PySem.W.kitx_bool I.kIn True.intro e (fun z=>nomatch z) h
 | int i=>obtain⟨t,q⟩:=(show ∃t,u=Value.int i t from rx);cases q;exact J1 PySem.W.kitx_int I.kIn True.intro e (fun z=>nomatch z) h
 | str y=>obtain⟨t,q⟩:=(show ∃t,u=Value.str y t from rx);cases q;exact J1 PySem.W.kitx_str I.kIn True.intro e (fun z=>nomatch z) h
 | flt y=>obtain⟨t,q⟩:=(show ∃t,u=Value.float y t from rx);cases q;exact J1 PySem.W.kitx_float I.kIn True.intro e (fun z=>nomatch z) h
 | @lst a xs ea=>
  cases (show u=Value.ref a from rx)
  obtain⟨_,_,n,_,h1⟩:=(show R4 X.prog X.w H s.heap a (.lst xs)from I.hok a _ ea)
  exact J1 b6v I.kIn ⟨_,h1,rfl⟩ e (fun z=>nomatch z) h
 | @frz a ob xs ea=>
  cases (show u=Value.ref a from rx)
  obtain⟨_,_,_,n,_,h1⟩:=(show R4 X.prog X.w H s.heap a (.frz ob (.lst xs))from I.hok a _ ea)
  exact J1 b6v I.kIn ⟨_,h1,rfl⟩ e (fun z=>nomatch z) h
 | @tup a xs ea=>
  cases (show u=Value.ref a from rx)
  obtain⟨_,_,_,p⟩:=(show R4 X.prog X.w H s.heap a (.tup xs)from I.hok a _ ea)
  obtain⟨o,h1,h2,_⟩:=p
  exact J1 PySem.W.kitx_tuple I.kIn ⟨o,h1,h2⟩ e (fun z=>nomatch z) h
 | @dK a kvs ea=>
  cases (show u=Value.ref a from rx)
  obtain⟨_,_,vs,_,p⟩:=(show R4 X.prog X.w H s.heap a (.dK kvs)from I.hok a _ ea)
  obtain⟨o,es,ep,h1,h2,_⟩:=p
  exact J1 b6w I.kIn ⟨o,h1,h2.1⟩ e (fun z=>nomatch z) h
 | @dT a kvs ea=>
  cases (show u=Value.ref a from rx)
  obtain⟨_,_,xs,_,o,es,ep,h1,h2,_⟩:=(show R4 X.prog X.w H s.heap a (.dT kvs)from I.hok a _ ea)
  exact J1 b6w I.kIn ⟨o,h1,h2.1⟩ e (fun z=>nomatch z) h
 | @ins a C dx fs ea cl ha hn htk hm=>
  cases (show u=Value.ref a from rx)
  obtain⟨mA,O,_⟩:=a7F I.hok ea
  obtain⟨od,J,_⟩:=O.look
  exact J1 (PySem.W.kitx_own (cl.get _) cl.hd ha hn htk hm) I.kIn J e (fun z=>nomatch z) h
end
structure M5(k:Nat)(A:F8):Prop where
 hd:A.handled=none
 dp:A.depth+3 * k+5<recursionLimit
 un:A.units+16 * k+200<cLine
theorem M5.mono{j k:Nat}{A:F8}(r:M5 k A)(h:j<=k):M5 j A:=⟨r.hd,by have:=r.dp;omega,by have:=r.un;omega⟩
theorem M5.deeper{k:Nat}{A:F8}(r:M5 (k+1) A)(env:Env):M5 k (A.deeper env):=
 ⟨r.hd,by have:=r.dp;show A.depth+1+3 * k+5<_;omega,by have:=r.un;show A.units+3+16 * k+200<_;omega⟩
theorem b3Z{A:F8}{kw:List (Str×Value)}:(A.under (.builtin "type.__call__" ⟨.ref C::us,kw⟩)).depth=A.depth+1:=by
 first | rfl | simp[Around.under,Code.weight,Code.isCreation,Code.isGuard,Code.isCaller,Code.frames,Code.isFrame,guardIds]
theorem b3Y{A:F8}{kw:List (Str×Value)}:(A.under (.builtin "type.__call__" ⟨.ref C::us,kw⟩)).units=A.units+1:=by
 first | rfl | simp[Around.under,Code.cUnits,Code.frames,Code.isFrame]
theorem M5.make{k:Nat}{A:F8}(r:M5 (k+1) A)(C:Addr)(us:List Value)(kw:List (Str×Value)):M5 k (A.under (.builtin "type.__call__" ⟨.ref C::us,kw⟩)):=
 ⟨r.hd,by have:=r.dp;rw[b3Z];omega,by have:=r.un;rw[b3Y];omega⟩
theorem M5.depth{k:Nat}{A:F8}(r:M5 k A):A.depth<recursionLimit:=by have:=r.dp;omega
theorem M5.units{k:Nat}{A:F8}(r:M5 k A):A.units+64<cLine:=by have:=r.un;omega
theorem M5.units0{k:Nat}{A:F8}(r:M5 k A):A.units<cLine:=by have:=r.un;omega
def j5:TA:=fun _ H Q=>Q [] H
def a9(ta:TE)(tr:TA):TA:=fun σ H Q=>ta σ H fun x H1=>tr σ H1 fun xs H2=>Q (x::xs) H2
section
variable {t:TA}
theorem c2W:PA X [] j5:=fun _ _ _ _ H Q I h=>Calls.spliced_nil ⟨[],H,I,.nil,h⟩
theorem c0d(ha:PE X e te)(hr:PA X es t)(hs:g7 (e::es) X.env=(false,eval e X.env)::g7 es X.env:=by rfl):PA X (e::es) (a9 te t):=by
 intro pos pins s σ H Q I h
 rw[hs]
 show wpAny _ _ (spliced ((false,eval e X.env)::U8 pos (g7 es X.env))) _ _ s
 refine Calls.spliced_cons (thn (ha pins s σ H _ I h) fun u s1 ⟨x,H1,I1,r1,q1⟩=>?_)
 exact thn (hr pos pins s1 σ H1 _ I1 q1) fun us s2 ⟨xs,H2,I2,r2,q2⟩=>⟨x::xs,H2,I2,.cons r1 r2,q2⟩
def a0w(t:TA):TE:=fun σ H Q=>t σ H fun xs H1=>xs.length<=l7/\∀p,H1 p=none->Q (.ref p) (upd H1 p (.tup xs))
def a1f(t:TA):TE:=fun σ H Q=>t σ H fun xs H1=>xs.length<=l7/\∀p,H1 p=none->Q (.ref p) (upd H1 p (.lst xs))
theorem c2J{x1}(h:PA X es t):PE X (.Tuple es x1 pos) (a0w t):=by
 intro pins s σ H Q I hq
 refine wpAny_Tuple_spliced (thn (h pos pins s σ H _ I hq) fun us s1 ⟨xs,H1,I1,r,z,q⟩=>⟨by rw[<-r.length];exact z,?_⟩)
 have hf:H1 s1.heap.objs.size=none:=I1.hok.fresh (d9 _)
 refine⟨.ref s1.heap.objs.size,upd H1 s1.heap.objs.size (.tup xs),I1.laid (t':=s1.toks) (fun b u e=>i9 _ e) (d9 _) ?_,rfl,q _ hf⟩
 exact⟨z,us,r,⟨_,t9 _ rfl,rfl,_,rfl⟩⟩
theorem c2Q(h:PA X es t):PE X (.List es pos) (a1f t):=by
 intro pins s σ H Q I hq
 refine wpAny_List_spliced (thn (h pos pins s σ H _ I hq) fun us s1 ⟨xs,H1,I1,r,z,q⟩=>⟨by rw[<-r.length];exact z,?_⟩)
 have hf:H1 s1.heap.objs.size=none:=I1.hok.fresh (d9 _)
 refine⟨.ref s1.heap.objs.size,upd H1 s1.heap.objs.size (.lst xs),I1.laid (t':=s1.toks) (fun b u e=>i9 _ e) (d9 _) ?_,rfl,q _ hf⟩
 exact⟨z,us,0,r,t9 _ rfl⟩
end
abbrev Sp:=List V->Hp->VK->XK->Prop
abbrev CXT:=List Env->Hp->g9->XK->Value->g9->Prop
variable{CX:CXT}
structure b4r(P:w4)(w:World)(K:Fg)(mg:Str->Option Value)(base:Heap)(A:F8)(outer:List Env)(s:g9)(H:Hp):Prop where
 frames:A.frames=some outer
 mod:Mod K mg base
 bs:∀b o,base.get? b=some o->s.heap.get? b=some o/\H b=none
 bsz:base.objs.size<=s.heap.objs.size
 funs:s.heap.FunFrames base outer
 frf:∀b∈frs outer,H b=none
 hok:HOk P w H s.heap
 bare:b0g s.gens
def CE(outer:List Env)(P:w4)(w:World)(H:Hp)(s:g9)(Q:VK)(u:Value)(s':g9):Prop:=
 ∃v H',s'.os=s.os/\b0g s'.gens/\Un (frs outer) [] H H' s.heap s'.heap/\HOk P w H' s'.heap/\C4 v u/\Q v H'
def CR(CX:CXT)(outer:List Env)(P:w4)(w:World)(H:Hp)(s:g9)(Q:VK)(E:XK)(r:c4t)(s':g9):Prop:=
 match r with
 | .ok (.ret u)=>CE outer P w H s Q u s'
 | .ok _=>False
 | .error e=>CX outer H s E e s'
structure G8(P:w4)(w:World)(K:Fg)(mg:Str->Option Value)(base:Heap)(CX:CXT)(k:Nat)(f:Addr)(fd:W2)(ps:List Str)(sp:Sp):Prop where
 len:∀vs H Q E,sp vs H Q E->vs.length=ps.length
 run:∀(A:F8) (outer:List Env) (s:g9) (H:Hp) (args:Args) (us:List Value) (vs:List V) (Q:VK) (E:XK),M5 k A->b4r P w K mg base A outer s H->b6F s fd args (ps.zip us)->D8 vs us->sp vs H Q E ->
  a6k (model P w) A (.call (.ref f) args) (CR CX outer P w H s Q E) s
theorem b4r.make{P:w4}{K:Fg}{mg:Str->Option Value}{base:Heap}{A:F8}{outer:List Env}(e:b4r P w K mg base A outer s H)(C:Addr)(us:List Value)(kw:List (Str×Value)) :
  b4r P w K mg base (A.under (.builtin "type.__call__" ⟨.ref C::us,kw⟩)) outer s H:=⟨by first | exact e.frames | (simpa[Around.under,Code.envs,Code.isFrame,pushEnvs]using e.frames),e.mod,e.bs,e.bsz,e.funs,e.frf,e.hok,e.bare⟩
section
variable {s':g9}
theorem Inv.env0(I:Inv X pins σ H s):b4r X.prog X.w X.K X.mg X.base X.A X.stack s H:=
 ⟨I.ok.frames,I.ok.mod,I.bs,A9 I.ok.bsz I.sz,I.stack,I.stkFree,I.hok,I.bare⟩
theorem Inv.after{Q:VK}(I:Inv X pins σ H s)(h:CE X.stack X.prog X.w H s Q u s'):EP X pins σ Q u s':=by
 obtain⟨v,H',os,bare,un,hok,r,q⟩:=h
 obtain⟨hh,g,d,t,os'⟩:=s'
 obtain rfl:os'=s.os:=os
 exact⟨v,H',I.call (h':=hh) (g':=g) (d':=d) (t':=t) (ch:=[]) un hok bare (fun b z=>absurd z (by simp)),r,q⟩
end
def u9(sp:Sp)(dvs:List V)(E:XK)(t:TA):TE:=fun σ H Q=>t σ H fun vs H1=>sp (vs++dvs) H1 Q E
def b1R(C:Addr)(m:Str)(sp:Sp)(dvs:List V)(E:XK)(ta:TE)(t:TA):TE:=fun σ H Q=>ta σ H fun x H1=>∃a dx fs,x=.ref a/\H1 a=some (.ins C dx fs)/\fs.lookup m=none /\
 t σ H1 fun vs H2=>sp (x::(vs++dvs)) H2 Q E
def a8b(C:Addr)(sp:Sp)(dvs:List V)(E:XK)(t:TA):TE:=fun σ H Q=>t σ H fun vs H1=>∀x dx,H1 x=none->H1 dx=none->dx≠x ->
 sp (.ref x::(vs++dvs)) (upd (upd H1 dx (.own x)) x (.ins C dx [])) (fun v H2=>v=.non/\Q (.ref x) H2) E
def a3l(K:Fg)(fd:W2)(ps:List Str)(ds:List Value):Prop:=
 ∀(s:g9) (us:List Value),K.In s.heap->(us++ds).length=ps.length->b6F s fd ⟨us,[]⟩ (ps.zip (us++ds))
theorem a3l.all{K:Fg}{fd:W2}(h:∀us:List Value,us.length=ps.length->bindArgs fd ⟨us,[]⟩=pure (ps.zip us)):a3l K fd ps []:=fun s us _ hl=>by
 rw[a1G]at hl ⊢
 exact .of_eq (h us hl)
def a6Y(CX:CXT)(X:Cx)(E:XK):Prop:=∀(pins:List (Addr×Obj)) (σ:St) (H:Hp) (s:g9) (e:Value) (s':g9),Inv X pins σ H s->CX X.stack H s E e s'->X.xe e s'
section
variable {k:Nat}{fd:W2}{sp:Sp}{dvs:List V}{ds:List Value}{E:XK}{x m:Str}{apos:Pos}{o:Expr}{t:TA}
theorem b7u{Q:VK}{vs:List V}(F:G8 X.prog X.w X.K X.mg X.base CX k f fd ps sp)(hr:M5 k X.A)(hb:a3l X.K fd ps ds)(hd:D8 dvs ds)(hx:a6Y CX X E)
  (I:Inv X pins σ H s) (r:D8 vs us) (h:sp (vs++dvs) H Q E):wpAny (model X.prog X.w) X.A (call (.ref f) us) (EP X pins σ Q) X.xe s:=by
 have r2:D8 (vs++dvs) (us++ds):=r.append hd
 have hl:(us++ds).length=ps.length:=by rw[<-r2.length];exact F.len _ _ _ _ h
 refine wpAny_call (b4t (F.run X.A X.stack s H ⟨us,[]⟩ (us++ds) (vs++dvs) Q E hr I.env0 (hb s us I.kIn hl) r2 h) fun r s' hq=>?_)
 cases r with
 | error e=>exact hx pins σ H s e s' I hq
 | ok fl=>
  cases fl with
  | ret u=>exact I.after hq
  | next=>exact False.elim hq
  | brk=>exact False.elim hq
  | cont=>exact False.elim hq
theorem c0b(F:G8 X.prog X.w X.K X.mg X.base CX k f fd ps sp)(hr:M5 k X.A)(hg:Gl X x)(hm:X.mg x=some (.ref f))(hk:P8 X.K (.ref f)=true)(hb:a3l X.K fd ps ds)(hd:D8 dvs ds)(hx:a6Y CX X E)
  (ha:PA X (e::es) t) (hdb:(x == ("__debug__" : Str))=false:=by decide) (he:g7 (e::es) X.env=(false,eval e X.env)::g7 es X.env:=by rfl) (hpl:(U8 pos (g7 es X.env)).any (·.1)=false:=by rfl) :
  PE X (.Call (.Name x p) (e::es) [] pos) (u9 sp dvs E t):=by
 intro pins s σ H Q I h
 refine a4t (b0J I hg hm ?_ hdb)
 refine a6d (h₀:=X.base) I.ok.mod.kin hk (thn (ha pos pins s σ H _ I h) fun us s1 ⟨vs,H1,I1,r,q⟩=>⟨I1.kIn,?_⟩) he hpl
 exact b7u F hr hb hd hx I1 r q
theorem b9U{pl:Sem Bool}(he:PE X o ta)(c:Cls X.K C)(hm:c3U X.K C m f)(F:G8 X.prog X.w X.K X.mg X.base CX k f fd ps sp)(hr:M5 k X.A)(hb:a3l X.K fd ps ds)(hd:D8 dvs ds)(hx:a6Y CX X E)(ha:PA X (e::es) t)
  (hst:g7 (e::es) X.env=(false,eval e X.env)::g7 es X.env:=by rfl) (hpl:(U8 pos (g7 es X.env)).any (·.1)=false:=by rfl)
  (ht:eval (.Call (.Attribute o m apos) (e::es) [] pos) X.env=(do
   let ov <-eval o X.env
   b6C apos.atName
   let(f,first) <-a3t [ov] (b6D ov m pl)
   callWith pos f first (U8 pos (g7 (e::es) X.env)) (a9e pos (a1Y [] X.env))):=by rfl) :
  PE X (.Call (.Attribute o m apos) (e::es) [] pos) (b1R C m sp dvs E ta t):=by
 intro pins s σ H Q I h
 refine PySem.W.methodCall_KW (pl:=pl) (thn (he pins s σ H _ I h) fun u s1 ⟨x,H1,I1,rx,a,dx,fs,ex,ea,l,q⟩=>?_) ht
 subst ex
 obtain rfl:u=Value.ref a:=rx
 refine b4d I1 ea c hm l ?_
 refine a6d (first:=[.ref a]) (h₀:=X.base) I.ok.mod.kin hm.kp (thn (ha pos pins s1 σ H1 _ I1 q) fun us s2 ⟨vs,H2,I2,r,q2⟩=>⟨I2.kIn,?_⟩) hst hpl
 exact b7u (us:=.ref a::us) (vs:=.ref a::vs) F hr hb hd hx I2 (.cons rfl r) q2
structure Mk(K:Fg)(C f:Addr):Prop where
 makes:a3p K C=true
 init:C0 K (.ref C) "__init__" = some (some (.ref f))
 fn:a7c K (.ref f)=true
 kp:P8 K (.ref C)=true
theorem b7t{Q:VK}{vs:List V}(M:Mk X.K C f)(F:G8 X.prog X.w X.K X.mg X.base CX k f fd ps sp)(hr:M5 (k+1) X.A)(hb:a3l X.K fd ps ds)(hd:D8 dvs ds)
  (hx:a6Y CX X E) (I:Inv X pins σ H s) (r:D8 vs us)
  (h:∀x dx,H x=none->H dx=none->dx≠x->sp (.ref x::(vs++dvs)) (upd (upd H dx (.own x)) x (.ins C dx [])) (fun v H2=>v=.non/\Q (.ref x) H2) E) :
  wpAny (model X.prog X.w) X.A (call (.ref C) us) (EP X pins σ Q) X.xe s:=by
 have hq:=h (s.heap.objs.size+1) s.heap.objs.size (I.hok.fresh (b8V _)) (I.hok.fresh (d9 _)) (u7 (c4c _))
 have I2:=Inv.made (C:=C) I
 have r2:D8 (V.ref (s.heap.objs.size+1)::(vs++dvs)) (Value.ref (s.heap.objs.size+1)::(us++ds)):=.cons rfl (r.append hd)
 have hl:(Value.ref (s.heap.objs.size+1)::us++ds).length=ps.length:=by
  have e:=r2.length
  rw[F.len _ _ _ _ hq]at e
  exact e.symm
 refine wpAny_call (b8l (f:=f) I.kIn M.makes M.init (beq_iff_eq.mp M.fn) (b4t (F.run _ X.stack _ _ ⟨Value.ref (s.heap.objs.size+1)::us,[]⟩ (Value.ref (s.heap.objs.size+1)::(us++ds)) _ _ E (hr.make C us [])
  (I2.env0.make C us []) (hb _ (Value.ref (s.heap.objs.size+1)::us) I2.kIn hl) r2 hq) fun r s' hq'=>?_))
 cases r with
 | error e=>exact hx pins σ _ _ e s' I2 hq'
 | ok fl=>
  cases fl with
  | ret u=>
   obtain⟨v,H',I3,rv,ev,q3⟩:=I2.after hq'
   subst ev
   exact⟨rv,⟨V.ref (s.heap.objs.size+1),H',I3,rfl,q3⟩⟩
  | next=>exact False.elim hq'
  | brk=>exact False.elim hq'
  | cont=>exact False.elim hq'
theorem b9V(M:Mk X.K C f)(F:G8 X.prog X.w X.K X.mg X.base CX k f fd ps sp)(hr:M5 (k+1) X.A)(hg:Gl X x)(hm:X.mg x=some (.ref C))(hb:a3l X.K fd ps ds)(hd:D8 dvs ds)(hx:a6Y CX X E)
  (ha:PA X (e::es) t) (hdb:(x == ("__debug__" : Str))=false:=by decide) (he:g7 (e::es) X.env=(false,eval e X.env)::g7 es X.env:=by rfl) (hpl:(U8 pos (g7 es X.env)).any (·.1)=false:=by rfl) :
  PE X (.Call (.Name x p) (e::es) [] pos) (a8b C sp dvs E t):=by
 intro pins s σ H Q I h
 refine a4t (b0J I hg hm ?_ hdb)
 refine a6d (h₀:=X.base) I.ok.mod.kin M.kp (thn (ha pos pins s σ H _ I h) fun us s1 ⟨vs,H1,I1,r,q⟩=>⟨I1.kIn,?_⟩) he hpl
 exact b7t M F hr hb hd hx I1 r q
end
section
variable {k:Nat}{fd:W2}{ks:List Str}{sp:Sp}{E:XK}{x m:Str}{apos kpos:Pos}{o:Expr}{kws:List a6l}{t tk:TA}{nm:Option Str}
structure c6b(K:Fg)(fd:W2)(ps ks:List Str)(g:List Value->List Value->List Value)(gV:List V->List V->List V):Prop where
 to:∀(s:g9) (us ws:List Value),K.In s.heap->(g us ws).length=ps.length->b6F s fd ⟨us,ks.zip ws⟩ (ps.zip (g us ws))
 rel:∀ {vs:List V} {us:List Value} {zs:List V} {ws:List Value},D8 vs us->D8 zs ws->D8 (gV vs zs) (g us ws)
variable {g:List Value->List Value->List Value}{gV:List V->List V->List V}
end
structure v6(N P:List Str)(sc:Scope):Prop where
 kind:sc.kind=.function
 co:sc.isCoroutine=false
 gen:sc.isGenerator=false
 nd:N.Nodup
 pre:N.take P.length=P
 par:∀x∈P,sc.names.lookup x=some .local\/sc.names.lookup x=some .cell
 nofree:∀y∈sc.names,y.2≠.free
theorem a9Y{kindOf:Str->Option a4u}{x:Str}:∀ {binds:List (Str×Value)} {m:Str->Option Value},(∀v,(x,v)∉binds)->bindL kindOf binds m x=m x
 | [],_,_=>rfl
 | (n,v)::r,m,h=>by
  unfold bindL
  rw[a9Y fun w hw=>h w (C3 _ hw)]
  split
  ·have:x≠n:=by rintro rfl;exact h v D0
   simp[this]
  ·rfl
theorem b0a{kindOf:Str->Option a4u}{x:Str}:∀ {binds:List (Str×Value)} {m:Str->Option Value},(∀v,(x,v)∉binds)->bindC kindOf binds m x=m x
 | [],_,_=>rfl
 | (n,v)::r,m,h=>by
  unfold bindC
  rw[b0a fun w hw=>h w (C3 _ hw)]
  split
  ·rfl
  ·have:x≠n:=by rintro rfl;exact h v D0
   simp[this]
theorem a9Z{kindOf:Str->Option a4u}{x:Str}{v:Value}:∀ {P:List Str} {vs:List Value} {i:Nat} {m:Str->Option Value},P.Nodup->P[i]? = some x->vs[i]? = some v->kindOf x=some .local ->
  bindL kindOf (P.zip vs) m x=some v
 | [],_,_,_,_,h,_,_=>by simp at h
 | _::_,[],_,_,_,_,h,_=>by simp at h
 | p::P,w::vs,0,m,nd,h1,h2,hk=>by
  simp at h1 h2;subst h1;subst h2
  show bindL kindOf ((p,w)::P.zip vs) m p=_
  unfold bindL
  rw[a9Y fun v hv=>(L3.mp nd).1 (b0d hv).1,if_pos hk]
  simp
 | p::P,w::vs,i+1,m,nd,h1,h2,hk=>by
  show bindL kindOf ((p,w)::P.zip vs) m x=_
  unfold bindL
  exact a9Z (i:=i) (L3.mp nd).2 (by simpa using h1) (by simpa using h2) hk
theorem b0b{kindOf:Str->Option a4u}{x:Str}{v:Value}:∀ {P:List Str} {vs:List Value} {i:Nat} {m:Str->Option Value},P.Nodup->P[i]? = some x->vs[i]? = some v->kindOf x≠some .local ->
  bindC kindOf (P.zip vs) m x=some v
 | [],_,_,_,_,h,_,_=>by simp at h
 | _::_,[],_,_,_,_,h,_=>by simp at h
 | p::P,w::vs,0,m,nd,h1,h2,hk=>by
  simp at h1 h2;subst h1;subst h2
  show bindC kindOf ((p,w)::P.zip vs) m p=_
  unfold bindC
  rw[b0a fun v hv=>(L3.mp nd).1 (b0d hv).1,if_neg hk]
  simp
 | p::P,w::vs,i+1,m,nd,h1,h2,hk=>by
  show bindC kindOf ((p,w)::P.zip vs) m x=_
  unfold bindC
  exact b0b (i:=i) (L3.mp nd).2 (by simpa using h1) (by simpa using h2) hk
def a5w(N:List Str)(vs:List V):St:=vs.map some++u0 (N.length - vs.length) none
def b2H(CX:CXT)(P:w4)(w:World)(K:Fg)(mg:Str->Option Value)(base:Heap)(N:List Str)(qual:Str)(scope:Scope)(f:Addr)(cd:Value)(A:F8)(outer:List Env)(s:g9)(H:Hp)(E:XK):Cx where
 prog:=P
 w:=w
 K:=K
 mg:=mg
 base:=base
 A:=A.deeper (b1B qual scope s.heap.objs.size f cd)
 N:=N
 s₀:=s
 H₀:=H
 env:=b1B qual scope s.heap.objs.size f cd
 outer:=outer
 stack:=b1B qual scope s.heap.objs.size f cd::outer
 ex:=[]
 calm:=true
 fn:=fun _=>true
 pn:=[]
 xe:=fun e s'=>wpAny (model P w) (A.deeper (b1B qual scope s.heap.objs.size f cd)) (leaving (b1B qual scope s.heap.objs.size f cd) e) (fun _ s''=>CX outer H s E e s'') (fun e' s''=>CX outer H s E e' s'') s'
theorem b2K{sc:Scope}{n:Nat}{x:Str}(h:sc.names.lookup x=some .cell):∃c,(cellsFrom n sc.names []).lookup x=some c:=by
 have q:=b2V sc.names n [] (.inl h)
 exact T5.mp q
theorem b5T{P:w4}{K:Fg}{mg:Str->Option Value}{base:Heap}{N:List Str}{qual:Str}{scope:Scope}{cd:Value}{A:F8}{outer:List Env}{s1:g9}{E:XK}{vs:List V}
  (S:v6 N ps scope) (hd:A.handled=none) (e0:b4r P w K mg base A outer s H) (hl:vs.length=ps.length) (r:D8 vs us)
  (x:InCallC s s.heap.objs.size (bindL (b1B qual scope s.heap.objs.size f cd).kindOf (ps.zip us) fun _=>none) (cellsFrom (s.heap.objs.size+1) scope.names []) (bindC (b1B qual scope s.heap.objs.size f cd).kindOf (ps.zip us) fun _=>none) s1) :
  Inv (b2H CX P w K mg base N qual scope f cd A outer s H E) [] (a5w N vs) H s1:=by
 have hpl:ps.length<=N.length:=by have:=congrArg a9A S.pre;rw[J8]at this;omega
 obtain⟨h1,tk,rfl,hk⟩:=x.done
 have noA:∀b:Addr,b∉(b2H CX P w K mg base N qual scope f cd A outer s H E).ex:=fun b z=>absurd (show b∈([]:List Addr)from z) (by simp)
 refine⟨⟨e0.mod,S.kind,rfl,rfl,d9 _,fun y z c h1 h2=>?_,fun y hy=>?_,fun y c _ h=>?_,fun _=>hd,Around.frames_deeper e0.frames,.inr ⟨rfl,rfl⟩,fun b z=>absurd z (noA b),e0.bs,e0.bsz,fun b _ _=>noA b,fun b z=>absurd z (noA b),e0.funs,e0.frf⟩,
  rfl,e0.bare,Un.kept hk,⟨_,x.toInCall.ns,fun i y v h1 h2 h3=>?_⟩,fun y c h=>⟨_,x.cell y c h⟩,e0.hok.fresh (d9 _),fun y c h=>?_,fun p hp=>absurd (show p∈([]:List (Addr×Obj))from hp) (by simp),e0.hok.kept hk,?_⟩
 ·exact name_of_addr x.apart (z8 h1) (z8 h2)
 ·have hy:scope.names.lookup y=some .cell\/scope.names.lookup y=some .free:=hy
  rcases hy with hy | hy
  ·exact b2K hy
  ·exact absurd rfl (S.nofree _ (z8 hy))
 ·exact b6r (x.above y c (z8 h))
 ·have hi:i<vs.length:=by
   unfold a5w at h2
   by_cases hi:i<vs.length
   ·exact hi
   ·rw[F2 (by simpa using hi)]at h2
    rw[F0]at h2
    split at h2 <;> cases h2
  have ha:vs[i]? = some v:=by
   unfold a5w at h2
   rw[v8 (by simpa using hi),b8]at h2
   cases e:vs[i]? with
   | none=>rw[e]at h2;cases h2
   | some a=>rw[e]at h2;cases h2;rfl
  obtain⟨u,hu,rv⟩:=r.get ha
  have hp:ps[i]? = some y:=by
   rw[<-S.pre,List.getElem?_take_of_lt (by omega)];exact h1
  have ndP:ps.Nodup:=by rw[<-S.pre];exact S.nd.sublist (a7L _ _)
  refine⟨u,rv,?_⟩
  rcases S.par y (T6 hp)with k | k
  ·exact .inl ⟨k,a9Z ndP hp hu k⟩
  ·obtain⟨c,e⟩:=b2K (n:=s.heap.objs.size+1) k
   refine .inr ⟨.inl k,c,e,?_⟩
   have q:=x.cell y c e
   rw[b0b ndP hp hu (by show scope.names.lookup y≠_;rw[k];decide)]at q
   exact q
 ·exact e0.hok.fresh (b6r (x.above y c (z8 h)))
 ·unfold a5w
  show _=N.length
  rw[o9,a8,z9]
  omega
theorem c5n{P:w4}{K:Fg}{mg:Str->Option Value}{base:Heap}{k:Nat}{name qual:Str}{params:Arguments}{body:List Stmt}{scope:Scope}{dV kV doc pm cdv ct oc:Value}{an od:Option Addr}
  {osl:Array (Option Value)} {N ps:List Str} {sp:Sp} (lk:K.lookup f=some ⟨oc,od,.func (Y2 name qual params body scope dV kV doc pm an cdv ct),osl⟩) (hcd:a4r K cdv qual=true) (S:v6 N ps scope)
  (len:∀vs H Q E,sp vs H Q E->vs.length=ps.length)
  (hbody:∀(A:F8) (outer:List Env) (s:g9) (H:Hp) (vs:List V) (Q:VK) (E:XK),M5 k (A.deeper (b1B qual scope s.heap.objs.size f cdv))->sp vs H Q E ->
   ∃t,PSs (b2H CX P w K mg base N qual scope f cdv A outer s H E) body t/\t { nx:=fun _ H'=>Q .non H',rt:=Q } (a5w N vs) H) :
  G8 P w K mg base CX (k+1) f (Y2 name qual params body scope dV kV doc pm an cdv ct) ps sp:=by
 refine⟨len,fun A outer s H args us vs Q E hr e0 hb r hsp=>?_⟩
 have hl:=len _ _ _ _ hsp
 have KX:K.In s.heap:=e0.mod.kin.keeps fun b o e=>(e0.bs b o e).1
 have lim:s.heap.NoLimit:=e0.mod.nolimit.keeps fun b o e=>(e0.bs b o e).1
 have hkind:∀y∈ps.zip us,scope.names.lookup y.1=some .local\/(scope.names.lookup y.1=some .cell/\((cellsFrom (s.heap.objs.size+1) scope.names []).lookup y.1).isSome=true):=fun⟨n,v⟩ hy=>by
  rcases S.par n (b0d hy).1 with q | q
  ·exact .inl q
  ·exact .inr ⟨q,b2V _ _ _ (.inl q)⟩
 refine codeAny_call_function hr.depth (KX _ _ lk) rfl S.co S.gen rfl (PySem.W.codeRec_of KX hcd) (hb _ _ _ _ ?_)
 refine wpAny_newFunctionEnv_cells S.kind hkind fun env he s1 x=>?_
 subst he
 refine⟨lim.keeps x.toInCall.keep,codeAny_func ?_⟩
 obtain⟨t,ht,hq⟩:=hbody A outer s H vs Q E (hr.deeper _) hsp
 have I:Inv (b2H CX P w K mg base N qual scope f cdv A outer s H E) [] (a5w N vs) H s1:=b5T S hr.hd e0 hl r x
 refine U6 (ht [] s1 (a5w N vs) H _ I hq) (fun fl s' hs=>?_) fun e s' hs=>hs
 have fin:∀ {σ':St} {H':Hp} {v:V} {u:Value},Inv (b2H CX P w K mg base N qual scope f cdv A outer s H E) [] σ' H' s'->C4 v u->Q v H'->CE outer P w H s Q u s':=
  fun {σ' H' v u} J rv q=>⟨v,H',J.os,J.bare,J.base,J.hok,rv,q⟩
 cases fl with
 | ret u=>
  obtain⟨v,σ',H',J,rv,q⟩:=hs
  exact fin J rv q
 | next=>
  obtain⟨σ',H',J,q⟩:=hs
  exact fin (v:=V.non) (u:=Value.none) J rfl q
 | brk=>
  obtain⟨_,_,_,q⟩:=hs
  exact False.elim q
 | cont=>
  obtain⟨_,_,_,q⟩:=hs
  exact False.elim q
section
variable {x:Str}{t:TA}{id T:String}{r:List V->Hp->VK->Prop}
def tCB(r:List V->Hp->VK->Prop)(t:TA):TE:=fun σ H Q=>t σ H fun vs H1=>r vs H1 Q
theorem b7V(hc:U2 X (.builtin id) r)(hg:Gl X x)(hm:X.mg x=none)(hv:a0f x=some (.builtin id))(ha:PA X (e::es) t)(hn:x ≠ "__name__" := by decide)(hdb:(x == ("__debug__" : Str))=false:=by decide)
  (he:g7 (e::es) X.env=(false,eval e X.env)::g7 es X.env:=by rfl) (hpl:(U8 pos (g7 es X.env)).any (·.1)=false:=by rfl):PE X (.Call (.Name x p) (e::es) [] pos) (tCB r t):=by
 intro pins s σ H Q I h
 refine a4t (a6O I hg hm hv ?_ hn hdb)
 exact PyProof.Rows.callWith_builtin1 (thn (ha pos pins s σ H _ I h) fun us s1 ⟨vs,H1,I1,r1,q1⟩=>hc pins s1 σ H1 vs us Q I1 r1 q1) he hpl
theorem b5A(hc:U2 X (.type T) r)(hg:Gl X x)(hm:X.mg x=none)(hv:a0f x=some (.type T))(ha:PA X (e::es) t)(hn:x ≠ "__name__" := by decide)(hdb:(x == ("__debug__" : Str))=false:=by decide)
  (he:g7 (e::es) X.env=(false,eval e X.env)::g7 es X.env:=by rfl) (hpl:(U8 pos (g7 es X.env)).any (·.1)=false:=by rfl):PE X (.Call (.Name x p) (e::es) [] pos) (tCB r t):=by
 intro pins s σ H Q I h
 refine a4t (a6O I hg hm hv ?_ hn hdb)
 exact V2 (thn (ha pos pins s σ H _ I h) fun us s1 ⟨vs,H1,I1,r1,q1⟩=>hc pins s1 σ H1 vs us Q I1 r1 q1) he hpl
end
section
variable {κ:Type}[DecidableEq κ]
def U3(kvs:List (κ×V))(k:κ):Option V:=(kvs.find? fun kv=>decide (kv.1=k)).map (·.2)
def a0x(kvs:List (κ×V))(k:κ)(v:V):List (κ×V):=
 if(kvs.any fun kv=>decide (kv.1=k))=true then kvs.map (fun kv=>if kv.1=k then (kv.1,v)else kv)else kvs++[(k,v)]
theorem a3w{p:κ×V}{r:List (κ×V)}{k:κ}(e:p.1=k):U3 (p::r) k=some p.2:=by simp[U3,T4,e]
theorem a2j{p:κ×V}{r:List (κ×V)}{k:κ}(e:¬p.1=k):U3 (p::r) k=U3 r k:=by simp[U3,T4,e]
theorem a2k(k:κ):∀kvs:List (κ×V),(kvs.any fun kv=>decide (kv.1=k))=(U3 kvs k).isSome
 | []=>rfl
 | p::r=>by
  rw[P9]
  by_cases e:p.1=k
  ·simp only[a3w e,c7r e,Bool.true_or,Option.isSome_some]
  ·rw[a2j e,c7q e,c5v];exact a2k k r
theorem a3J(kvs:List (κ×V))(k:κ)(v:V):(a0x kvs k v).length<=kvs.length+1:=by
 unfold a0x
 split
 ·rw[a8];omega
 ·rw[o9,v9,a4s];omega
theorem a3o.isSome_eq{o:Option V}{u:Option Value}(r:a3o o u):o.isSome=u.isSome:=by
 cases o with
 | none=>cases u with
  | none=>rfl
  | some _=>exact(show False from r).elim
 | some _=>cases u with
  | none=>exact(show False from r).elim
  | some _=>rfl
theorem a3o.getD{o:Option V}{u:Option Value}{d:V}{d':Value}(r:a3o o u)(rd:C4 d d'):C4 (o.getD d) (u.getD d'):=by
 cases o with
 | none=>cases u with
  | none=>exact rd
  | some _=>exact(show False from r).elim
 | some _=>cases u with
  | none=>exact(show False from r).elim
  | some _=>exact r
theorem KV.val{kvs:List (κ×V)}{vs:List (κ×Value)}(r:KV kvs vs)(k:κ):a3o (U3 kvs k) (b3c vs k):=by
 unfold KV at r
 induction r with
 | nil=>exact True.intro
 | @cons p q ps qs h t ih=>
  obtain⟨h1,h2⟩:=h
  by_cases e:p.1=k
  ·have e':q.1=k:=h1.symm.trans e
   have b:b3c (q::qs) k=some q.2:=by simp[b3c,T4,e']
   rw[a3w e,b];exact h2
  ·have e':¬q.1=k:=fun z=>e (h1.trans z)
   have b:b3c (q::qs) k=b3c qs k:=by simp[b3c,T4,e']
   rw[a2j e,b];exact ih
theorem KV.any{kvs:List (κ×V)}{vs:List (κ×Value)}(r:KV kvs vs)(k:κ):(kvs.any fun kv=>decide (kv.1=k))=vs.any fun kv=>decide (kv.1=k):=by
 unfold KV at r
 induction r with
 | nil=>rfl
 | cons h t ih=>rw[P9,P9,ih,h.1]
theorem KV.repl{kvs:List (κ×V)}{vs:List (κ×Value)}(r:KV kvs vs)(k:κ)(ry:C4 y u) :
  KV (kvs.map fun kv=>if kv.1=k then (kv.1,y)else kv) (vs.map fun kv=>if kv.1=k then (kv.1,u)else kv):=by
 unfold KV at r ⊢
 induction r with
 | nil=>exact .nil
 | @cons p q ps qs h t ih=>
  rw[F3,F3]
  refine .cons ?_ ih
  obtain⟨h1,h2⟩:=h
  by_cases e:p.1=k
  ·rw[if_pos e,if_pos (h1.symm.trans e)];exact⟨h1,ry⟩
  ·rw[if_neg e,if_neg (fun z=>e (h1.trans z))];exact⟨h1,h2⟩
theorem KV.put{kvs:List (κ×V)}{vs:List (κ×Value)}(r:KV kvs vs)(k:κ)(ry:C4 y u):KV (a0x kvs k y) (stored vs k u):=by
 unfold a0x stored
 rw[r.any k]
 by_cases e:(vs.any fun kv=>decide (kv.1=k))=true
 ·rw[if_pos e,if_pos e];exact r.repl k ry
 ·rw[if_neg e,if_neg e];exact Paired.snoc r ⟨rfl,ry⟩
theorem KV.length{kvs:List (κ×V)}{vs:List (κ×Value)}(r:KV kvs vs):kvs.length=vs.length:=Paired.length r
end
theorem a8D{P:w4}{k:Key}(r:C4 (kV k) u):(L6 P w).is k u=true:=by
 cases k with
 | inl i=>obtain⟨t,e⟩:=(show ∃t,u=Value.int i t from r);subst e;exact b2v P w i t
 | inr x=>obtain⟨t,e⟩:=(show ∃t,u=Value.str x t from r);subst e;exact b2u P w x t
theorem a9T{P:w4}:∀ {ks:List Key} {us:List Value},D8 (ks.map kV) us->ItemsAre (L6 P w) ks us
 | [],_,r=>by rw[a7M]at r;cases r;exact .nil
 | k::ks,_,r=>by
  rw[F3]at r
  cases r with
  | cons h t=>exact .cons (a8D h) (a9T t)
abbrev KT(H:Hp):List (List Key×V)->List (List Key×Addr×Value)->Prop:=Paired fun p q=>p.1=q.1/\H q.2.1=some (.tup (p.1.map kV))/\C4 p.2 q.2.2
theorem KT.val{kvs:List (List Key×V)}{xs:List (List Key×Addr×Value)}(r:KT H kvs xs)(k:List Key):a3o (U3 kvs k) ((atKey xs k).map (·.2)):=by
 induction r with
 | nil=>exact True.intro
 | @cons p q ps qs h t ih=>
  obtain⟨h1,_,h2⟩:=h
  by_cases e:p.1=k
  ·have e':q.1=k:=h1.symm.trans e
   have b:atKey (q::qs) k=some q.2:=by simp[atKey,T4,e']
   rw[a3w e,b];exact h2
  ·have e':¬q.1=k:=fun z=>e (h1.trans z)
   have b:atKey (q::qs) k=atKey qs k:=by simp[atKey,T4,e']
   rw[a2j e,b];exact ih
theorem KT.repl{kvs:List (List Key×V)}{xs:List (List Key×Addr×Value)}(r:KT H kvs xs)(k:List Key)(ry:C4 y u) :
  KT H (kvs.map fun kv=>if kv.1=k then (kv.1,y)else kv) (xs.map (putAt k u)):=by
 induction r with
 | nil=>exact .nil
 | @cons p q ps qs h t ih=>
  rw[F3,F3]
  refine .cons ?_ ih
  obtain⟨h1,h2,h3⟩:=h
  unfold putAt
  by_cases e:p.1=k
  ·rw[if_pos e,if_pos (h1.symm.trans e)];exact⟨h1,h2,ry⟩
  ·rw[if_neg e,if_neg (fun z=>e (h1.trans z))];exact⟨h1,h2,h3⟩
theorem KT.put{kvs:List (List Key×V)}{xs:List (List Key×Addr×Value)}(r:KT H kvs xs)(k:List Key)(hb:H b=some (.tup (k.map kV)))(ry:C4 y u) :
  KT H (a0x kvs k y) (storedH xs k b u):=by
 have e:(kvs.any fun kv=>decide (kv.1=k))=(atKey xs k).isSome:=by
  rw[a2k,(r.val k).isSome_eq,a7q]
 unfold a0x storedH
 rw[e]
 by_cases q:(atKey xs k).isSome=true
 ·rw[if_pos q,if_pos q];exact r.repl k ry
 ·rw[if_neg q,if_neg q];exact Paired.snoc r ⟨rfl,hb,ry⟩
theorem KT.keeps{kvs:List (List Key×V)}{xs:List (List Key×Addr×Value)}(r:KT H kvs xs)(ht:∀b ys,H b=some (.tup ys)->H' b=some (.tup ys)):KT H' kvs xs:=
 Paired.mapP r fun _ _ z=>⟨z.1,ht _ _ z.2.1,z.2.2⟩
section
variable {P:w4}
theorem c1z{u:HO}(ok:HOk P w H h)(e:Rd H a u):R4 P w H h a u:=e.ok ok
theorem a8K(ok:HOk P w H h)(e:Rd H a (.dK kvs)):kvs.length<=l7/\(a == T0)=false/\∃vs,KV kvs vs/\h.DictOf (L6 P w) a vs:=
 show R4 P w H h a (.dK kvs)from c1z ok e
theorem a8L(ok:HOk P w H h)(e:H a=some (.dK kvs)):kvs.length<=l7/\(a == T0)=false/\∃vs,KV kvs vs/\h.DictOf (L6 P w) a vs:=a8K ok (.inl e)
theorem a6S{ks:List Key}(ok:HOk P w H h)(e:H a=some (.tup (ks.map kV))):(b1A (L6 P w)).is h ks a:=by
 obtain⟨_,its,r,o,h1,h2,n,h3⟩:=(show R4 P w H h a (.tup (ks.map kV))from ok a _ e)
 exact⟨o,its.toArray,n,h1,h2,h3,by simpa using a9T r⟩
theorem a8J{kvs:List (List Key×V)}(ok:HOk P w H h)(e:Rd H a (.dT kvs)):kvs.length<=l7/\(a == T0)=false /\
  ∃xs,KT H kvs xs/\h.DictOfH (b1A (L6 P w)) a xs:=by
 obtain⟨z,y,xs,r,o,es,ep,h1,h2,h3,h4,h5⟩:=(show R4 P w H h a (.dT kvs)from c1z ok e)
 refine⟨z,y,xs,r,o,es,ep,h1,h2,h3,h4,fun x hx=>?_,h5⟩
 have all:∀ {l:List (List Key×V)} {m:List (List Key×Addr×Value)},KT H l m->∀x∈m,(b1A (L6 P w)).is h x.1 x.2.1:=by
  intro l m q
  induction q with
  | nil=>intro x hx;exact nomatch hx
  | @cons p q ps qs hq t ih=>
   intro x hx
   rcases c8.mp hx with e | hx
   ·subst e
    exact a6S ok (by rw[<-hq.1];exact hq.2.1)
   ·exact ih x hx
 exact all r x hx
theorem b8x{kvs:List (List Key×V)}(ok:HOk P w H h)(e:H a=some (.dT kvs)):kvs.length<=l7/\(a == T0)=false /\
  ∃xs,KT H kvs xs/\h.DictOfH (b1A (L6 P w)) a xs:=a8J ok (.inl e)
end
def a1a(H:Hp)(a:Addr)(y:V)(r:Option V):Prop:=
 (∃kvs k,Rd H a (.dK kvs)/\y=kV k/\r=U3 kvs k)\/∃kvs k b,Rd H a (.dT kvs)/\y=.ref b/\H b=some (.tup (k.map kV))/\r=U3 kvs k
def a5i(H:Hp)(a:Addr)(y v:V)(H':Hp):Prop:=
 (∃kvs k,H a=some (.dK kvs)/\y=kV k/\kvs.length<l7/\H'=upd H a (.dK (a0x kvs k v))) \/
 ∃kvs k b,H a=some (.dT kvs)/\y=.ref b/\H b=some (.tup (k.map kV))/\kvs.length<l7/\H'=upd H a (.dT (a0x kvs k v))
theorem a1a.k{k:Key}(e:H a=some (.dK kvs)):a1a H a (kV k) (U3 kvs k):=.inl ⟨kvs,k,.inl e,rfl,rfl⟩
theorem a5i.k{k:Key}(e:H a=some (.dK kvs))(hl:kvs.length<l7):a5i H a (kV k) v (upd H a (.dK (a0x kvs k v))):=.inl ⟨kvs,k,e,rfl,hl,rfl⟩
theorem a5i.t{kvs:List (List Key×V)}{k:List Key}(e:H a=some (.dT kvs))(eb:H b=some (.tup (k.map kV)))(hl:kvs.length<l7) :
  a5i H a (.ref b) v (upd H a (.dT (a0x kvs k v))):=.inr ⟨kvs,k,b,e,rfl,eb,hl,rfl⟩
section
variable {r:Value}{o:Option V}{A:F8}{E:Value->g9->Prop}
theorem Inv.big(I:Inv X pins σ H s):T0<s.heap.objs.size:=by
 have h:t5<s.heap.objs.size:=(I.mod.glob.keeps I.bk).lt
 exact b6q (by decide) h
theorem b5Y(hu:A.units+1<cLine)(I:Inv X pins σ H s)(g:a1a H a y (some v))(ry:C4 y u)(h:∀w' s',Inv X pins σ H s'->C4 v w'->Q w' s') :
  wpAny (model X.prog X.w) A (b0f (.ref a) u) Q E s:=by
 rcases g with ⟨kvs,k,e,ey,l⟩ | ⟨kvs,k,b,e,ey,eb,l⟩
 ·subst ey
  obtain⟨z,hd,vs,rel,dd⟩:=a8K I.hok e
  obtain⟨w',hw,rw'⟩:=a3o.some_of (v:=v) (o:=b3c vs k) (by rw[l];exact rel.val k)
  exact wpAny_getItem_of (a8D ry) dd.mapOf hw (h w' _ (I.tok _) rw')
 ·subst ey
  cases (show u=Value.ref b from ry)
  obtain⟨z,hd,xs,rel,dd⟩:=a8J I.hok e
  obtain⟨w',hw,rw'⟩:=a3o.some_of (v:=v) (o:=(atKey xs k).map (·.2)) (by rw[l];exact rel.val k)
  obtain⟨p,hp,hp2⟩:=l6.mp hw
  refine wpAny_getItem_heap (a1q hu) (a6S I.hok eb) dd hp ?_
  rw[hp2]
  exact h w' _ (I.tok _) rw'
theorem c5X(hu:A.units+1<cLine)(I:Inv X pins σ H s)(g:a1a H a y o)(ry:C4 y u)(h:∀s',Inv X pins σ H s'->Q (.bool o.isSome) s') :
  wpAny (model X.prog X.w) A (p9 .In u (.ref a)) Q E s:=by
 rcases g with ⟨kvs,k,e,ey,l⟩ | ⟨kvs,k,b,e,ey,eb,l⟩
 ·subst ey
  obtain⟨z,hd,vs,rel,dd⟩:=a8K I.hok e
  refine wpAny_in_of (a8D ry) hd dd.mapOf ?_
  rw[<-(rel.val k).isSome_eq,<-l]
  exact h _ (I.tok _)
 ·subst ey
  cases (show u=Value.ref b from ry)
  obtain⟨z,hd,xs,rel,dd⟩:=a8J I.hok e
  refine wpAny_in_heap (a1q hu) (a6S I.hok eb) hd dd ?_
  have q:=(rel.val k).isSome_eq
  rw[a7q]at q
  rw[<-q,<-l]
  exact h _ (I.tok _)
theorem c0V(hu:A.units+1<cLine)(I:Inv X pins σ H s)(g:a1a H a y o)(ry:C4 y u)(h:∀s',Inv X pins σ H s'->Q (.bool (!o.isSome)) s') :
  wpAny (model X.prog X.w) A (p9 .NotIn u (.ref a)) Q E s:=by
 rcases g with ⟨kvs,k,e,ey,l⟩ | ⟨kvs,k,b,e,ey,eb,l⟩
 ·subst ey
  obtain⟨z,hd,vs,rel,dd⟩:=a8K I.hok e
  refine wpAny_notIn_of (a8D ry) hd dd.mapOf ?_
  rw[<-(rel.val k).isSome_eq,<-l]
  exact h _ (I.tok _)
 ·subst ey
  cases (show u=Value.ref b from ry)
  obtain⟨z,hd,xs,rel,dd⟩:=a8J I.hok e
  refine wpAny_notIn_heap (a1q hu) (a6S I.hok eb) hd dd ?_
  have q:=(rel.val k).isSome_eq
  rw[a7q]at q
  rw[<-q,<-l]
  exact h _ (I.tok _)
theorem b0T{ob:HO}(I:Inv X pins σ H s)(mu:Mut (H a))(hs:Heap.SameBut a s.heap h')(he:∃q,h'.get? a=some q)(new:R4 X.prog X.w (upd H a ob) h' a ob) :
  Inv X pins σ (upd H a ob) { s with heap:=h',toks:=t' }:=
 I.write (x:=a) (e:=a) mu (.inl rfl) (fun b q hb z=>(hs.2 b hb).trans z) he new
theorem b8z{P:w4}{vs:List (Key×Value)}(z:kvs.length<=l7)(hd:(a == T0)=false)(rel:KV kvs vs)(dd:h'.DictOf (L6 P w) a vs) :
  R4 P w H' h' a (.dK kvs):=⟨z,hd,vs,rel,dd⟩
theorem b5X{Q:Unit->g9->Prop}(hu:A.units+1<cLine)(I:Inv X pins σ H s)(g:a5i H a y v H')(ry:C4 y u)(rv:C4 v r)(h:∀s',Inv X pins σ H' s'->Q () s') :
  wpAny (model X.prog X.w) A (c1P (.ref a) u r) Q E s:=by
 rcases g with ⟨kvs,k,e,ey,l,eH⟩ | ⟨kvs,k,b,e,ey,eb,l,eH⟩
 ·subst ey eH
  obtain⟨z,hd,vs,rel,dd⟩:=a8L I.hok e
  have hz:vs.length<=l7:=by rw[<-rel.length];exact z
  have hl:(a0x kvs k v).length<=l7:=by have:=a3J kvs k v;omega
  refine wpAny_setItem_pairs (hsz:=hz) (a8D ry) dd fun h' dd' hs=>h _ ?_
  have he:∃q,h'.get? a=some q:=let⟨q,_,_,hq,_⟩:=dd'; ⟨q,hq⟩
  exact b0T I (by rw[e];exact True.intro) hs he (b8z hl hd (rel.put k rv) dd')
 ·subst ey eH
  cases (show u=Value.ref b from ry)
  obtain⟨z,hd,xs,rel,dd⟩:=b8x I.hok e
  have hz:xs.length<=l7:=by rw[<-Paired.length rel];exact z
  have hl:(a0x kvs k v).length<=l7:=by have:=a3J kvs k v;omega
  refine wpAny_setItem_heap (hsz:=hz) (a1q hu) (a6S I.hok eb) dd fun h' dd' hs=>h _ ?_
  obtain⟨q,es,ep,hq,h2,h3,h4,_,h5⟩:=dd'
  refine b0T I (by rw[e];exact True.intro) hs ⟨q,hq⟩ ⟨hl,hd,_,(rel.put k eb rv).keeps fun c ys ec=>?_,q,es,ep,hq,h2,h3,h4,h5⟩
  rw[c9 (G0 ec e (fun z=>nomatch z))]
  exact ec
end
section
variable {k:Key}{A:F8}{E:Value->g9->Prop}
end
def c3T(i:Expr):Prop:=∀ov iv,b6B i false ov iv=operate [ov,iv] (b0f ov iv)
theorem b9l{prog:w4}{A:F8}{E:Value->g9->Prop}{env:Env}{value slice:Expr}{T id:String}
  (hl:typeLookup (.type T) "__getitem__" = pure (some (.builtin id))) (hs:c3T slice)
  (h:wpAny (model prog w) A (eval value env) (fun o s₁=>wpAny (model prog w) A (eval slice env) (fun i s₂=>s₂.TypeIs o T/\wpAny (model prog w) A (b0f o i) Q E s₂) E s₁) E s) :
  wpAny (model prog w) A (eval (.Subscript value slice pos) env) Q E s:=by
 refine Subscript_ (U6 h (fun o s₁ h₁=>U6 h₁ (fun i s₂ h₂=>?_) fun _ _ x=>x) fun _ _ x=>x)
 obtain⟨hT,h₂⟩:=h₂
 unfold c1O
 refine c5 ?_
 rw[getitemInPython_of_ne hT.not_modules]
 refine c5 (wpAny_specialOf hT hl ?_)
 have fin:wpAny (model prog w) A (b6B slice false o i) (fun r s₃=>wpAny (model prog w) A (letTemporaryGo value o r >>= fun _=>pure r) Q E s₃) E s₂:=by
  rw[hs o i]
  exact wpAny_operating (U6 h₂ (fun r s₃ h₃=>c5 (wpAny_letTemporaryGo (o0 h₃))) fun _ _ x=>x)
 first
  | exact o0 (c5 fin)
  | exact c5 (o0 (c5 fin))
  | exact c5 fin
theorem b2F{o:Option V}(I:Inv X pins σ H s)(g:a1a H a y o):s.TypeIs (.ref a) "dict" := by
 rcases g with ⟨kvs,k,e,_,_⟩ | ⟨kvs,k,b,e,_,_,_⟩
 ·obtain⟨_,_,vs,_,dd⟩:=a8K I.hok e
  exact dd.typeIs
 ·obtain⟨_,_,xs,_,dd⟩:=a8J I.hok e
  exact dd.typeIs
def a5u(td ty:TE):TE:=fun σ H Q=>td σ H fun x H1=>ty σ H1 fun y H2=>∃a v,x=.ref a/\a1a H2 a y (some v)/\Q v H2
def a8c(ty td:TE):TE:=fun σ H Q=>ty σ H fun y H1=>td σ H1 fun x H2=>∃a o,x=.ref a/\a1a H2 a y o/\Q (.bl o.isSome) H2
def a1h(ty td:TE):TE:=fun σ H Q=>ty σ H fun y H1=>td σ H1 fun x H2=>∃a o,x=.ref a/\a1a H2 a y o/\Q (.bl (!o.isSome)) H2
def a1c(td ty tv:TE):TS:=fun D σ H=>tv σ H fun v H1=>td σ H1 fun x H2=>ty σ H2 fun y H3=>∃a H4,x=.ref a/\a5i H3 a y v H4/\D.nx σ H4
section
variable {o i value:Expr}{tpos:Pos}{td ty tv:TE}
theorem b9Y(hu:X.A.units+1<cLine)(ho:PE X o td)(hi:PE X i ty)(hs:c3T i):PE X (.Subscript o i pos) (a5u td ty):=by
 intro pins s σ H Q I h
 refine b9l PySem.F.slot_dict_getitem.lookup hs (thn (ho pins s σ H _ I h) fun u s1 ⟨x,H1,I1,rx,q1⟩=>thn (hi pins s1 σ H1 _ I1 q1) fun iv s2 ⟨y,H2,I2,ry,a,v,ex,g,q2⟩=>?_)
 subst ex
 obtain rfl:u=Value.ref a:=rx
 exact⟨b2F I2 g,b5Y hu I2 g ry fun w' s3 I3 rw'=>⟨v,H2,I3,rw',q2⟩⟩
theorem b7W(hu:X.A.units+1<cLine)(hi:PE X i ty)(ho:PE X o td):PC X .In i o (a8c ty td):=by
 intro pins s σ H Q I h
 refine thn (hi pins s σ H _ I h) fun iv s1 ⟨y,H1,I1,ry,q1⟩=>thn (ho pins s1 σ H1 _ I1 q1) fun u s2 ⟨x,H2,I2,rx,a,ov,ex,g,q2⟩=>?_
 subst ex
 obtain rfl:u=Value.ref a:=rx
 exact c5X hu I2 g ry fun s3 I3=>⟨.bl ov.isSome,H2,I3,rfl,q2⟩
theorem b5B(hu:X.A.units+1<cLine)(hi:PE X i ty)(ho:PE X o td):PC X .NotIn i o (a1h ty td):=by
 intro pins s σ H Q I h
 refine thn (hi pins s σ H _ I h) fun iv s1 ⟨y,H1,I1,ry,q1⟩=>thn (ho pins s1 σ H1 _ I1 q1) fun u s2 ⟨x,H2,I2,rx,a,ov,ex,g,q2⟩=>?_
 subst ex
 obtain rfl:u=Value.ref a:=rx
 exact c0V hu I2 g ry fun s3 I3=>⟨.bl (!ov.isSome),H2,I3,rfl,q2⟩
theorem b9M(hu:X.A.units+1<cLine)(ho:PE X o td)(hi:PE X i ty)(hv:PE X value tv)(hs:a1r value (some (.Subscript o i pos')) pos.line X.env=pure false) :
  PS X (.Assign [.Subscript o i pos'] value pos) (a1c td ty tv):=by
 intro pins s σ H D I h
 refine wpAny_Assign_Subscript (thn (hv pins s σ H _ I h) fun r s1 ⟨v,H1,I1,rv,q1⟩=>thn (ho pins s1 σ H1 _ I1 q1) fun u s2 ⟨x,H2,I2,rx,q2⟩=>thn (hi pins s2 σ H2 _ I2 q2) fun iv s3 ⟨y,H3,I3,ry,a,H4,ex,g,q3⟩=>?_) hs
 subst ex
 obtain rfl:u=Value.ref a:=rx
 exact b5X hu I3 g ry rv fun s4 I4=>⟨σ,H4,I4,q3⟩
end
theorem b2E{P:w4}(h:Heap)(hb:T0<h.objs.size):R4 P w H (h.push { cls:=.type "dict",data:=.dict #[] }) h.objs.size (.dK []):=
 ⟨L5 _,beq_eq_false_iff_ne.mpr (Ne.symm (u7 hb)),[],.nil,Heap.DictOf.new h⟩
theorem b8y{P:w4}(h:Heap)(hb:T0<h.objs.size):R4 P w H (h.push { cls:=.type "dict",data:=.dict #[] }) h.objs.size (.dT []):=
 ⟨L5 _,beq_eq_false_iff_ne.mpr (Ne.symm (u7 hb)),[],.nil,_,#[],0,t9 _ rfl,⟨rfl,rfl,rfl⟩,rfl,rfl,a5l⟩
def a2C:TE:=fun _ H Q=>∀p,H p=none->Q (.ref p) (upd H p (.dK []))
def b3m:TE:=fun _ H Q=>∀p,H p=none->Q (.ref p) (upd H p (.dT []))
section
theorem b7R:PE X (.Dict [] [] pos) a2C:=fun pins s σ H Q I h=>
 wpAny_Dict_empty ⟨.ref s.heap.objs.size,_,I.laid (a:=s.heap.objs.size) (o:=.dK []) (t':=s.toks) (fun _ _ q=>i9 _ q) (d9 _) (b2E s.heap I.big),rfl,h _ (I.hok.fresh (d9 _))⟩
theorem b7Q:PE X (.Dict [] [] pos) b3m:=fun pins s σ H Q I h=>
 wpAny_Dict_empty ⟨.ref s.heap.objs.size,_,I.laid (a:=s.heap.objs.size) (o:=.dT []) (t':=s.toks) (fun _ _ q=>i9 _ q) (d9 _) (b8y s.heap I.big),rfl,h _ (I.hok.fresh (d9 _))⟩
end
def b3l:List (TE×TE)->St->Hp->(List (V×V)->Hp->Prop)->Prop
 | [],_,H,Q=>Q [] H
 | (tk,tv)::r,σ,H,Q=>tk σ H fun x H1=>tv σ H1 fun y H2=>b3l r σ H2 fun ps H3=>Q ((x,y)::ps) H3
abbrev VV:List (V×V)->List (Value×Value)->Prop:=Paired fun p q=>C4 p.1 q.1/\C4 p.2 q.2
def PPs(X:Cx)(pos:Pos)(keys:List (Option Expr))(values:List Expr)(trs:List (TE×TE)):Prop:=
 ∀(pins:List (Addr×Obj)) (s:g9) (σ:St) (H:Hp) (Q:List (V×V)->Hp->Prop),Inv X pins σ H s->b3l trs σ H Q ->
  wpAny (model X.prog X.w) X.A (evalPairs (pairTrees keys values X.env pos)) (fun vs s'=>∃ps H',Inv X pins σ H' s'/\VV ps vs/\Q ps H') X.xe s
theorem b9O:PPs X pos [] [] []:=fun pins s σ H Q I h=>pairTrees_nil_walk ⟨[],H,I,.nil,h⟩
theorem b7K{k v:Expr}{ks:List (Option Expr)}{vs:List Expr}{tk tv:TE}{trs:List (TE×TE)}(hk:PE X k tk)(hv:PE X v tv)(hr:PPs X pos ks vs trs) :
  PPs X pos (some k::ks) (v::vs) ((tk,tv)::trs):=fun pins s σ H Q I h=>
 pairTrees_cons_walk (thn (hk pins s σ H _ I h) fun u s1 ⟨x,H1,I1,rx,q1⟩=>thn (hv pins s1 σ H1 _ I1 q1) fun w2 s2 ⟨y,H2,I2,ry,q2⟩=>
  thn (hr pins s2 σ H2 _ I2 q2) fun ws s3 ⟨ps,H3,I3,rel,q3⟩=>⟨(x,y)::ps,H3,I3,.cons ⟨rx,ry⟩ rel,q3⟩)
def a5b(kvs more:List (Key×V)):List (Key×V):=more.foldl (fun acc kv=>a0x acc kv.1 kv.2) kvs
theorem KV.merge:∀ {more:List (Key×V)} {rs:List (Key×Value)} {kvs:List (Key×V)} {vs:List (Key×Value)},KV more rs->KV kvs vs->KV (a5b kvs more) (merged vs rs):=by
 intro more rs kvs vs r
 unfold KV at r
 induction r generalizing kvs vs with
 | nil=>intro q;exact q
 | @cons p q ps qs h t ih=>
  intro r0
  have e:KV (a0x kvs p.1 p.2) (stored vs q.1 q.2):=by
   have:=r0.put p.1 h.2
   rw[<-h.1];exact this
  exact ih e
theorem a4A:∀(more kvs:List (Key×V)),(a5b kvs more).length<=kvs.length+more.length
 | [],kvs=>by show kvs.length<=kvs.length+0;omega
 | p::r,kvs=>by
  have h1:=a4A r (a0x kvs p.1 p.2)
  have h2:=a3J kvs p.1 p.2
  show(a5b (a0x kvs p.1 p.2) r).length<=_
  rw[v9];omega
theorem a8U{P:w4}{w:World}:∀ {kvs:List (Key×V)} {ws:List (Value×Value)},VV (kvs.map fun kv=>(kV kv.1,kv.2)) ws->∃rs,Carries (L6 P w) ws rs/\KV kvs rs
 | [],_,r=>by rw[a7M]at r;cases r;exact⟨[],True.intro,.nil⟩
 | p::kvs,_,r=>by
  rw[F3]at r
  cases r with
  | @cons a b as bs h t=>
   obtain⟨rs,c,q⟩:=a8U (P:=P) (w:=w) t
   obtain⟨b1,b2⟩:=b
   exact⟨(p.1,b2)::rs,⟨a8D h.1,rfl,c⟩,.cons ⟨rfl,h.2⟩ q⟩
def b1S(trs:List (TE×TE)):TE:=fun σ H Q=>∀p,H p=none->b3l trs σ (upd H p (.dK [])) fun ps H2=>H2 p=some (.dK [])/\∃kvs:List (Key×V),ps=kvs.map (fun kv=>(kV kv.1,kv.2))/\kvs.length<=15/\Q (.ref p) (upd H2 p (.dK (a5b [] kvs)))
theorem b9X{keys:List (Option Expr)}{values:List Expr}{trs:List (TE×TE)}(h:PPs X pos keys values trs)(hall:keys.all (·.isSome)=true)(hl:keys.length=values.length)(h0:keys≠[])
  (h15:keys.length<=15):PE X (.Dict keys values pos) (b1S trs):=by
 intro pins s σ H Q I q
 have hn:=I.hok.fresh (d9 s.heap.objs.size)
 have I1:=I.laid (a:=s.heap.objs.size) (o:=.dK []) (h':=s.heap.push { cls:=.type "dict",data:=.dict #[] }) (t':=s.toks) (fun _ _ q=>i9 _ q) (d9 _) (b2E s.heap I.big)
 refine wpAny_Dict_walk (knd:=L6 X.prog X.w) hall hl h0 h15 (thn (h pins _ σ _ _ I1 (q _ hn)) fun ws s2 ⟨ps,H2,I2,rel,e,kvs,ep,lk,q2⟩=>?_)
 subst ep
 obtain⟨rs,c,rk⟩:=a8U (P:=X.prog) (w:=X.w) rel
 obtain⟨z,hd,vs0,r0,dd⟩:=a8L I2.hok e
 cases r0
 refine⟨rs,c,dd,fun h' dd' hs=>⟨.ref s.heap.objs.size,_,?_,rfl,q2⟩⟩
 have hz:(a5b [] kvs).length<=l7:=by
  have h1:=a4A kvs []
  rw[a4s]at h1
  rw[sizeLine_eq];omega
 have he:∃q,h'.get? s.heap.objs.size=some q:=let⟨q,_,_,hq,_⟩:=dd'; ⟨q,hq⟩
 exact b0T I2 (by rw[e];exact True.intro) hs he (b8z hz hd (rk.merge .nil) dd')
structure M1(X:Cx)(o:Expr)(m:Str)(apos:Pos)(e:Expr)(cpos:Pos):Prop where
 base:U9 o m X.env (eval o X.env)=eval o X.env
 few:((U8 cpos (g7 [e] X.env)).all (fun x => !x.1)&&(a9e cpos (a1Y [] X.env)).all (fun x=>x.1.isSome)
  && decide (([e]:List Expr).length+([]:List a6l).length+(if([]:List a6l).isEmpty then 0 else 1)<30))=true
 line:(apos.endLine == cpos.line)=true
 trees:U8 cpos (g7 [e] X.env)=[(false,eval e X.env)]
structure M2(X:Cx)(o:Expr)(m:Str)(apos:Pos)(e f:Expr)(cpos:Pos):Prop where
 base:U9 o m X.env (eval o X.env)=eval o X.env
 few:((U8 cpos (g7 [e,f] X.env)).all (fun x => !x.1)&&(a9e cpos (a1Y [] X.env)).all (fun x=>x.1.isSome)
  && decide (([e,f]:List Expr).length+([]:List a6l).length+(if([]:List a6l).isEmpty then 0 else 1)<30))=true
 line:(apos.endLine == cpos.line)=true
 trees:U8 cpos (g7 [e,f] X.env)=[(false,eval e X.env),(false,eval f X.env)]
def IsD(H:Hp)(a:Addr):Prop:=(∃kvs,Rd H a (.dK kvs))\/∃kvs,Rd H a (.dT kvs)
theorem c3D(I:Inv X pins σ H s)(d:IsD H a) :
  s.TypeIs (.ref a) "dict" /\ (∀b,Value.ref a=.ref b->∃ob,s.heap.get? b=some ob/\ob.dict=none)/\(a == T0)=false:=by
 rcases d with ⟨kvs,e⟩ | ⟨kvs,e⟩
 ·obtain⟨_,hd,vs,_,dd⟩:=a8K I.hok e
  refine⟨dd.typeIs,fun b q=>?_,hd⟩
  cases q
  obtain⟨ob,_,_,h1,h2,_⟩:=dd
  exact⟨ob,h1,h2.2.1⟩
 ·obtain⟨_,hd,xs,_,dd⟩:=a8J I.hok e
  refine⟨dd.typeIs,fun b q=>?_,hd⟩
  cases q
  obtain⟨ob,_,_,h1,h2,_⟩:=dd
  exact⟨ob,h1,h2.2.1⟩
section
variable {d:V}{r:Value}{o:Option V}{A:F8}{E:Value->g9->Prop}
theorem c3L(hu:A.units+1<cLine)(I:Inv X pins σ H s)(g:a1a H a y o)(ry:C4 y u)(rd:C4 d r)(h:∀w' s',Inv X pins σ H s'->C4 (o.getD d) w'->Q w' s') :
  wpAny (model X.prog X.w) A (call (.builtin "dict.get") [.ref a,u,r]) Q E s:=by
 rcases g with ⟨kvs,k,e,ey,l⟩ | ⟨kvs,k,b,e,ey,eb,l⟩
 ·subst ey
  obtain⟨z,hd,vs,rel,dd⟩:=a8K I.hok e
  refine call_meetsIn a3R dd.typeIs b2W (b1y _ _ _) (meets_dict_get_default (L6 X.prog X.w) a (a8D ry) hd r) ⟨_,dd.mapOf,h _ _ (I.tok _) ?_⟩
  rw[l]
  exact(rel.val k).getD rd
 ·subst ey
  cases (show u=Value.ref b from ry)
  obtain⟨z,hd,xs,rel,dd⟩:=a8J I.hok e
  refine call_meetsIn a3R dd.typeIs b2W (b1y _ _ _) (meetsH_dict_get_default (b1A (L6 X.prog X.w)) a b hd r) ⟨a1q hu,k,xs,a6S I.hok eb,dd,h _ _ (I.tok _) ?_⟩
  rw[l]
  exact(rel.val k).getD rd
end
def a4K(td ty tx:TE):TE:=fun σ H Q=>td σ H fun x H1=>∃a,x=.ref a/\IsD H1 a/\ty σ H1 fun y H2=>tx σ H2 fun z H3=>∃o,a1a H3 a y o/\Q (o.getD z) H3
section
variable {o f:Expr}{apos cpos:Pos}{td ty tx:TE}
theorem b7S(hu:X.A.units+1<cLine)(ho:PE X o td)(he:PE X e ty)(hf:PE X f tx)(m:M2 X o "get" apos e f cpos):PE X (.Call (.Attribute o "get" apos) [e,f] [] cpos) (a4K td ty tx):=by
 intro pins s σ H Q I h
 refine wpAny_Call_method m.base m.few m.line PySem.F.plainAttrs_dict a3R PySem.F.type_dict_get (thn (ho pins s σ H _ I h) fun u s1 ⟨x,H1,I1,rx,a,ex,d,q1⟩=>?_)
 subst ex
 obtain rfl:u=Value.ref a:=rx
 obtain⟨t1,t2,_⟩:=c3D I1 d
 refine⟨t1,t2,?_⟩
 rw[m.trees]
 refine Calls.callWith_builtin rfl (Calls.evalArgs_plain (Calls.spliced_cons (thn (he pins s1 σ H1 _ I1 q1) fun iv s2 ⟨y,H2,I2,ry,q2⟩=>
  Calls.spliced_cons (thn (hf pins s2 σ H2 _ I2 q2) fun fv s3 ⟨z,H3,I3,rz,ov,g,q3⟩=>Calls.spliced_nil ?_))))
 exact c3L hu I3 g ry rz fun w' s4 I4 rw'=>⟨_,H3,I4,rw',q3⟩
end
section
variable {A:F8}{E:Value->g9->Prop}
end
section
variable {A:F8}{E:Value->g9->Prop}
end
end L2
namespace HT
open PySem PyProof.Rows
section
open PySem.SeqAt
open PySem.AutoSeq1 (wpAny_loadPart')
open PySem.MeetsSeq PySem.MeetsSeq2 PySem.MeetsSeq3
end
section
variable {prog:w4}{w:World}{A:F8}{E:Value->g9->Prop}{s:g9}
def sIx(n d:Nat):Option Int->Nat
 | none=>d
 | some v=>if v<0 then (v+(n:Int)).toNat else min v.toNat n
theorem b0B(n d k:Nat):sIx n d (some (k:Int))=min k n:=by
 show(if(k:Int)<0 then ((k:Int)+(n:Int)).toNat else min (k:Int).toNat n)=min k n
 rw[if_neg (by omega),u4]
theorem c2i(n d:Nat)(hd:d<=n)(o:Option Int):sIx n d o<=n:=by
 cases o with
 | none=>exact hd
 | some v=>
  show(if v<0 then (v+(n:Int)).toNat else min v.toNat n)<=n
  by_cases hv:v<0
  ·rw[if_pos hv];omega
  ·rw[if_neg hv];exact Nat.min_le_right _ _
theorem b4P(v:Int)(n d:Nat):(if v<0 then max (v+(n:Int)) 0 else min v (n:Int))=((sIx n d (some v):Nat):Int):=by
 show(if v<0 then max (v+(n:Int)) 0 else min v (n:Int))=(((if v<0 then (v+(n:Int)).toNat else min v.toNat n):Nat):Int)
 by_cases hv:v<0
 ·simp only[if_pos hv];omega
 ·simp only[if_neg hv];omega
theorem b4o(lo hi:Option Int)(n:Nat):Builtin.Slice.sliceAdjust lo hi 1 (n:Int)=(((sIx n 0 lo:Nat):Int),((sIx n n hi:Nat):Int)):=by
 have h1:¬((1:Int)<0):=by omega
 unfold Builtin.Slice.sliceAdjust
 simp only[h1,if_false]
 refine Prod.ext ?_ ?_
 ·cases lo with
  | none=>rfl
  | some v=>exact b4P v n 0
 ·cases hi with
  | none=>rfl
  | some v=>exact b4P v n n
theorem b3H(i j:Nat):Builtin.Slice.slicePlaces (i:Int) (j:Int) 1=j - i:=by
 unfold Builtin.Slice.slicePlaces
 have h1:(1:Int) > 0:=by omega
 simp only[h1,if_true,Int.ediv_one]
 split <;> omega
theorem a8f{v:Value}{o:Option Int}{Q:Option Int->g9->Prop}(p:c1n v o)(h:Q o s):wpAny (model prog w) A (Builtin.Slice.slicePartIndex v) Q E s:=by
 cases p with
 | none=>exact slicePart_none h
 | int i t=>exact slicePart_int h
theorem a6s{sl:Addr}{vl vu:Value}{lo hi:Option Int}{n:Nat}{Q:Int×Int×Nat->g9->Prop}(hs:s.heap.IsSliceOf sl vl vu .none)(pl:c1n vl lo)(pu:c1n vu hi)
  (h:Q (((sIx n 0 lo:Nat):Int),1,sIx n n hi - sIx n 0 lo) s):wpAny (model prog w) A (Builtin.Slice.sliceApplied (.ref sl) (pure (n:Int))) Q E s:=by
 obtain⟨os,hos,hcs,hds⟩:=id hs
 unfold Builtin.Slice.sliceApplied Builtin.Slice.sliceFields
 refine c5 (c5 (c5F hos hds (x:=vl) rfl (c5 (c5F hos hds (x:=vu) rfl (c5 (c5F hos hds (x:=.none) rfl (o0 ?_)))))))
 refine c5 (slicePart_none ?_)
 show wpAny _ _ (if((1:Int) == 0)=true then _ else _) _ _ s
 rw[if_neg (by decide)]
 refine c5 (a8f pl (c5 (a8f pu (c5 (o0 ?_)))))
 show wpAny _ _ (match Builtin.Slice.sliceAdjust lo hi 1 (n:Int)with | (lo,hi)=>pure (lo,(1:Int),Builtin.Slice.slicePlaces lo hi 1)) _ _ s
 rw[b4o lo hi n]
 show wpAny _ _ (pure (((sIx n 0 lo:Nat):Int),(1:Int),Builtin.Slice.slicePlaces ((sIx n 0 lo:Nat):Int) ((sIx n n hi:Nat):Int) 1)) _ _ s
 rw[b3H]
 exact o0 h
theorem b7L(xs:Array Value)(i k:Nat):((y9 k).filterMap fun(m:Nat)=>xs[((i:Int)+(m:Int) * 1).toNat]?).toArray=((xs.toList.drop i).take k).toArray:=by
 have e:(fun(m:Nat)=>xs[((i:Int)+(m:Int) * 1).toNat]?)=fun m=>xs[i+m]?:=by
  funext m
  have:((i:Int)+(m:Int) * 1).toNat=i+m:=by omega
  rw[this]
 rw[e]
 have:=pick_run xs i k
 rw[List.filterMap_map]at this
 have e2:((fun x=>xs[x]?) ∘ fun x=>i+x)=fun m=>xs[i+m]?:=rfl
 rw[e2]at this
 rw[this]
theorem a5T{t sl:Addr}{items:Array Value}{vl vu:Value}{lo hi:Option Int}{Q:Value->g9->Prop}(ht:IsTup s.heap t items)(hs:s.heap.IsSliceOf sl vl vu .none)(pl:c1n vl lo)(pu:c1n vu hi)
  (hw:¬(sIx items.size 0 lo=0/\sIx items.size items.size hi=items.size))
  (h:Q (.ref s.heap.objs.size) { s with heap:=s.heap.push { cls:=.type "tuple",data:=.seq ((items.toList.drop (sIx items.size 0 lo)).take (sIx items.size items.size hi - sIx items.size 0 lo)).toArray } })
  (hsz:items.size<=l7):wpAny (model prog w) A (b0f (.ref t) (.ref sl)) Q E s:=by
 have htake:sizeOk (.seq ((items.toList.drop (sIx items.size 0 lo)).take (sIx items.size items.size hi - sIx items.size 0 lo)).toArray):=by
  show((items.toList.drop (sIx items.size 0 lo)).take (sIx items.size items.size hi - sIx items.size 0 lo)).toArray.size<=l7
  rw[j4,J8,a9g,Z7]
  omega
 have hj:sIx items.size items.size hi<=items.size:=c2i _ _ (d9 _) hi
 obtain⟨os,hos,hcs,hds⟩:=id hs
 have hTs:s.TypeIs (.ref sl) "slice" := ⟨os,hos,hcs⟩
 unfold b0f
 try with_reducible refine a6h ?_
 first | refine c5 (o0 ?_) | skip
 refine c5 (wpAny_sequenceKey ht.typeIs (by decide) ?_)
 refine c5 (a6i (name:=Str.ofString "__getitem__") ht.typeIs a0d
  (a2v a0d ht.typeIs entry_tuple_getitem ?_ (args_tuple_getitem _ _)))
 show wpAny _ _ (Builtin.Tuple.tupleItemsOf (.ref t) >>= _) _ _ s
 refine c5 (tupleItemsOf_ ht ?_)
 refine c5 (wpAny_typeOf hTs ?_)
 rw[if_pos (by decide)]
 refine c5 (a6s hs pl pu ?_)
 have hno:¬((((sIx items.size 0 lo:Nat):Int) == 0&&(1:Int) == 1&&(sIx items.size items.size hi - sIx items.size 0 lo) == items.size)=true):=by
  intro q
  rw[Q3,Q3]at q
  have q1:((sIx items.size 0 lo:Nat):Int)=0:=eq_of_beq q.1.1
  have q2:sIx items.size items.size hi - sIx items.size 0 lo=items.size:=eq_of_beq q.2
  exact hw ⟨by omega,by omega⟩
 show wpAny _ _ (if(((sIx items.size 0 lo:Nat):Int) == 0&&(1:Int) == 1&&(sIx items.size items.size hi - sIx items.size 0 lo) == items.size)=true then _ else _) _ _ s
 rw[if_neg hno,b7L]
 first
  | exact c5 (m:=Builtin.Tuple.tupleExact _) (O2 (o0 ⟨_,rfl,o0 h⟩) htake)
  | exact c5 (m:=Builtin.Tuple.tupleExact _) (O2 (c5 (o0 (o0 ⟨_,rfl,o0 h⟩))) htake)
  | exact c5 (c5 (m:=Builtin.Tuple.tupleExact _) (O2 (o0 (o0 ⟨_,rfl,o0 h⟩)) htake))
  | exact c5 (c5 (m:=Builtin.Tuple.tupleExact _) (O2 (o0 ⟨_,rfl,o0 h⟩) htake))
end
end HT
namespace L2
open PySem PySem.Spec PyProof.Rows
variable{X:Cx}{pins:List (Addr×Obj)}{σ:St}{H:Hp}{s:g9}{xs:List V}{us:List Value}
abbrev TO:=St->Hp->(Option Int->Hp->Prop)->Prop
def PO(X:Cx)(e:Option Expr)(t:TO):Prop:=
 ∀(pins:List (Addr×Obj)) (s:g9) (σ:St) (H:Hp) (Q:Option Int->Hp->Prop),Inv X pins σ H s->t σ H Q ->
  wpAny (model X.prog X.w) X.A (evalPart e X.env) (fun u s'=>∃o H',Inv X pins σ H' s'/\c1n u o/\Q o H') X.xe s
def a2A:TO:=fun _ H Q=>Q none H
def a8a(t:TE):TO:=fun σ H Q=>t σ H fun x H1=>∃i,x=.int i/\Q (some i) H1
section
variable {e:Expr}{te:TE}{lo hi:Option Expr}{tl th:TO}{pos p2:Pos}
theorem b9R:PO X none a2A:=by
 intro pins s σ H Q I h
 rw[evalPart_none]
 exact o0 ⟨none,H,I,.none,h⟩
theorem b9Q(h:PE X e te):PO X (some e) (a8a te):=by
 intro pins s σ H Q I hw
 rw[evalPart_some]
 refine thn (h pins s σ H _ I hw) fun u s1 ⟨x,H1,I1,r1,q1⟩=>?_
 obtain⟨i,rfl,q⟩:=q1
 obtain⟨t,rfl⟩:=r1
 exact⟨some i,H1,I1,.int i t,q⟩
def SlR(X:Cx)(r:V->Option Int->Option Int->Hp->VK->Prop):Prop:=
 ∀(pins:List (Addr×Obj)) (s:g9) (σ:St) (H:Hp) (x:V) (v vl vu:Value) (lo hi:Option Int) (sl:Addr) (Q:VK),Inv X pins σ H s->C4 x v->s.heap.IsSliceOf sl vl vu .none->c1n vl lo->c1n vu hi->r x lo hi H Q ->
  ∃T id,typeLookup (.type T) "__getitem__" = pure (some (.builtin id))/\s.TypeIs v T/\wpAny (model X.prog X.w) X.A (b0f v (.ref sl)) (EP X pins σ Q) X.xe s
theorem SlR.or{r r':V->Option Int->Option Int->Hp->VK->Prop}(h:SlR X r)(h':SlR X r'):SlR X (fun x lo hi H Q=>r x lo hi H Q\/r' x lo hi H Q):=by
 intro pins s σ H x v vl vu lo hi sl Q I rx hs pl pu q
 rcases q with q | q
 ·exact h pins s σ H x v vl vu lo hi sl Q I rx hs pl pu q
 ·exact h' pins s σ H x v vl vu lo hi sl Q I rx hs pl pu q
def tSl(r:V->Option Int->Option Int->Hp->VK->Prop)(te:TE)(tl th:TO):TE:=fun σ H Q=>te σ H fun x H1=>tl σ H1 fun l H2=>th σ H2 fun u H3=>r x l u H3 Q
theorem b7O{r:V->Option Int->Option Int->Hp->VK->Prop}(hr:SlR X r)(he:PE X e te)(hl:PO X lo tl)(hu:PO X hi th):PE X (.Subscript e (.Slice lo hi none p2) pos) (tSl r te tl th):=by
 intro pins s σ H Q I h
 refine Subscript_ (thn (he pins s σ H _ I h) fun v s1 ⟨x,H1,I1,r1,q1⟩=>?_)
 refine wpAny_Slice (thn (hl pins s1 σ H1 _ I1 q1) fun vl s2 ⟨l,H2,I2,pl,q2⟩=>thn (hu pins s2 σ H2 _ I2 q2) fun vu s3 ⟨u,H3,I3,pu,q3⟩=>?_)
 rw[evalPart_none]
 refine o0 ?_
 have I4:Inv X pins σ H3 { s3 with heap:=s3.heap.push { cls:=.type "slice",data:=.fields #[vl,vu,.none] } }:=I3.kept (t':=s3.toks) fun b ob q=>i9 _ q
 obtain⟨T,id,hT,ht,hg⟩:=hr pins { s3 with heap:=s3.heap.push { cls:=.type "slice",data:=.fields #[vl,vu,.none] } } σ H3 x v vl vu l u s3.heap.objs.size Q I4 r1 (Heap.IsSliceOf.new ..) pl pu q3
 show wpAny (model X.prog X.w) X.A (c1O e (.Slice lo hi none p2) v (.ref s3.heap.objs.size)) (EP X pins σ Q) X.xe { s3 with heap:=s3.heap.push { cls:=.type "slice",data:=.fields #[vl,vu,.none] } }
 exact tail_any (ops:=[.ref s3.heap.objs.size,v]) ht hT hg (by with_unfolding_all rfl)
def a5e(xs:List V)(lo hi:Option Int):List V:=(xs.drop (HT.sIx xs.length 0 lo)).take (HT.sIx xs.length xs.length hi - HT.sIx xs.length 0 lo)
theorem a7n(xs:List V)(lo hi:Option Int):(a5e xs lo hi).length<=xs.length:=by
 unfold a5e
 rw[J8,a9g]
 omega
def c5L(K:Fg):V->Option Int->Option Int->Hp->VK->Prop:=fun x lo hi H Q=>∃a xs,x=.ref a/\SqT K H a xs /\
 ¬(HT.sIx xs.length 0 lo=0/\HT.sIx xs.length xs.length hi=xs.length)/\∀p,H p=none->Q (.ref p) (upd H p (.tup (a5e xs lo hi)))
theorem c1S:SlR X (c5L X.K):=by
 intro pins s σ H x v vl vu lo hi sl Q I rx hs pl pu h
 obtain⟨a,xs,rfl,hx,hw,q⟩:=h
 cases rx
 obtain⟨its,r,ht,hz⟩:=I.tuple hx
 have hlen:its.toArray.size=xs.length:=by rw[j4];exact r.length.symm
 refine⟨"tuple",_,a0d.lookup,ht.typeIs,?_⟩
 refine HT.a5T ht hs pl pu (by rw[hlen];exact hw) ?_ (by rw[hlen];exact hz)
 rw[hlen]
 refine⟨.ref s.heap.objs.size,_,I.laid (t':=s.toks) (o:=.tup (a5e xs lo hi)) (fun b ob q=>i9 _ q) (d9 _) ?_,rfl,q _ (I.hok.fresh (d9 _))⟩
 exact⟨A9 (a7n xs lo hi) hz,_,(r.drop (HT.sIx xs.length 0 lo)).take (HT.sIx xs.length xs.length hi - HT.sIx xs.length 0 lo),IsTup.new _ _⟩
end
def ixN(n:Nat)(i:Int):Option Nat:=if 0<=i then (if i<n then some i.toNat else none)else if -(n:Int)<=i then some (i+n).toNat else none
def atI{α:Type}(xs:List α)(i:Int):Option α:=(ixN xs.length i).bind fun j=>xs[j]?
theorem b4I{n:Nat}{i:Int}{j:Nat}(h:ixN n i=some j):seqIndex? i n=some j/\j<n /\ -(n:Int)<=i/\i<n:=by
 unfold ixN at h
 by_cases h0:0<=i
 ·rw[if_pos h0]at h
  by_cases h1:i<n
  ·rw[if_pos h1]at h
   have e:i.toNat=j:=Option.some.inj h
   exact⟨by rw[c5G h0 h1,e],by omega,by omega,h1⟩
  ·rw[if_neg h1]at h;cases h
 ·rw[if_neg h0]at h
  by_cases h1 : -(n:Int)<=i
  ·rw[if_pos h1]at h
   have e:(i+n).toNat=j:=Option.some.inj h
   exact⟨by rw[c4q (by omega) h1,e],by omega,h1,by omega⟩
  ·rw[if_neg h1]at h;cases h
theorem b1f{α:Type}{xs:List α}{i:Int}{v:α}(h:atI xs i=some v):∃j,seqIndex? i xs.length=some j/\xs[j]? = some v/\j<xs.length /\ -(xs.length:Int)<=i/\i<xs.length:=by
 unfold atI at h
 cases e:ixN xs.length i with
 | none=>rw[e]at h;cases h
 | some j=>
  rw[e]at h
  obtain⟨h1,h2,h3,h4⟩:=b4I e
  exact⟨j,h1,h,h2,h3,h4⟩
theorem J5{α:Type}{xs:List α}{j:Nat}{v:α}(h:xs[j]? = some v):atI xs (j:Int)=some v:=by
 have hj:j<xs.length:=(k9.mp h).1
 have e:ixN xs.length (j:Int)=some j:=by
  unfold ixN
  rw[if_pos (by omega),if_pos (by omega)];simp
 unfold atI;rw[e];exact h
def b1l(b:Expr):Prop:=∀o i,b6B b false o i=operate [o,i] (b0f o i)
def IxR(X:Cx)(r:R2):Prop:=
 ∀(value slice:Expr) (pins:List (Addr×Obj)) (s:g9) (σ:St) (H:Hp) (x y:V) (v u:Value) (Q:VK),Inv X pins σ H s->C4 x v->C4 y u->r x y H Q ->
  b6B slice false v u=operate [v,u] (b0f v u)->wpAny (model X.prog X.w) X.A (c1O value slice v u) (EP X pins σ Q) X.xe s
def MtR(X:Cx)(id:String)(r:V->List V->Hp->VK->Prop):Prop:=
 ∀(pins:List (Addr×Obj)) (s:g9) (σ:St) (H:Hp) (x:V) (xs:List V) (v:Value) (us:List Value) (Q:VK),Inv X pins σ H s->C4 x v->D8 xs us->r x xs H Q ->
  wpAny (model X.prog X.w) X.A (call (.builtin id) (v::us)) (EP X pins σ Q) X.xe s
section
variable {a b:Expr}{ta tb:TE}{pos:Pos}
theorem IxR.or{r r':R2}(h:IxR X r)(h':IxR X r'):IxR X (fun x y H Q=>r x y H Q\/r' x y H Q):=by
 intro value slice pins s σ H x y v u Q I rx ry q hs
 rcases q with q | q
 ·exact h value slice pins s σ H x y v u Q I rx ry q hs
 ·exact h' value slice pins s σ H x y v u Q I rx ry q hs
theorem c5c{r:R2}(hr:IxR X r)(ha:PE X a ta)(hb:PE X b tb)(hs:b1l b):PE X (.Subscript a b pos) (tOp r ta tb):=by
 intro pins s σ H Q I h
 exact Subscript_ (c3N ha hb I h fun v u s2 x y H2 I2 rx ry q=>hr a b pins s2 σ H2 x y v u Q I2 rx ry q (hs _ _))
def c4N(K:Fg):R2:=fun x y H Q=>∃p xs i v,x=.ref p/\y=.int i/\SqL K H p xs/\atI xs i=some v/\Q v H
def c4L(K:Fg):R2:=fun x y H Q=>∃p xs i v,x=.ref p/\y=.int i/\SqT K H p xs/\atI xs i=some v/\Q v H
def c4M:R2:=fun x y H Q=>∃z i c,x=.str z/\y=.int i/\z.length<=l7/\atI z.cps.toList i=some c/\Q (.str ⟨#[c]⟩) H
theorem c0K:IxR X (c4N X.K):=by
 intro value slice pins s σ H x y v u Q I rx ry h hs
 obtain⟨p,xs,i,z,rfl,rfl,hq,he,q⟩:=h
 cases rx
 obtain⟨t,rfl⟩:=ry
 obtain⟨its,r,pl,hz⟩:=I.list hq
 obtain⟨j,h1,h2,h3,h4,h5⟩:=b1f he
 obtain⟨w,ew,rw'⟩:=r.get h2
 have hl:=r.length
 have hn:=a5d
 have fin:EP X pins σ Q w s:=⟨z,H,I,rw',q⟩
 by_cases h0:0<=i
 ·have hj:i.toNat=j:=by
   rw[c5G h0 h5]at h1
   exact Option.some.inj h1
  exact item_listR pl.isList h0 (by omega) (by rw[hj];simpa using ew) fin hs
 ·have hj:(i+(its.toArray.size:Int)).toNat=j:=by
   rw[c4q (by omega) h4]at h1
   rw[j4,<-hl]
   exact Option.some.inj h1
  exact c4j (x:=w) pl.isList.typeIs slot_list_getitem.lookup
   (wpAny_getItem_list_neg (Q:=fun r s'=>r=w/\EP X pins σ Q r s') pl.isList (by omega) (by rw[j4] <;> omega) (by omega) (by rw[hj];simpa using ew) ⟨rfl,fin⟩) hs
theorem c3z:IxR X (c4L X.K):=by
 intro value slice pins s σ H x y v u Q I rx ry h hs
 obtain⟨p,xs,i,z,rfl,rfl,hq,he,q⟩:=h
 cases rx
 obtain⟨t,rfl⟩:=ry
 obtain⟨its,r,pl,hz⟩:=I.tuple hq
 obtain⟨j,h1,h2,h3,h4,h5⟩:=b1f he
 obtain⟨w,ew,rw'⟩:=r.get h2
 have hl:=r.length
 have hn:=a5d
 have fin:EP X pins σ Q w s:=⟨z,H,I,rw',q⟩
 exact c4j (x:=w) pl.typeIs slot_tuple_getitem.lookup
  (getItem_tuple (j:=j) (Q:=fun r s'=>r=w/\EP X pins σ Q r s') pl (by omega) (by omega) (by rw[j4,<-hl];exact h1) (by simpa using ew) ⟨rfl,fin⟩) hs
theorem c3A:IxR X c4M:=by
 intro value slice pins s σ H x y v u Q I rx ry h hs
 obtain⟨z,i,c,rfl,rfl,hz,he,q⟩:=h
 obtain⟨t,rfl⟩:=rx
 obtain⟨t',rfl⟩:=ry
 obtain⟨j,h1,h2,h3,h4,h5⟩:=b1f he
 have hl:z.cps.toList.length=z.length:=by simp[Str.length]
 rw[hl]at h1 h4 h5
 have hn:=a5d
 exact tail_any (typeIs_str s z t) slot_str_getitem.lookup (getItem_str (c:=c) (by
  have e1:decide (i < -(2 ^ 63:Int))=false:=c7q (by omega)
  have e2:decide (i ≥ 2 ^ 63)=false:=c7q (by omega)
  rw[e1,e2,c5t]) (by rw[h1];simpa using h2) ⟨.str ⟨#[c]⟩,H,I.tok _,⟨_,rfl⟩,q⟩) hs
def rIx(K:Fg):R2:=fun x y H Q=>c4N K x y H Q\/c4L K x y H Q\/c4M x y H Q
theorem c3B:IxR X (rIx X.K):=c0K.or (c3z.or c3A)
theorem b3X(its:List Value)(n j:Nat)(u:Value):Obj.mapSeq (·.setIfInBounds j u) { cls:=.type "list",data:=.seq its.toArray n }={ cls:=.type "list",data:=.seq (its.set j u).toArray n }:=by
 simp[Obj.mapSeq]
theorem Inv.lst{pins:List (Addr×Obj)}{σ:St}{H:Hp}{s:g9}{p:Addr}{xs:List V}(I:Inv X pins σ H s)(h:H p=some (.lst xs)) :
  ∃(its:List Value) (n:Nat),D8 xs its/\s.heap.get? p=some { cls:=.type "list",data:=.seq its.toArray n }/\xs.length<=l7:=by
 obtain⟨z,its,n,r,e⟩:=I.hok p _ h
 exact⟨its,n,r,e,z⟩
theorem Inv.lstUpd{p:Addr}{ys:List V}{its its':List Value}{n n':Nat}{f:Obj->Obj}(I:Inv X pins σ H s)(h:H p=some (.lst xs))
  (ho:s.heap.get? p=some { cls:=.type "list",data:=.seq its.toArray n }) (hf:f { cls:=.type "list",data:=.seq its.toArray n }={ cls:=.type "list",data:=.seq its'.toArray n' }) (r:D8 ys its') (hz:ys.length<=l7) (t:Nat) :
  Inv X pins σ (upd H p (.lst ys)) { s with heap:=s.heap.update p f,toks:=t }:=by
 have e:(s.heap.update p f).get? p=some { cls:=.type "list",data:=.seq its'.toArray n' }:=by
  rw[b6s f ho (by rw[hf] <;> rfl),hf]
 refine I.write (x:=p) (e:=p) (by rw[h];trivial) (.inl rfl) (fun b u hb q=>(b4X _ _ (Ne.symm hb)).trans q) ⟨_,e⟩ ?_
 exact⟨hz,its',n',r,e⟩
def c4K:V->V->V->Hp->(Hp->Prop)->Prop:=fun o i v H Q=>∃p xs k j,o=.ref p/\i=.int k/\H p=some (.lst xs)/\ixN xs.length k=some j/\Q (upd H p (.lst (xs.set j v)))
theorem b7k:b8K X c4K:=by
 intro pins s σ H o i v ov iv u Q I ro ri rv h
 obtain⟨p,xs,k,j,rfl,rfl,hp,hj,q⟩:=h
 cases ro
 obtain⟨t,rfl⟩:=ri
 obtain⟨its,n,r,ho,hz⟩:=I.lst hp
 obtain⟨h1,h2,h3,h4⟩:=b4I hj
 have hl:=r.length
 have hn:=a5d
 have I':Inv X pins σ (upd H p (.lst (xs.set j v))) { s with heap:=s.heap.update p (Obj.mapSeq (·.setIfInBounds j u)) }:=
  I.lstUpd hp ho (b3X its n j u) (r.set rv j) (by rw[W3];exact hz) s.toks
 by_cases h0:0<=k
 ·have hk:k.toNat=j:=by
   rw[c5G h0 h4]at h1
   exact Option.some.inj h1
  exact PySem.W.ki_setAt ho h0 (by omega) (by rw[j4,<-hl];exact h4) (by rw[hk];exact⟨_,I',q⟩)
 ·have hk:(k+(its.toArray.size:Int)).toNat=j:=by
   rw[c4q (by omega) h3]at h1
   rw[j4,<-hl]
   exact Option.some.inj h1
  exact PySem.W.ki_setBack ho (by omega) (by rw[j4,<-hl];exact h3) (by omega) (by rw[hk];exact⟨_,I',q⟩)
theorem b0q(lo hi:Option Int)(n:Nat):(a3r lo hi none n).1=((HT.sIx n 0 lo:Nat):Int)/\(a3r lo hi none n).2.1=((HT.sIx n n hi:Nat):Int)/\(a3r lo hi none n).2.2=1:=by
 refine⟨?_,?_,rfl⟩
 ·cases lo with
  | none=>simp[a3r,HT.sIx]
  | some i=>
   simp only[a3r,HT.sIx,b8Y,show(1:Int) > 0 by decide,if_true]
   by_cases h:i<0
   ·simp only[h,if_true] <;> omega
   ·simp only[h,if_false] <;> omega
 ·cases hi with
  | none=>simp[a3r,HT.sIx]
  | some i=>
   simp only[a3r,HT.sIx,b8Y,show(1:Int) > 0 by decide,if_true]
   by_cases h:i<0
   ·simp only[h,if_true] <;> omega
   ·simp only[h,if_false] <;> omega
theorem a9j(its:List Value)(lo hi:Option Int):slicePick its.toArray lo hi none=((its.drop (HT.sIx its.length 0 lo)).take (HT.sIx its.length its.length hi - HT.sIx its.length 0 lo)).toArray:=by
 obtain⟨h1,h2,h3⟩:=b0q lo hi its.toArray.size
 unfold slicePick
 rw[h1,h2,h3]
 simp only[sliceRange_one,pick_run,j4] <;> rfl
def c2m(K:Fg):V->Option Int->Option Int->Hp->VK->Prop:=fun x lo hi H Q=>∃a xs,x=.ref a/\SqL K H a xs/\∀p,H p=none->Q (.ref p) (upd H p (.lst (a5e xs lo hi)))
theorem b4x:SlR X (c2m X.K):=by
 intro pins s σ H x v vl vu lo hi sl Q I rx hs pl pu h
 obtain⟨a,xs,rfl,hx,q⟩:=h
 cases rx
 obtain⟨its,r,ht,hz⟩:=I.list hx
 have hlen:=r.length
 refine⟨"list",_,slot_list_getitem.lookup,ht.isList.typeIs,?_⟩
 refine wpAny_getItem_list_slice ht.isList hs pl pu .none (by simp) ?_ (by rw[j4] <;> omega)
 rw[a9j,<-hlen]
 refine⟨.ref s.heap.objs.size,_,I.laid (t':=s.toks) (o:=.lst (a5e xs lo hi)) (fun b ob q=>i9 _ q) (d9 _) ?_,rfl,q _ (I.hok.fresh (d9 _))⟩
 exact⟨A9 (a7n xs lo hi) hz,_,0,(r.drop (HT.sIx xs.length 0 lo)).take (HT.sIx xs.length xs.length hi - HT.sIx xs.length 0 lo),t9 _ rfl⟩
def E9:V->Bool
 | .non=>true
 | .bl _=>true
 | .int _=>true
 | .str _=>true
 | _=>false
def eqV:V->V->Bool
 | .non,.non=>true
 | .bl a,.bl b=>a == b
 | .bl a,.int b=>(if a then 1 else 0) == b
 | .int a,.bl b=>a == (if b then 1 else 0)
 | .int a,.int b=>a == b
 | .str a,.str b=>a == b
 | _,_=>false
theorem a8I{A:F8}{y x:V}{u v:Value}(ry:C4 y u)(rx:C4 x v)(fy:E9 y=true)(fx:E9 x=true):SeqAt.EqAt A s u v (eqV y x):=by
 cases y with
 | non=>
  cases ry
  cases x with
  | non=>cases rx;exact SeqAt.EqAt.same _
  | bl b=>cases rx;exact SeqAt.EqAt.none_bool b
  | int b=>obtain⟨t,rfl⟩:=rx;exact SeqAt.EqAt.none_int b t
  | str b=>obtain⟨t,rfl⟩:=rx;exact SeqAt.EqAt.none_str b t
  | _=>exact absurd (show false=true from fx) l9
 | bl a=>
  cases ry
  cases x with
  | non=>cases rx;exact SeqAt.EqAt.bool_none a
  | bl b=>cases rx;exact SeqAt.EqAt.bool_bool a b
  | int b=>obtain⟨t,rfl⟩:=rx;exact SeqAt.EqAt.bool_int a b t
  | str b=>obtain⟨t,rfl⟩:=rx;exact SeqAt.EqAt.bool_str a b t
  | _=>exact absurd (show false=true from fx) l9
 | int a=>
  obtain⟨t',rfl⟩:=ry
  cases x with
  | non=>cases rx;exact SeqAt.EqAt.int_none a t'
  | bl b=>cases rx;exact SeqAt.EqAt.int_bool a t' b
  | int b=>obtain⟨t,rfl⟩:=rx;exact SeqAt.EqAt.int_int a t' b t
  | str b=>obtain⟨t,rfl⟩:=rx;exact SeqAt.EqAt.int_str a t' b t
  | _=>exact absurd (show false=true from fx) l9
 | str a=>
  obtain⟨t',rfl⟩:=ry
  cases x with
  | non=>cases rx;exact SeqAt.EqAt.str_none a t'
  | bl b=>cases rx;exact SeqAt.EqAt.str_bool a t' b
  | int b=>obtain⟨t,rfl⟩:=rx;exact SeqAt.EqAt.str_int a t' b t
  | str b=>obtain⟨t,rfl⟩:=rx;exact SeqAt.EqAt.str_str a t' b t
  | _=>exact absurd (show false=true from fx) l9
 | _=>exact absurd (show false=true from fy) l9
def eqU(x:V)(u:Value):Bool:=match u with
 | .none=>eqV .non x
 | .bool b=>eqV (.bl b) x
 | .int i _=>eqV (.int i) x
 | .str z _=>eqV (.str z) x
 | _=>false
theorem b8w{x y:V}{u:Value}(r:C4 y u)(f:E9 y=true):eqU x u=eqV y x:=by
 cases y with
 | non=>cases r;rfl
 | bl b=>cases r;rfl
 | int i=>obtain⟨t,rfl⟩:=r;rfl
 | str z=>obtain⟨t,rfl⟩:=r;rfl
 | _=>exact absurd (show false=true from f) l9
theorem b1h{x:V}:∀ {xs:List V} {us:List Value},D8 xs us->xs.all E9=true->us.any (eqU x)=xs.any fun y=>eqV y x
 | _,_,.nil,_=>rfl
 | y::xs,u::us,.cons r t,f=>by
  rw[Q0,Q3]at f
  rw[P9,P9,b8w r f.1,b1h t f.2]
theorem a8B{A:F8}{x:V}{v:Value}(rx:C4 x v)(fx:E9 x=true):∀ {xs:List V} {us:List Value},D8 xs us->xs.all E9=true->∀u∈us,SeqAt.EqAt A s u v (eqU x u)
 | _,_,.nil,_=>fun u hu=>by cases hu
 | y::xs,u::us,.cons r t,f=>fun u' hu=>by
  rw[Q0,Q3]at f
  rcases c8.mp hu with rfl | hu
  ·rw[b8w r f.1];exact a8I r rx f.1 fx
  ·exact a8B rx fx t f.2 u' hu
def inV(x:V)(xs:List V):Bool:=xs.any fun y=>eqV y x
def rIn(K:Fg)(neg:Bool):R2:=fun x y H Q=>∃p xs,y=.ref p/\(SqL K H p xs\/SqT K H p xs)/\E9 x=true/\xs.all E9=true/\Q (.bl (if neg then !inV x xs else inV x xs)) H
theorem a9P:OpR X (p9 .In) (rIn X.K false):=by
 intro pins s σ H x y v u Q I rx ry h
 obtain⟨p,xs,rfl,hq,fx,fs,q⟩:=h
 cases ry
 rcases hq with hq | hq
 ·obtain⟨its,r,pl,hz⟩:=I.list hq
  refine SeqAt.in_listAt (eqU x) pl.isList (fun w hw=>a8B rx fx r fs w (by simpa using hw)) ⟨.bl _,H,I,rfl,?_⟩
  rw[show its.toArray.any (eqU x)=its.any (eqU x) by simp,b1h r fs]
  exact q
 ·obtain⟨its,r,pl,hz⟩:=I.tuple hq
  refine SeqAt.in_tupleAt (eqU x) pl (fun w hw=>a8B rx fx r fs w (by simpa using hw)) ⟨.bl _,H,I,rfl,?_⟩
  rw[show its.toArray.any (eqU x)=its.any (eqU x) by simp,b1h r fs]
  exact q
theorem b1b:U2 X (.builtin "len") (fun xs H Q=>∃p ys,xs=[.ref p]/\(SqL X.K H p ys\/SqT X.K H p ys)/\Q (.int ys.length) H):=by
 intro pins s σ H xs us Q I r h
 obtain⟨p,ys,rfl,hq,q⟩:=h
 obtain⟨u,rfl,rx⟩:=a5q r
 cases rx
 have hn:=a5d
 rcases hq with hq | hq
 ·obtain⟨its,r',pl,hz⟩:=I.list hq
  have hlen:=r'.length
  exact Calls.call_len_list pl.isList (by simp only[j4] <;> omega) ⟨.int ys.length,H,I.tok _,⟨s.toks+1,by rw[j4,hlen]⟩,q⟩
 ·obtain⟨its,r',pl,hz⟩:=I.tuple hq
  have hlen:=r'.length
  exact len_tuple pl (by simp only[j4] <;> omega) ⟨.int ys.length,H,I.tok _,⟨s.toks+1,by rw[j4,hlen]⟩,q⟩
theorem b1a:U2 X (.builtin "len") (fun xs H Q=>∃z,xs=[.str z]/\z.length<=l7/\Q (.int z.length) H):=by
 intro pins s σ H xs us Q I r h
 obtain⟨z,rfl,hz,q⟩:=h
 obtain⟨u,rfl,t,rfl⟩:=a5q r
 have hn:=a5d
 exact len_str (by omega) ⟨.int z.length,H,I.tok _,⟨_,rfl⟩,q⟩
theorem U2.or{f:Value}{r r':List V->Hp->VK->Prop}(h:U2 X f r)(h':U2 X f r'):U2 X f (fun xs H Q=>r xs H Q\/r' xs H Q):=by
 intro pins s σ H xs us Q I rs q
 rcases q with q | q
 ·exact h pins s σ H xs us Q I rs q
 ·exact h' pins s σ H xs us Q I rs q
theorem b0Z:U2 X (.type "list") (fun xs H Q=>∃p ys,xs=[.ref p]/\(SqL X.K H p ys\/SqT X.K H p ys)/\∀l,H l=none->Q (.ref l) (upd H l (.lst ys))):=by
 intro pins s σ H xs us Q I r h
 obtain⟨p,ys,rfl,hq,q⟩:=h
 obtain⟨u,rfl,rx⟩:=a5q r
 cases rx
 have fin:∀(its:List Value),D8 ys its->ys.length<=l7->∀(h':Heap) (c':Nat),(∀b o',s.heap.get? b=some o'->h'.get? b=some o') ->
   h'.get? s.heap.objs.size=some { cls:=.type "list",dict:=none,data:=.seq its.toArray c',slots := #[] }->EP X pins σ Q (.ref s.heap.objs.size) { s with heap:=h' }:=fun its r' hz h' c' kp e=>
  ⟨.ref s.heap.objs.size,_,I.laid (t':=s.toks) kp (d9 _) (show R4 X.prog X.w _ h' _ (.lst ys)from⟨hz,its,c',r',e⟩),rfl,q _ (I.hok.fresh (d9 _))⟩
 rcases hq with hq | hq
 ·obtain⟨its,r',pl,hz⟩:=I.list hq
  have hlen:=r'.length
  obtain⟨o,ho,hc,n,hd⟩:=pl.isList
  exact call_list_seq p (.inl rfl) ho hc hd (fun h' c' kp e=>fin its r' hz h' c' kp e) (by simp only[j4] <;> omega)
 ·obtain⟨its,r',pl,hz⟩:=I.tuple hq
  have hlen:=r'.length
  obtain⟨o,ho,hc,n,hd⟩:=pl
  exact call_list_seq p (.inr rfl) ho hc hd (fun h' c' kp e=>fin its r' hz h' c' kp e) (by simp only[j4] <;> omega)
def tyV(K:Fg)(T:String)(x:V)(H:Hp):Prop:=match x with
 | .str _=>T = "str"
 | .int _=>T = "int"
 | .ref p=>(T = "list" /\ ∃xs,SqL K H p xs)\/(T = "tuple" /\ ∃o,K.lookup p=some o/\o.cls=.type "tuple" /\ o.dict=none) \/
   (T = "dict" /\ ((∃kvs,H p=some (.dK kvs))\/∃kvs,H p=some (.dT kvs)))\/(T = "set" /\ ∃S n,H p=some (.set S n))
 | _=>False
theorem b6Y{T:String}{x:V}{v:Value}(I:Inv X pins σ H s)(r:C4 x v)(ty:tyV X.K T x H) :
  s.TypeIs v T/\∀a,v=.ref a->∃ob,s.heap.get? a=some ob/\ob.dict=none:=by
 cases x with
 | str z=>
  obtain⟨t,rfl⟩:=r
  cases (show T = "str" from ty)
  exact⟨typeIs_str s z t,fun _ e=>nomatch e⟩
 | int i=>
  obtain⟨t,rfl⟩:=r
  cases (show T = "int" from ty)
  exact⟨typeIs_int s i t,fun _ e=>nomatch e⟩
 | ref p=>
  cases r
  rcases ty with ⟨rfl,xs,hq⟩ | ⟨rfl,o,hk,hc,hd⟩ | ⟨rfl,hk⟩ | ⟨rfl,S,n,hk⟩
  ·obtain⟨its,_,pl,_⟩:=I.list hq
   refine⟨pl.isList.typeIs,fun a e=>?_⟩
   cases e
   obtain⟨o,n,e,c,hd,_⟩:=pl
   exact⟨o,e,hd⟩
  ·refine⟨⟨o,I.kIn p o hk,hc⟩,fun a e=>?_⟩
   cases e
   exact⟨o,I.kIn _ o hk,hd⟩
  ·have z:∃o,s.heap.get? p=some o/\o.ExactDict:=by
    rcases hk with ⟨kvs,hk⟩ | ⟨kvs,hk⟩
    ·obtain⟨_,_,_,_,o,_,_,e,ex,_⟩:=I.hok p _ hk
     exact⟨o,e,ex⟩
    ·obtain⟨_,_,_,_,o,_,_,e,ex,_⟩:=I.hok p _ hk
     exact⟨o,e,ex⟩
   obtain⟨o,e,ex⟩:=z
   refine⟨⟨o,e,ex.1⟩,fun a e2=>?_⟩
   cases e2
   exact⟨o,e,ex.2.1⟩
  ·obtain⟨o,_,_,_,e,ex,_⟩:=I.hok p _ hk
   refine⟨⟨o,e,ex.1⟩,fun a e2=>?_⟩
   cases e2
   exact⟨o,e,ex.2.1⟩
 | _=>exact False.elim ty
def b9j(K:Fg)(T:String)(r:V->List V->Hp->VK->Prop)(to:TE):TE:=fun σ H Q=>to σ H fun x H1=>tyV K T x H1/\r x [] H1 Q
def tBM(K:Fg)(T:String)(r:V->List V->Hp->VK->Prop)(to:TE)(t:TA):TE:=fun σ H Q=>to σ H fun x H1=>tyV K T x H1/\t σ H1 fun xs H2=>r x xs H2 Q
variable {o e:Expr}{es:List Expr}{to:TE}{t:TA}{name:Str}{apos cpos:Pos}{T id:String}{r:V->List V->Hp->VK->Prop}
theorem c2U(pa:c1m T)(slot:Slot T name id)(hty:typeOf (.builtin id)=pure (.type "method_descriptor"))(hm:MtR X id r)(ho:PE X o to)
  (hbase:U9 o name X.env (eval o X.env)=eval o X.env:=by rfl) (hline:(apos.endLine == cpos.line)=true:=by rfl):PE X (.Call (.Attribute o name apos) [] [] cpos) (b9j X.K T r to):=by
 intro pins s σ H Q I h
 refine wpAny_Call_method0_late hbase hline (thn (ho pins s σ H _ I h) fun v s1 ⟨x,H1,I1,r1,ty,q1⟩=>?_)
 obtain⟨h1,h2⟩:=b6Y I1 r1 ty
 exact⟨T,id,pa,slot,hty,h1,h2,Calls.callWith_builtin rfl (PySem.evalArgs_none (hm pins s1 σ H1 x [] v [] Q I1 r1 .nil q1))⟩
theorem c5d(pa:c1m T)(slot:Slot T name id)(hty:typeOf (.builtin id)=pure (.type "method_descriptor"))(hm:MtR X id r)(ho:PE X o to)(ha:PA X (e::es) t)
  (hbase:U9 o name X.env (eval o X.env)=eval o X.env:=by rfl)
  (hfew:((U8 cpos (g7 (e::es) X.env)).all (fun x => !x.1)&&(a9e cpos (a1Y [] X.env)).all (fun x=>x.1.isSome)
   && decide ((e::es).length+([]:List a6l).length+(if([]:List a6l).isEmpty then 0 else 1)<30))=true:=by rfl)
  (hline:(apos.endLine == cpos.line)=true:=by rfl) (hs:g7 (e::es) X.env=(false,eval e X.env)::g7 es X.env:=by rfl) (hplain:(U8 cpos (g7 es X.env)).any (·.1)=false:=by rfl) :
  PE X (.Call (.Attribute o name apos) (e::es) [] cpos) (tBM X.K T r to t):=by
 intro pins s σ H Q I h
 refine wpAny_Call_method_late hbase hfew hline rfl (thn (ho pins s σ H _ I h) fun v s1 ⟨x,H1,I1,r1,ty,q1⟩=>?_)
 obtain⟨h1,h2⟩:=b6Y I1 r1 ty
 refine⟨T,id,pa,slot,hty,h1,h2,?_⟩
 have hA:=ha cpos pins s1 σ H1 _ I1 q1
 rw[hs]at hA ⊢
 refine Calls.callWith_builtin (by show(false||(U8 cpos (g7 es X.env)).any (·.1))=false;rw[hplain] <;> rfl) (Calls.evalArgs_plain ?_)
 exact thn hA fun us s2 ⟨vs,H2,I2,r2,q2⟩=>hm pins s2 σ H2 x vs v us Q I2 r1 r2 q2
end
def MtM(X:Cx)(id:String)(r:V->List V->Hp->VK->Prop):Prop:=
 ∀(pins:List (Addr×Obj)) (s:g9) (σ:St) (H:Hp) (x:V) (xs:List V) (v:Value) (us:List Value) (Q:VK),Inv X pins σ H s->C4 x v->D8 xs us->r x xs H Q ->
  wpAny (model X.prog X.w) X.A (call (.builtin id) (v::us)) (EP X pins σ Q) X.xe s
theorem D8.one:∀ {x:V} {us:List Value},D8 [x] us->∃u,us=[u]/\C4 x u
 | _,_,.cons r .nil=>⟨_,rfl,r⟩
theorem D8.zero:∀ {us:List Value},D8 [] us->us=[]
 | _,.nil=>rfl
theorem D8.dropLast(h:D8 xs us):D8 xs.dropLast us.dropLast:=by
 induction h with
 | nil=>exact .nil
 | cons r t ih=>
  cases t with
  | nil=>exact .nil
  | cons q t'=>exact .cons r ih
theorem b4j{α:Type}(l:List α):l.eraseIdx (l.length - 1)=l.dropLast:=by
 induction l with
 | nil=>rfl
 | cons a r ih=>
  cases r with
  | nil=>rfl
  | cons b r=>
   have e:(a::b::r).length - 1=((b::r).length - 1)+1:=by
    have h1:(a::b::r).length=r.length+2:=rfl
    have h2:(b::r).length=r.length+1:=rfl
    omega
   rw[e,List.eraseIdx_cons_succ,ih]
   all_goals rfl
section
variable {l b:Addr}{ys zs:List V}
theorem Inv.lset{its its':List Value}{n:Nat}{f:Array Value->Array Value}{t':Nat}(I:Inv X pins σ H s)(hH:H l=some (.lst xs))
  (e:s.heap.get? l=some { cls:=.type "list",data:=.seq its.toArray n }) (hf:f its.toArray=its'.toArray) (hv:D8 ys its') (hz:ys.length<=l7) :
  Inv X pins σ (upd H l (.lst ys)) { s with heap:=s.heap.update l (Obj.mapSeq f),toks:=t' }:=by
 have q:=PySem.IsL.update e f
 rw[hf]at q
 refine I.write (x:=l) (e:=l) (by rw[hH];exact trivial) (.inl rfl) (fun b' u hb hu=>(b4X s.heap (Obj.mapSeq f) (Ne.symm hb)).trans hu) ⟨_,q⟩ ?_
 exact⟨hz,its',_,hv,q⟩
theorem Inv.lnew{its:List Value}{t':Nat}(I:Inv X pins σ H s)(hv:D8 ys its)(hz:ys.length<=l7) :
  Inv X pins σ (upd H s.heap.objs.size (.lst ys)) { s with heap:=s.heap.push { cls:=.type "list",data:=.seq its.toArray },toks:=t' }:=
 I.laid (fun _ _ q=>i9 _ q) (d9 _) ⟨hz,its,0,hv,t9 _ rfl⟩
theorem Inv.fresh(I:Inv X pins σ H s):H s.heap.objs.size=none:=I.hok.fresh (d9 _)
theorem Inv.lstM(I:Inv X pins σ H s)(hH:H l=some (.lst xs)):xs.length<=l7/\∃(its:List Value) (n:Nat),D8 xs its/\xs.length=its.length/\s.heap.get? l=some { cls:=.type "list",data:=.seq its.toArray n }:=by
 obtain⟨z,its,n,r,e⟩:=I.hok l _ hH
 exact⟨z,its,n,r,r.length,e⟩
theorem b8e{n:Nat}(h:n<=l7):Builtin.List.listTooLong n=false:=by
 unfold Builtin.List.listTooLong
 exact c7q (by omega)
end
section
def b9y:V->List V->Hp->VK->Prop:=fun x vs H Q=>∃l xs y,x=.ref l/\vs=[y]/\H l=some (.lst xs)/\xs.length<l7/\Q .non (upd H l (.lst (xs++[y])))
theorem a6M:MtM X "list.append" b9y:=by
 intro pins s σ H x vs v us Q I rx rv h
 obtain⟨l,xs,y,rfl,rfl,hH,hz,q⟩:=h
 cases rx
 obtain⟨u,rfl,ru⟩:=rv.one
 obtain⟨z,its,n,r,hl,e⟩:=I.lstM hH
 refine c1l F.slot_list_append ⟨_,e,rfl⟩ F.entry_list_append (F.args_list_append_2 _ _) (PySem.list_append l its.toArray n u (by rw[j4];omega)) ⟨e,?_⟩
 refine⟨.non,_,I.lset (its':=its++[u]) hH e (by simp) (r.append (.cons ru .nil)) ?_,rfl,q⟩
 rw[o9,D3]
 omega
def b9x:V->List V->Hp->VK->Prop:=fun x vs H Q=>∃l b xs zs,x=.ref l/\vs=[.ref b]/\H l=some (.lst xs)/\H b=some (.lst zs)/\xs.length+zs.length<=l7/\Q .non (upd H l (.lst (xs++zs)))
theorem b5L:MtM X "list.extend" b9x:=by
 intro pins s σ H x vs v us Q I rx rv h
 obtain⟨l,b,xs,zs,rfl,rfl,hH,hB,hz,q⟩:=h
 cases rx
 obtain⟨u,rfl,ru⟩:=rv.one
 cases ru
 obtain⟨z,its,n,r,hl,e⟩:=I.lstM hH
 obtain⟨z2,its2,n2,r2,hl2,e2⟩:=I.lstM hB
 have hsz:its.toArray.size+its2.toArray.size<=l7:=by rw[j4,j4];omega
 have hlong:¬(!its.toArray.isEmpty&&Builtin.List.listTooLong (its.toArray.size+its2.toArray.size))=true:=by
  rw[b8e hsz,Bool.and_false]
  exact l9
 refine c1l F.slot_list_extend ⟨_,e,rfl⟩ F.entry_list_extend (F.args_list_extend_2 _ _)
  (AutoSeq1.list_extend_list_list_0 l its.toArray n b its2.toArray n2 hlong (by rw[j4];omega) (by omega)) ⟨e,e2,?_⟩
 refine⟨.non,_,I.lset (its':=its++its2) hH e (by simp) (r.append r2) ?_,rfl,q⟩
 rw[o9]
 omega
def c5M:V->List V->Hp->VK->Prop:=fun x vs H Q=>∃l xs y,x=.ref l/\vs=[]/\H l=some (.lst xs)/\xs[xs.length - 1]? = some y/\Q y (upd H l (.lst xs.dropLast))
theorem c3p:MtM X "list.pop" c5M:=by
 intro pins s σ H x vs v us Q I rx rv h
 obtain⟨l,xs,y,rfl,rfl,hH,hy,q⟩:=h
 cases rx
 have hus:=rv.zero
 subst hus
 obtain⟨z,its,n,r,hl,e⟩:=I.lstM hH
 obtain⟨u,hu,ru⟩:=r.get hy
 have hy':its.toArray[its.toArray.size - 1]? = some u:=by
  show its.toArray[its.length - 1]? = some u
  rw[<-L7,<-hl]
  exact hu
 refine c1l F.slot_list_pop ⟨_,e,rfl⟩ F.entry_list_pop (F.args_list_pop_1 _) (MeetsSeq.list_pop_last l its.toArray n u hy' (by rw[j4];omega)) ⟨e,?_⟩
 refine⟨y,_,I.lset (its':=its.dropLast) hH e ?_ r.dropLast ?_,ru,q⟩
 ·show its.toArray.eraseIdxIfInBounds (its.toArray.size - 1)=its.dropLast.toArray
  rw[j4,List.eraseIdxIfInBounds_toArray,b4j]
 ·rw[List.length_dropLast]
  omega
def c5N:R2:=fun x y H Q=>∃l b xs zs,x=.ref l/\y=.ref b/\H l=some (.lst xs)/\H b=some (.lst zs)/\xs.length+zs.length<=l7/\∀p,H p=none->Q (.ref p) (upd H p (.lst (xs++zs)))
theorem c3h:OpR X (W1 .Add) c5N:=by
 intro pins s σ H x y v u Q I rx ry h
 obtain⟨l,b,xs,zs,rfl,rfl,hH,hB,hz,q⟩:=h
 cases rx
 cases ry
 obtain⟨z,its,n,r,hl,e⟩:=I.lstM hH
 obtain⟨z2,its2,n2,r2,hl2,e2⟩:=I.lstM hB
 refine PySem.P.add_list e e2 ?_ (by rw[j4,j4];omega)
 have ea:its.toArray++its2.toArray=(its++its2).toArray:=by simp
 rw[ea]
 exact⟨.ref _,_,I.lnew (t':=s.toks) (r.append r2) (by rw[o9];omega),rfl,q _ I.fresh⟩
end
section
variable {prog:w4}{w:World}{A:F8}{E:Value->g9->Prop}
set_option maxRecDepth 100000 in
end
section
end
end L2
namespace Att
open PySem PySem.W PySem.Calls PyProof.Rows
theorem a7w{P:Params}{h:Heap}:∀(ns:List Int) (vs:List Value),WellAll P h vs (ns.map WData.int)->c1Q vs ns:=by
 intro ns
 induction ns with
 | nil=>
  intro vs w
  rw[a7M]at w
  cases w
  exact .nil
 | cons n ns ih=>
  intro vs w
  rw[F3]at w
  cases w with
  | cons a b=>
   cases a
   exact .cons _ _ (ih _ b)
theorem b5p{l:OpenLaw}{n:Nat}(hn:l.most=some n){P:Params}{h:Heap}{args:List WData}{vals:List Value}
  (hpre:l.row.toRowW.claim.pre args=true) (hwl:WellAll P h vals args) :
  ∃a vs ns,vals=[Value.ref a]/\args=[WData.list (ns.map WData.int)]/\h.get? a=some { cls:=.type "list",data:=.seq vs.toArray }/\c1Q vs ns/\ns.length<=n:=by
 have hsh:WShape.hasAll [] args [.list .int]=true:=(pre_splitW hpre).1
 have hc:l.pre.holds [] { args:=args }=true:=(pre_splitW hpre).2
 obtain⟨d,r,rfl,h1,h2⟩:=hasAllW_cons hsh
 obtain rfl:=hasAllW_nil h2
 obtain⟨xs,rfl,h3⟩:=hasW_list h1
 obtain⟨ns,rfl⟩:=items_int h3
 have hlen:ns.length<=n:=by
  unfold OpenLaw.pre at hc
  have h4:(WTm.not (.lt (.lit (.int (n:Int))) (.len (.arg 0)))).holds [] { args:=[.list (ns.map .int)] }=true:=by
   have h4:=(holds_andW hc).1
   rw[hn]at h4
   exact h4
  have h5:=condW_of h4 (w_not (w_lt w_lit (w_len_list (w_arg rfl))))
  rw[a8]at h5
  refine Nat.le_of_not_lt fun q=>?_
  have q':(n:Int)<((ns.length:Nat):Int):=by omega
  first
   | (rw[c7r q']at h5;exact absurd h5 (by decide))
   | (simp at h5;omega)
 cases hwl with
 | cons w1 w2=>
  cases w2
  cases w1 with
  | list ho hall=>exact⟨_,_,ns,rfl,rfl,ho,a7w ns _ hall,hlen⟩
theorem b5y(l:OpenLaw)(args:List WData):l.row.toRowW.claim.post args (.bool true) args=true:=
 postW_of (r:=l.row.toRowW) (X:=(true == true))
  (show WShape.has [] (.bool true) .bool=true by first | rfl | decide | simp[WShape.has,WShape.arms,WShape.armsAll])
  (show(WTm.eq .res (.lit (.bool true))).value [] { args:=args,res:=some (.bool true),after:=args }=some (.bool (true == true))from w_eq_bool (w_res rfl) w_lit) rfl
theorem b2S{l:OpenLaw}{n:Nat}{q:w4}{loose:List Str}{XP:(Str->Option Value)->Heap->Prop}{YP:World->Heap->Prop}{d:DefRec}
  (hn:l.most=some n) (hdf:d.params.defaults=[])
  (call:∀(w:World) (s₀ s₁:g9) (mg mb:Str->Option Value) (fa:Addr) (o:Obj) (pm cd doc:Value) (a:Addr) (vs:List Value) (ns:List Int),
   Ground q loose [] XP w s₀ mg mb s₁.heap->YP w s₁.heap ->
   s₁.heap.get? fa=some o->o.data=.func (docDef d.name d.params d.body d.scope pm cd doc)->s₁.heap.CodeRec cd d.name->mg d.name=some (.ref fa) ->
   s₁.heap.get? a=some { cls:=.type "list",data:=.seq vs.toArray }->c1Q vs ns->ns.length<=n->s₁.gens = #[] ->
   a6k (model l.prog w) b6E (.call (.ref fa) ⟨[.ref a],[]⟩) (fun r s'=>r=.ok (.ret (.bool true))/\OldK s₁.heap s'.heap/\s'.os=s₁.os/\b0g s'.gens) s₁) :
  WalkO q loose XP YP l.row.toRowW d [] (fun f vs=>b1q f vs):=by
 intro w s₀ s₁ mg mb G Y fa o pm cd doc dV kV ho hd hcd hD hmg hg args vals as hpre hlay hrd hwl hlo
 obtain rfl:dV=.none:=Dflts.none hD hdf
 obtain rfl:kV=.none:=Dflts.noKw hD
 obtain⟨a,vs,ns,rfl,rfl,hobj,hints,hlen⟩:=b5p hn hpre hwl
 refine enter_call (b4t (call w s₀ s₁ mg mb fa o pm cd doc a vs ns G Y ho (fd_plain hd) hcd hmg hobj hints hlen hg) fun r s' hq=>?_)
 obtain⟨rfl,h2,h3,h4⟩:=hq
 exact⟨.inl ⟨.bool true,.bool true,[],rfl,fun _=>rfl,.bool true,b5y l _,fun _=>⟨List.Pairwise.nil,fun _ hm=>(nomatch hm)⟩⟩,h2,h3,h4⟩
section
variable {prog:w4}{w:World}{A:F8}{E:Value->g9->Prop}{s:g9}{K:Frag}
end
end Att
namespace L2
open PySem PySem.Spec PyProof.Rows
theorem a6n:∀ {vs:List Value} {ns:List Int},c1Q vs ns->D8 (ns.map V.int) vs
 | _,_,.nil=>.nil
 | _,_,.cons n t h=>.cons ⟨t,rfl⟩ (a6n h)
def c1e(H:Hp):Prop:=∀b,H b=none\/∃o xs,H b=some (.frz o (.lst xs))
theorem b8o{P:w4}{w:World}{K:Fg}{mg mb:Str->Option Value}{CX:CXT}{k:Nat}{fa a:Addr}{fd:W2}{x:Str}{sp:Sp}{s₁:g9}{vs:List Value}{ns:List Int}
  (KX:K.In s₁.heap) (hns:s₁.heap.Ns t5 mg) (hb:s₁.heap.Ns builtinsNs mb) (hbb:∀x:Str,x ≠ "__name__" -> mb x=a0f x) (hlim:s₁.heap.NoLimit) (hg:s₁.gens = #[])
  (ha:s₁.heap.get? a=some { cls:=.type "list",data:=.seq vs.toArray }) (hi:c1Q vs ns) (hl:ns.length<=l7) (hr:M5 k b6E)
  (F:∀base:Heap,K.In base->base.Ns t5 mg->G8 P w K mg base CX k fa fd [x] sp) (hbind:∀(s:g9) (u:Value),b6F s fd ⟨[u],[]⟩ [(x,u)])
  (hsp:∀H:Hp,c1e H->SqL K H a (ns.map V.int)->sp [.ref a] H (fun v _=>v=.bl true) fun _ _ _=>False)
  (hCX:∀H e s',CX [] H s₁ (fun _ _ _=>False) e s'->False) :
  a6k (model P w) b6E (.call (.ref fa) ⟨[.ref a],[]⟩) (fun r s'=>r=.ok (.ret (.bool true))/\OldK s₁.heap s'.heap/\s'.os=s₁.os/\b0g s'.gens) s₁:=by
 have rv:=a6n hi
 have lenV:=hi.length
 have core:∀H:Hp,c1e H->SqL K H a (ns.map V.int)->HOk P w H s₁.heap->(∀b,H b≠none->b=a)->(H a≠none->K.lookup a=none) ->
   a6k (model P w) b6E (.call (.ref fa) ⟨[.ref a],[]⟩) (fun r s'=>r=.ok (.ret (.bool true))/\OldK s₁.heap s'.heap/\s'.os=s₁.os/\b0g s'.gens) s₁:=by
  intro H hO hS hok hA hK
  have base_of:∀ {b:Addr} {o:Obj},s₁.heap.get? b=some o->H b=none->(b0M s₁.heap H).get? b=some o:=fun e n=>b8u e n
  have noA:∀ {b:Addr} {o:Obj} {es:Array a0g} {ep:Nat},s₁.heap.get? b=some o->o.data=.dict es ep->H b=none:=fun {b o es ep} e d=>by
   cases q:H b with
   | none=>rfl
   | some u=>
    have e':b=a:=hA b (by rw[q];simp)
    subst e'
    rw[ha]at e;cases e
    have d':Data.seq vs.toArray _=Data.dict es ep:=d
    cases d'
  have nsK:∀ {b:Addr} {m:Str->Option Value},s₁.heap.Ns b m->(b0M s₁.heap H).Ns b m:=fun {b m} ⟨o,es,ep,e,d,r⟩=>⟨o,es,ep,base_of e (noA e d),d,r⟩
  have hKb:K.In (b0M s₁.heap H):=fun b o e=>base_of (KX b o e) (by
   cases q:H b with
   | none=>rfl
   | some u=>
    have e':b=a:=hA b (by rw[q];simp)
    subst e'
    rw[hK (by rw[q];simp)]at e;cases e)
  have hM:Mod K mg (b0M s₁.heap H):=⟨hKb,nsK hns,⟨mb,nsK hb,hbb⟩,let⟨mc,h1,h2⟩:=hlim; ⟨mc,nsK h1,h2⟩⟩
  have e0:b4r P w K mg (b0M s₁.heap H) b6E [] s₁ H:=⟨rfl,hM,fun b o e=>c0A e,Nat.le_of_eq (b5V _ _),trivial,fun b hb=>absurd (show b∈([]:List Addr)from hb) (by simp),hok,.of_eq hg⟩
  refine b4t ((F _ hKb (nsK hns)).run b6E [] s₁ H ⟨[.ref a],[]⟩ [.ref a] [.ref a] _ _ hr e0 (hbind s₁ (.ref a)) (.cons rfl .nil) (hsp H hO hS)) fun r s' h=>?_
  cases r with
  | error e=>exact(hCX H e s' h).elim
  | ok fl=>
   cases fl with
   | next=>exact False.elim h
   | brk=>exact False.elim h
   | cont=>exact False.elim h
   | ret u=>
    obtain⟨v,H',os,bare,un,hok',r',q⟩:=h
    have q':v=.bl true:=q
    subst q'
    obtain rfl:u=Value.bool true:=r'
    refine⟨rfl,OldK.of_keep fun b o e=>?_,os,bare⟩
    cases q:H b with
    | none=>exact un.keep b o e q (by intro z;exact absurd (show b∈([]:List Addr)from z) (by simp)) (by simp)
    | some u=>
     rcases hO b with z | ⟨ob,xs,z⟩
     ·rw[q]at z;cases z
     ·have z2:=un.frzs b ob _ z
      obtain⟨e1,_⟩:=hok b _ z
      obtain⟨e2,_⟩:=hok' b _ z2
      rw[e]at e1;cases e1
      exact e2
 cases hk:K.lookup a with
 | some o=>
  have e:=KX a o hk
  rw[ha]at e
  cases e
  refine core (fun _=>none) (fun _=>.inl rfl) (.inr ⟨_,vs.toArray,_,hk,rfl,rfl,rfl,by rw[j4,lenV];exact hl,by simpa using rv⟩) (fun b u z=>by have z':(none:Option HO)=some u:=z;cases z') (fun b z=>absurd rfl z) fun z=>absurd rfl z
 | none=>
  refine core (fun b=>if b=a then some (.frz { cls:=.type "list",data:=.seq vs.toArray } (.lst (ns.map V.int)))else none) (fun b=>?_) (.inl (.inr ⟨{ cls:=.type "list",data:=.seq vs.toArray },if_pos rfl⟩)) (fun b u z=>?_) (fun b z=>?_) fun _=>hk
  ·by_cases hb:b=a
   ·exact .inr ⟨_,_,if_pos hb⟩
   ·exact .inl (if_neg hb)
  ·by_cases hb:b=a
   ·have z':=(if_pos hb).symm.trans z
    cases z'
    subst hb
    exact⟨ha,by rw[a8];exact hl,vs,_,rv,ha⟩
   ·have z':=(if_neg hb).symm.trans z
    cases z'
  ·by_cases hb:b=a
   ·exact hb
   ·exact absurd (if_neg hb) z
theorem b9f{l:PySem.W.OpenLaw}{n k:Nat}{q:w4}{loose:List Str}{XP:(Str->Option Value)->Heap->Prop}{YP:World->Heap->Prop}{d:DefRec}{K:Params->Fg}{CX:World->CXT}{sp:World->Sp}{x:Str}
  (hn:l.most=some n) (hn2:n<=l7) (hdf:d.params.defaults=[]) (hr:M5 k b6E)
  (hY:∀(w:World) (h:Heap),YP w h->(K w.params).In h)
  (F:∀(w:World) (mg:Str->Option Value) (fa:Addr) (h:Heap),(K w.params).In h->h.Ns t5 mg->mg d.name=some (.ref fa) ->
   ∃fd:W2,(∀(s:g9) (u:Value),b6F s fd ⟨[u],[]⟩ [(x,u)]) /\
    ∀base:Heap,(K w.params).In base->base.Ns t5 mg->G8 l.prog w (K w.params) mg base (CX w) k fa fd [x] (sp w))
  (hsp:∀(w:World) (H:Hp) (a:Addr) (ns:List Int),ns.length<=n->c1e H->SqL (K w.params) H a (ns.map V.int)->sp w [.ref a] H (fun v _=>v=.bl true) fun _ _ _=>False)
  (hCX:∀(w:World) (H:Hp) (s:g9) (e:Value) (s':g9),CX w [] H s (fun _ _ _=>False) e s'->False) :
  PySem.W.WalkO q loose XP YP l.row.toRowW d [] (fun f vs=>b1q f vs):=by
 refine Att.b2S hn hdf fun w s₀ s₁ mg mb fa o pm cd doc a vs ns G Y ho hd hcd hmg hobj hints hlen hg=>?_
 have KX:=hY w _ Y
 obtain⟨fd,hb,hF⟩:=F w mg fa _ KX G.T.g hmg
 exact b8o KX G.T.g G.T.b G.T.builtins G.T.nolimit hg hobj hints (A9 hlen hn2) hr hF hb (fun H hO hS=>hsp w H a ns hlen hO hS) fun H e s'=>hCX w H s₁ e s'
abbrev CX0:CXT:=fun _ _ _ _ _ _=>False
abbrev E0:XK:=fun _ _ _=>False
theorem b7X{X:Cx}:a6Y CX0 X E0:=fun _ _ _ _ _ _ _ h=>h.elim
structure Fun(K:Fg)(x qual:Str)(st:Stmt)(f:Addr)(fd:W2):Prop where
 ex:∃(oc:Value) (od:Option Addr) (kV doc pm:Value) (an:Option Addr) (cdv ct:Value) (osl:Array (Option Value)),
  fd=Y2 x qual (a1S st) (a0m st) (g8 st) .none kV doc pm an cdv ct/\K.lookup f=some ⟨oc,od,.func fd,osl⟩/\a4r K cdv qual=true
 kp:P8 K (.ref f)=true
section
variable {P:w4}{w:World}{K:Fg}{mg:Str->Option Value}{base:Heap}
theorem Fun.ok{x qual:Str}{st:Stmt}{f:Addr}{fd:W2}{N ps:List Str}{k:Nat}{sp:Sp}(F:Fun K x qual st f fd)(S:v6 N ps (g8 st))(len:∀vs H Q E,sp vs H Q E->vs.length=ps.length)
  (hbody:∀(cdv:Value) (A:F8) (outer:List Env) (s:g9) (H:Hp) (vs:List V) (Q:VK) (E:XK),M5 k (A.deeper (b1B qual (g8 st) s.heap.objs.size f cdv))->sp vs H Q E ->
   ∃t,PSs (b2H CX0 P w K mg base N qual (g8 st) f cdv A outer s H E).nox (a0m st) t/\t { nx:=fun _ H'=>Q .non H',rt:=Q } (a5w N vs) H):G8 P w K mg base CX0 (k+1) f fd ps sp:=by
 obtain⟨oc,od,kV,doc,pm,an,cdv,ct,osl,rfl,lk,hcd⟩:=F.ex
 refine c5n lk hcd S len fun A outer s H vs Q E hr hsp=>?_
 obtain⟨t,h,q⟩:=hbody cdv A outer s H vs Q E hr hsp
 exact⟨t,h.nox,q⟩
theorem Fun.binds{x qual:Str}{st:Stmt}{f:Addr}{fd:W2}{ps:List Str}(F:Fun K x qual st f fd)
  (h:∀(kV doc pm:Value) (an:Option Addr) (cdv ct:Value) (us:List Value),us.length=ps.length->bindArgs (Y2 x qual (a1S st) (a0m st) (g8 st) .none kV doc pm an cdv ct) ⟨us,[]⟩=pure (ps.zip us)):a3l K fd ps []:=by
 obtain⟨oc,od,kV,doc,pm,an,cdv,ct,osl,rfl,lk,hcd⟩:=F.ex
 exact .all (h kV doc pm an cdv ct)
theorem c3I{x qual:Str}{st:Stmt}{f:Addr}{oc:Value}{od an:Option Addr}{osl:Array (Option Value)}{kV doc pm cdv ct:Value}(l:K.lookup f=some ⟨oc,od,.func (Y2 x qual (a1S st) (a0m st) (g8 st) .none kV doc pm an cdv ct),osl⟩)
  (c:a4r K cdv qual=true) (k:P8 K (.ref f)=true):Fun K x qual st f (Y2 x qual (a1S st) (a0m st) (g8 st) .none kV doc pm an cdv ct):=⟨⟨oc,od,kV,doc,pm,an,cdv,ct,osl,rfl,l,c⟩,k⟩
end
theorem a7m{A:F8}{k:Nat}(hr:M5 k A):A.units+1<cLine:=Nat.lt_of_le_of_lt (Nat.add_le_add_left (by decide:1<=64) _) hr.units
section
variable {X:Cx}
end
theorem c3C{A B:Prop}(h:B):if false=true then A else B:=by
 rw[if_neg l9]
 exact h
theorem b2z{A B:Prop}(h:A):if true=true then A else B:=by
 rw[if_pos rfl]
 exact h
theorem a0Y{c A B:Prop}[Decidable c](h1:c->A)(h2:¬c->B):if c then A else B:=by
 by_cases h:c
 ·rw[if_pos h]
  exact h1 h
 ·rw[if_neg h]
  exact h2 h
def o6(H H':Hp):Prop:=∀b o,H b=some o->H' b=some o
theorem o6.refl(H:Hp):o6 H H:=fun _ _ h=>h
theorem o6.trans{H H1 H2:Hp}(a:o6 H H1)(b:o6 H1 H2):o6 H H2:=fun c o h=>b c o (a c o h)
theorem o6.free{H H':Hp}(e:o6 H H'){l:Addr}(h:H' l=Option.none):H l=Option.none:=by
 cases q:H l with
 | none=>rfl
 | some o=>
  rw[e l o q]at h
  cases h
section
variable {κ:Type}[DecidableEq κ]
theorem b9g{kvs:List (κ×V)}{k:κ}{v:V}(h:U3 kvs k=some v):k∈kvs.map (·.1):=by
 have q:(kvs.any fun kv=>decide (kv.1=k))=true:=by
  rw[a2k,h]
  all_goals rfl
 obtain⟨p,hp,e⟩:=a1d.mp q
 exact u8.mpr ⟨p,hp,of_decide_eq_true e⟩
end
end L2
set_option maxHeartbeats 4000000
namespace L2
open PySem PySem.Spec PyProof.Rows
variable{env:Env}{scope:Scope}{X:Cx}{w:World}{s:g9}{elt iter:Expr}{elts ifs:List Expr}{p pos tp:Pos}{pins:List (Addr×Obj)}{σ:St}{H:Hp}{cl:List (Str×Addr)}{fp:List Addr}{tt:TT}{te:TE}{xs:List V}{u:Value}{ps:List Str}{sp:Sp}
theorem b0W:∀(names:List (Str×a4u)) (cs:List (Str×Addr)),(∀y∈names,y.2=.free->∃c,env.cells.lookup y.1=some c) ->
  (∀y c,cs.lookup y=some c->env.cells.lookup y=some c) ->
  ∃cl,(forIn names cs (fun(x:Str×a4u) (r:List (Str×Addr))=>(if(x.2 == NameKind.free)=true then (do let c <-cellOf env x.1;pure (ForInStep.yield ((x.1,c)::r)))else pure (ForInStep.yield r):Sem (ForInStep (List (Str×Addr)))))=(pure cl:Sem (List (Str×Addr)))) /\
   (∀y c,cl.lookup y=some c->env.cells.lookup y=some c)/\(∀y,(y,NameKind.free)∈names\/(cs.lookup y).isSome=true->(cl.lookup y).isSome=true)
 | [],cs,_,h=>⟨cs,rfl,h,fun y q=>q.elim (fun z=>absurd z (by simp)) id⟩
 | (n,k)::r,cs,hc,h=>by
  by_cases e:(k == NameKind.free)=true
  ·have ek:k=.free:=by simpa using e
   obtain⟨c,hcc⟩:=hc (n,k) D0 ek
   have h':∀y d,((n,c)::cs).lookup y=some d->env.cells.lookup y=some d:=by
    intro y d q
    rw[D4]at q
    cases eq:y == n with
    | true=>
     rw[eq]at q
     have e2:y=n:=by simpa using eq
     cases q;rw[e2];exact hcc
    | false=>rw[eq]at q;exact h y d q
   obtain⟨cl,h1,h2,h3⟩:=b0W r ((n,c)::cs) (fun y hy=>hc y (C3 _ hy)) h'
   refine⟨cl,?_,h2,fun y q=>h3 y ?_⟩
   ·rw[c4f]
    show((if(k == NameKind.free)=true then (do let c <-cellOf env n;pure (ForInStep.yield ((n,c)::cs)))else pure (ForInStep.yield cs):Sem (ForInStep (List (Str×Addr)))) >>= _)=_
    rw[if_pos e]
    have ec:cellOf env n=pure c:=by unfold cellOf;rw[hcc]
    rw[ec]
    exact h1
   ·rcases q with q | q
    ·rcases c8.mp q with q | q
     ·cases q
      right
      simp[D4]
     ·exact .inl q
    ·right
     rw[D4]
     cases y == n
     ·exact q
     ·rfl
  ·obtain⟨cl,h1,h2,h3⟩:=b0W r cs (fun y hy=>hc y (C3 _ hy)) h
   refine⟨cl,?_,h2,fun y q=>h3 y ?_⟩
   ·rw[c4f]
    show((if(k == NameKind.free)=true then (do let c <-cellOf env n;pure (ForInStep.yield ((n,c)::cs)))else pure (ForInStep.yield cs):Sem (ForInStep (List (Str×Addr)))) >>= _)=_
    rw[if_neg e]
    exact h1
   ·rcases q with q | q
    ·rcases c8.mp q with q | q
     ·cases q
      exact absurd rfl e
     ·exact .inl q
    ·exact .inr q
theorem a5f(hc:∀y∈scope.names,y.2=.free->∃c,env.cells.lookup y.1=some c) :
  ∃cl,closureFor scope env=pure cl/\(∀y c,cl.lookup y=some c->env.cells.lookup y=some c)/\∀y,(y,NameKind.free)∈scope.names->(cl.lookup y).isSome=true:=by
 obtain⟨cl,h1,h2,h3⟩:=b0W scope.names [] hc (fun y c q=>by cases q)
 refine⟨cl,?_,h2,fun y q=>h3 y (.inl q)⟩
 unfold closureFor
 first
  | exact h1
  | (show(forIn scope.names [] _ >>= fun r=>pure r)=_;rw[h1];rfl)
theorem K6{env:Env}:∀ {names:List (Str×a4u)} {y:Str} {k:a4u},
  (names.map fun(n,k)=>if(k == NameKind.free&&env.scope.kind == .function&&env.kindOf n == some .cell)then (n,NameKind.cell)else (n,k)).lookup y=some k ->
  names.lookup y=some k\/(names.lookup y=some .free/\k=.cell)
 | [],_,_,h=>by cases h
 | (n,k0)::r,y,k,h=>by
  have ih := @K6 env r y k
  rw[F3]at h
  rw[D4]
  cases hx:y == n with
  | true=>
   by_cases hc:(k0 == NameKind.free&&env.scope.kind == .function&&env.kindOf n == some .cell)=true
   ·have e2:k0=.free:=by simp at hc;exact hc.1.1
    dsimp only at h
    rw[if_pos hc,D4,hx]at h
    cases h
    exact .inr ⟨by rw[e2],rfl⟩
   ·dsimp only at h
    rw[if_neg hc,D4,hx]at h
    exact .inl h
  | false=>
   by_cases hc:(k0 == NameKind.free&&env.scope.kind == .function&&env.kindOf n == some .cell)=true
   ·dsimp only at h
    rw[if_pos hc,D4,hx]at h
    exact ih h
   ·dsimp only at h
    rw[if_neg hc,D4,hx]at h
    exact ih h
def hid(x:Str)(N:List Str):List Str:=N.map fun y=>if y=x then ("." : Str)++x else y
def Q4(X:Cx)(scope:Scope)(cl:List (Str×Addr))(C:Addr)(x:Str)(fp:List Addr)(s3:g9)(H3:Hp):Cx:=
 { X with N:=x::hid x X.N,s₀:=s3,H₀:=H3,env:=b6u scope cl C X.env,outer:=X.stack,stack:=X.stack,ex:=fp,fn:=fun _=>false,pn:=[],xe:=fun _ _=>False }
structure K8(N:List Str)(osc sc:Scope)(x:Str):Prop where
 kind:sc.kind=.function
 cell:∀y∈sc.names,y.2≠.cell
 names:∀y∈sc.names,y.2=.local->sc.names.lookup y.1=some .local
 own:sc.names.lookup x=some .local
 fr:∀y∈sc.names,y.2=.free->osc.names.lookup y.1=some .cell\/osc.names.lookup y.1=some .free
 see:∀y∈hid x N,sc.names.lookup y≠some .local
 dot:sc.names.lookup (("." : Str)++x)=none
 nd:(x::hid x N).Nodup
def S9(wi:TI)(tt:TT)(te:TE):TE:=fun σ H Q=>wi σ H fun J H1=>∀D,H1 D=none->∃W:Nat->Nat->List V->Hp->Prop,
 (∃m,W 0 m [] (upd H1 D (.lst [])))/\∀i m ys H2,W i m ys H2->H2 D=some (.lst ys) /\
  ((J.stop i H2 /\ Q (.ref D) H2) \/ (J.go i H2 /\ ∀ x H3,J.yld i H2 x H3 -> tt (some x :: σ) H3 fun ok H4 => if ok = true then
    te (some x::σ) H4 (fun y H5=>H5 D=some (.lst ys)/\ys.length<l7/\∃m',m'<m/\W (i+1) m' (ys++[y]) (upd H5 D (.lst (ys++[y]))))
    else ∃m',m'<m/\W (i+1) m' ys H4))
def PTs(X:Cx)(ifs:List Expr)(t:TT):Prop:=
 ∀(pins:List (Addr×Obj)) (s:g9) (σ:St) (H:Hp) (Q:Bool->Hp->Prop),Inv X pins σ H s->t σ H Q ->
  wpAny (model X.prog X.w) X.A (forIn ifs true fun c r=>if r=true then do let ok <-isTrue c X.env (eval c X.env);pure (ForInStep.yield ok)else pure (ForInStep.yield r)) (TP X pins σ Q) X.xe s
def Q1:TT:=fun _ H Q=>Q true H
theorem b9G:PTs X [] Q1:=fun _ _ _ H _ I h=>wpAny_tests_nil ⟨H,I,h⟩
theorem b9F{c:Expr}{t:TT}(h:PT X c t):PTs X [c] t:=fun pins s σ H Q I hq=>wpAny_tests_one (h pins s σ H Q I hq)
theorem a9X{prog:w4}{A:F8}{R:c4t->g9->Prop}{target:Expr}{it acc:Value}(I:Nat->g9->Prop)
  (turn:∀n s,I n s->wpAny (model prog w) A (c4r it) (fun r s₁=>match r with
   | none=>R (.ok .next) s₁
   | some v=>wpAny (model prog w) A (a3s target it v) (fun _ s₂=>wpAny (model prog w) A (a9B target env v) (fun _ s₃=>
     wpAny (model prog w) A (forIn ifs true fun c r=>if r=true then do let ok <-isTrue c env (eval c env);pure (ForInStep.yield ok)else pure (ForInStep.yield r)) (fun ok s₄=>
      if ok=true then wpAny (model prog w) A (eval elt env) (fun x s₅=>
       wpAny (model prog w) A (call (.builtin "list.append") [acc,x]) (fun _ s₆=>∃m,m<n/\I m s₆) (fun _ _=>False) s₅) (fun _ _=>False) s₄
      else ∃m,m<n/\I m s₄) (fun _ _=>False) s₃) (fun _ _=>False) s₂) (fun _ _=>False) s₁) (fun _ _=>False) s)
  (n:Nat) (h:I n s) :
  a6k (model prog w) A (.compLoop (.ListComp elt [⟨target,iter,ifs,0⟩] scope pos) 0 it acc env) R s:=by
 have up:∀ {α:Type} {m:Sem α} {Q:α->g9->Prop} {E:Value->g9->Prop} {s:g9},wpAny (model prog w) A m Q (fun _ _=>False) s->wpAny (model prog w) A m Q E s:=
  fun h=>U6 h (fun _ _ q=>q) fun _ _ f=>f.elim
 refine codeAny_loop rfl I (fun n s hI=>?_) n h
 refine wpAny_noted ?_
 rw[compTurn_list]
 refine c5 (c1N (c5 (up (thn (turn n s hI) fun r s₁ h₁=>?_))))
 cases r with
 | none=>exact o0 h₁
 | some v=>
  refine c5 (up (thn h₁ fun _ s₂ h₂=>c5 (up (thn h₂ fun _ s₃ h₃=>c5 (up (thn h₃ fun ok s₄ h₄=>?_))))))
  cases ok with
  | false=>exact o0 ⟨rfl,by simpa using h₄⟩
  | true=>
   rw[if_pos rfl]at h₄
   exact c5 (c5 (up (thn h₄ fun x s₅ h₅=>c5 (up (thn h₅ fun _ s₆ h₆=>o0 (o0 ⟨rfl,h₆⟩))))))
section
variable {x:Str}{px:Pos}
theorem b8C{s3:g9}{h4:Heap}{tk:Nat}(hc:K8 X.N X.env.scope scope x)(I:Inv X pins σ H s3)
  (hcl:∀y c,cl.lookup y=some c->X.env.cells.lookup y=some c) (hcl2:∀y,(y,NameKind.free)∈scope.names->(cl.lookup y).isSome=true)
  (fpo:∀b∈fp,a4o X pins H b) (fpl:∀b∈fp,b<s3.heap.objs.size)
  (hn:h4.Ns s3.heap.objs.size (fun _=>none)) (k:∀b o,s3.heap.get? b=some o->h4.get? b=some o) :
  Inv (Q4 X scope cl s3.heap.objs.size x fp s3 H) [] (none::σ) H { s3 with heap:=h4,toks:=tk }:=by
 have low:∀x y,(Q4 X scope cl s3.heap.objs.size x fp s3 H).env.cells.lookup y=cl.lookup y:=fun _ _=>rfl
 have below:∀y c,cl.lookup y=some c->c<s3.heap.objs.size:=fun y c e=>by
  obtain⟨v,q⟩:=I.cell y c (hcl y c e)
  exact q.lt
 have kinds:∀y,((Q4 X scope cl s3.heap.objs.size x fp s3 H).env.kindOf y=some .cell\/(Q4 X scope cl s3.heap.objs.size x fp s3 H).env.kindOf y=some .free)->scope.names.lookup y=some .free:=by
  intro y hy
  rcases hy with hy | hy
  ·rcases K6 hy with q | ⟨q,_⟩
   ·exact absurd rfl (hc.cell _ (z8 q))
   ·exact q
  ·rcases K6 hy with q | ⟨q,z⟩
   ·exact q
   ·cases z
 refine⟨⟨I.ok.mod,?_,I.ok.glob,I.ok.blt,d9 _,fun y z c h1 h2=>?_,fun y hy=>?_,fun y c h=>?_,I.ok.hd,I.ok.frames,.inl rfl,fun b hb=>⟨?_,fun y c e z=>?_⟩,fun b o e=>I.bs b o e,A9 I.ok.bsz I.sz,fun b o e hb=>?_,fun b hb hf=>?_,I.stack,I.stkFree⟩,
  rfl,I.bare,Un.kept k,⟨_,hn,fun i y v h1 h2 h3=>?_⟩,fun y c e=>?_,I.fresh,fun y c e=>?_,fun p hp=>absurd (show p∈([]:List (Addr×Obj))from hp) (by simp),I.hok.kept k,?_⟩
 ·exact hc.kind
 ·exact I.ok.inj y z c (hcl _ _ h1) (hcl _ _ h2)
 ·have:=hcl2 y (z8 (kinds y hy))
  exact T5.mp this
 ·cases h
 ·exact u7 (fpl b hb)
 ·exact(fpo b hb).2.2.2.2.1 y c (hcl y c e) z
 ·rcases(fpo b hb).2.2.2.1 with q | q
  ·exact I.ok.noex b o e q
  ·exact absurd (v7 (i8 (I.ok.bs b o e).1) q) (E2 _)
 ·rcases c8.mp (I.stkSub b hf)with e | e
  ·exact(fpo b hb).2.1 e
  ·exact(fpo b hb).2.2.1 e
 ·-- the names
  have h1:(x::hid x X.N)[i]? = some y:=h1
  cases i with
  | zero=>cases h2
  | succ i=>
   have h1:(hid x X.N)[i]? = some y:=h1
   have h2:σ[i]? = some (some v):=h2
   have my:y∈hid x X.N:=T6 h1
   have h3:(a6j scope X.env).names.lookup y=some .local\/(a6j scope X.env).names.lookup y=some .cell\/(a6j scope X.env).names.lookup y=some .free:=h3
   have hf:scope.names.lookup y=some .free:=by
    rcases h3 with q | q
    ·rcases K6 q with q | ⟨_,z⟩
     ·exact absurd q (hc.see y my)
     ·cases z
    ·exact kinds y q
   have hy:X.N[i]? = some y:=by
    unfold hid at h1
    rw[b8]at h1
    cases e:X.N[i]? with
    | none=>rw[e]at h1;cases h1
    | some z=>
     rw[e]at h1
     by_cases ez:z=x
     ·rw[a3S,if_pos ez]at h1
      have h1:=Option.some.inj h1
      subst h1
      rw[hc.dot]at hf
      cases hf
     ·rw[a3S,if_neg ez]at h1
      exact h1
   obtain⟨m,_,hl⟩:=I.loc
   obtain⟨c,hcc⟩:=T5.mp (hcl2 y (z8 hf))
   have vis:Vis X.env.scope y:=by
    rcases hc.fr _ (z8 hf) rfl with q | q
    ·exact .inr (.inl q)
    ·exact .inr (.inr q)
   obtain⟨u,ru,lk⟩:=hl i y v hy h2 vis
   refine⟨u,ru,.inr ⟨?_,c,hcc,?_⟩⟩
   ·rcases h3 with q | q
    ·rcases K6 q with q | ⟨_,z⟩
     ·exact absurd q (hc.see y my)
     ·cases z
    ·exact q
   ·have hce:=hcl y c hcc
    rcases lk with ⟨q,_⟩ | ⟨_,c',e',z⟩
    ·rcases hc.fr _ (z8 hf) rfl with q' | q'
     ·have q:X.env.scope.names.lookup y=some .local:=q
      rw[show X.env.scope.names.lookup y=some NameKind.cell from q']at q
      cases q
     ·have q:X.env.scope.names.lookup y=some .local:=q
      rw[show X.env.scope.names.lookup y=some NameKind.free from q']at q
      cases q
    ·rw[e']at hce
     cases hce
     obtain⟨o,ho,hd⟩:=z
     exact⟨o,k _ _ ho,hd⟩
 ·obtain⟨v,o,ho,hd⟩:=I.cell y c (hcl y c e)
  exact⟨v,o,k _ _ ho,hd⟩
 ·exact I.freeC y c (hcl y c e)
 ·show(none::σ).length=(x::hid x X.N).length
  have:=I.len
  simp[hid,this]
theorem a8N{H1:Hp}{s2:g9}{it:Addr}{tn:Nat->Heap->Prop}{J:It}{Q:VK}{E:Value->g9->Prop}
  {RR:Value->Addr->c4t->g9->Prop} (hc:K8 X.N X.env.scope scope x) (hcalm:X.calm=true)
  (hcl:∀y c,cl.lookup y=some c->X.env.cells.lookup y=some c) (hcl2:∀y,(y,NameKind.free)∈scope.names->(cl.lookup y).isSome=true)
  (ht:∀C fp s3 H3,PTs (Q4 X scope cl C x fp s3 H3) ifs tt) (he:∀C fp s3 H3,PE (Q4 X scope cl C x fp s3 H3) elt te)
  (I:Inv X pins σ H1 s2) (T:b1i X.prog X.w X.K (.Name x px) J fp it tn) (st:tn 0 s2.heap) (fpo:∀b∈fp,a4o X pins H1 b)
  (h:∀D,H1 D=none->∃W:Nat->Nat->List V->Hp->Prop,
   (∃m,W 0 m [] (upd H1 D (.lst [])))/\∀i m ys H2,W i m ys H2->H2 D=some (.lst ys) /\
   ((J.stop i H2 /\ Q (.ref D) H2) \/ (J.go i H2 /\ ∀ x H3,J.yld i H2 x H3 -> tt (some x :: σ) H3 fun ok H4 => if ok = true then
     te (some x::σ) H4 (fun y H5=>H5 D=some (.lst ys)/\ys.length<l7/\∃m',m'<m/\W (i+1) m' (ys++[y]) (upd H5 D (.lst (ys++[y]))))
     else ∃m',m'<m/\W (i+1) m' ys H4)))
  (hRR:∀D C s' H' m,Inv X pins σ H' s'->s'.heap.Ns C m->H' C=none->C≠X.env.locals->X.s₀.heap.objs.size<=C->(∀y c,X.env.cells.lookup y=some c->c≠C)->(∀p∈X.pn++pins,p.1≠C)->Q (.ref D) H'->RR (.ref D) C (.ok .next) s') :
  wpAny (model X.prog X.w) X.A (newList []) (fun acc s₃=>wpAny (model X.prog X.w) X.A (newFunctionEnv scope X.env.globals cl [] X.env.qual none .none (some X.env)) (fun cenv s₄=>
   a6k (model X.prog X.w) X.A (.compStart (.ListComp elt [⟨.Name x px,iter,ifs,0⟩] scope pos) 0 (.ref it) acc { cenv with scope:=a6j scope X.env }) (RR acc cenv.locals) s₄) E s₃) E s2:=by
 refine O2 (hd:=by size_fits) ?_
 have I3:=I.lnew (ys:=[]) (its:=[]) (t':=s2.toks) .nil (by show 0<=l7;exact L5 _)
 obtain⟨W,⟨m0,w0⟩,turn⟩:=h _ I.fresh
 generalize hD:s2.heap.objs.size=D at I3 w0 turn ⊢
 generalize hs3:({ s2 with heap:=s2.heap.push { cls:=.type "list",data:=.seq ([]:List Value).toArray } }:g9)=s3
 have hs3':({ s2 with heap:=s2.heap.push { cls:=.type "list",data:=.seq ([]:List Value).toArray },toks:=s2.toks }:g9)=s3:=hs3
 rw[hs3']at I3
 have keep3:∀b o,s2.heap.get? b=some o->s3.heap.get? b=some o:=fun b o e=>by rw[<-hs3];exact i9 _ e
 have fpl:∀b∈fp,b<s3.heap.objs.size:=fun b hb=>by
  obtain⟨o,e,_⟩:=T.obj _ _ st b hb
  exact i8 (keep3 b o e)
 have fpD:∀b∈fp,b≠D:=fun b hb z=>by
  obtain⟨o,e,_⟩:=T.obj _ _ st b hb
  exact absurd (i8 e) (by rw[z,hD];exact E2 _)
 have fpo3:∀b∈fp,a4o X pins (upd H1 D (.lst [])) b:=fun b hb=>⟨by rw[c9 (fpD b hb)];exact(fpo b hb).1,(fpo b hb).2⟩
 show wpAny _ _ _ _ _ s3
 refine c5C hc.cell (by intro y hy;simp at hy) (fun h₁ hns₁ hsb₁=>?_) hc.kind
 dsimp only[newEnv]at hns₁ hsb₁ ⊢
 have keep4:∀b o,s3.heap.get? b=some o->h₁.get? b=some o:=fun b o e=>hsb₁.extBut b o (u7 (i8 e)) (i9 _ e)
 have I4:=b8C (tk:=s3.toks+([]:List (Str×Value)).length) hc I3 hcl hcl2 fpo3 fpl hns₁ keep4
 have st4:tn 0 h₁:=T.keep _ _ _ st fun b hb o e=>keep4 b o (keep3 b o e)
 have loop:∀s₄:g9,s₄={ s3 with heap:=h₁,toks:=s3.toks+([]:List (Str×Value)).length } ->
   a6k (model X.prog X.w) X.A (.compLoop (.ListComp elt [⟨.Name x px,iter,ifs,0⟩] scope pos) 0 (.ref it) (.ref D) (b6u scope cl s3.heap.objs.size X.env)) (RR (.ref D) s3.heap.objs.size) s₄:=by
  rintro s₄ rfl
  have stat:∀ {H':Hp},(∀b∈fp,H' b=none)->∀b∈fp,a4o (Q4 X scope cl s3.heap.objs.size x fp s3 (upd H1 D (.lst []))) [] H' b:=fun hn b hb=>
   ⟨hn b hb,u7 (fpl b hb),fun hf=>by
    rcases c8.mp (I3.stkSub b hf)with e | e
    ·exact(fpo b hb).2.1 e
    ·exact(fpo b hb).2.2.1 e,.inl hb,fun y c e=>(fpo b hb).2.2.2.2.1 y c (hcl y c e),fun p hp=>absurd (show p∈([]:List (Addr×Obj))from hp) (by simp)⟩
  refine a9X (env:=b6u scope cl s3.heap.objs.size X.env) (fun n s'=>∃i ys H',Inv (Q4 X scope cl s3.heap.objs.size x fp s3 (upd H1 D (.lst []))) [] (none::σ) H' s'/\tn i s'.heap/\(∀b∈fp,H' b=none)/\W i n ys H') ?_ m0
   ⟨0,[],_,I4,st4,fun b hb=>(fpo3 b hb).1,w0⟩
  rintro n s5 ⟨i,ys,H5,I5,st5,fr5,w5⟩
  obtain⟨hDy,alt⟩:=turn i n ys H5 w5
  rcases alt with ⟨stop,q⟩ | ⟨go,step⟩
  ·refine U6 (T.done (Q4 X scope cl s3.heap.objs.size x fp s3 (upd H1 D (.lst []))) rfl rfl rfl hcalm i [] s5 _ H5 (fun _ _=>False) I5 (stat fr5) st5 stop) (fun r s6 ⟨hr,I6⟩=>?_) fun _ _ f=>f
   subst hr
   obtain⟨m6,n6,_⟩:=I6.loc
   have J6:Inv X pins σ H5 s6:=by
    refine I3.call' (ch:=fp) I6.os I6.base I6.hok I6.bare fun b hb=>?_
    obtain⟨_,f1,f2,f3,f4,f5⟩:=fpo3 b hb
    exact⟨f3,f1,f4,f5⟩
   refine hRR D _ s6 H5 m6 J6 n6 I6.free (b6p I3.lt) I3.sz (fun y c e z=>?_) (fun p hp z=>?_) q
   ·obtain⟨v,q⟩:=I3.cell y c e
    exact absurd q.lt (by rw[z];exact E2 _)
   ·exact absurd (i8 (I3.pin p hp).1) (by rw[z];exact E2 _)
  ·refine U6 (T.item (Q4 X scope cl s3.heap.objs.size x fp s3 (upd H1 D (.lst []))) rfl rfl rfl hcalm i [] s5 _ H5 (fun _ _=>False) I5 (stat fr5) st5 go) (fun r s6 ⟨u,hr,h6⟩=>?_) fun _ _ f=>f
   subst hr
   refine thn h6 fun _ s6 ⟨xv,H6,I6,r6,y6,st6,fr6⟩=>?_
   have I6':=I6.pinned (stat fr6) (T.obj _ _ st6)
   refine b3b (a5v (i:=0) I6' ?nd rfl (.inl ?loc) r6 (fun s7 I7=>?_) (.inr ?loc))
   case nd=>exact hc.nd
   case loc=>exact a0t hc.own
   have I7:Inv (Q4 X scope cl s3.heap.objs.size x fp s3 (upd H1 D (.lst []))) ([]++a4T fp s6.heap) (some xv::σ) H6 s7:=I7
   have again:∀ {s8:g9} {H8:Hp} {ys8:List V},Inv (Q4 X scope cl s3.heap.objs.size x fp s3 (upd H1 D (.lst []))) ([]++a4T fp s6.heap) (some xv::σ) H8 s8->(∃m',m'<n/\W (i+1) m' ys8 H8) ->
     ∃m,m<n/\∃i ys H',Inv (Q4 X scope cl s3.heap.objs.size x fp s3 (upd H1 D (.lst []))) [] (none::σ) H' s8/\tn i s8.heap/\(∀b∈fp,H' b=none)/\W i m ys H':=by
    rintro s8 H8 ys8 I8 ⟨m',hm,w8⟩
    refine⟨m',hm,i+1,ys8,H8,(I8.unpinned (pins:=[])).weak rfl (fun j v e=>?_),T.keep _ _ _ st6 fun b hb o e=>(I8.pin (b,o) (t6 _ (t6 _ (a0A hb e)))).1,fun b hb=>?_,w8⟩
    ·cases j with
     | zero=>cases e
     | succ j=>exact e
    ·obtain⟨o,e,d⟩:=T.obj _ _ st6 b hb
     exact(I8.pin (b,o) (t6 _ (t6 _ (a0A hb e)))).2.1
   refine thn (ht _ fp s3 _ _ s7 _ H6 _ I7 (step xv H6 y6)) (fun ok s8 ⟨H8,I8,q8⟩=>?_)
   cases ok with
   | false=>exact again I8 (by simpa using q8)
   | true=>
    rw[if_pos rfl]at q8
    rw[if_pos rfl]
    refine thn (he _ fp s3 _ _ s8 _ H8 _ I8 q8) (fun v s9 ⟨y,H9,I9,r9,hD9,hz9,w9⟩=>?_)
    refine U6 (a6M (X:=Q4 X scope cl s3.heap.objs.size x fp s3 (upd H1 D (.lst []))) _ s9 _ H9 (.ref D) [y] (.ref D) [v] (fun _ H'=>H'=upd H9 D (.lst (ys++[y]))) I9 rfl (.cons r9 .nil) ⟨D,ys,y,rfl,rfl,hD9,hz9,rfl⟩) (fun _ s10 ⟨_,H10,I10,_,e10⟩=>?_) fun _ _ f=>f
    subst e10
    exact again I10 w9
 exact c4k (loop _ rfl) (T.self X.A 0 _ _ _ st4 (loop _ rfl))
theorem a8M(hc:K8 X.N X.env.scope scope x)(I:Inv X pins σ H s):∀y∈scope.names,y.2=.free->∃c,X.env.cells.lookup y.1=some c:=by
 intro y hy e
 rcases hc.fr y hy e with q | q
 ·exact I.ok.has y.1 (.inl q)
 ·exact I.ok.has y.1 (.inr q)
theorem b9Z{wi:TI}(hc:K8 X.N X.env.scope scope x)(hcalm:X.calm=true)(hi:PI X (.Name x px) iter wi)
  (ht:∀cl C fp s3 H3,PTs (Q4 X scope cl C x fp s3 H3) ifs tt) (he:∀cl C fp s3 H3,PE (Q4 X scope cl C x fp s3 H3) elt te)
  (hs:∀x,K9 iter X.env x=pure x:=by intro _;rfl) :
  PE X (.ListComp elt [⟨.Name x px,iter,ifs,0⟩] scope pos) (S9 wi tt te):=by
 intro pins s σ H Q I h
 obtain⟨cl,hclos,hcl,hcl2⟩:=a5f (a8M hc I)
 rw[eval_ListComp]
 refine a5m (use:=none) rfl hs hclos hc.kind hc.names (thn (hi pins s σ H _ I h) fun v s1 h1=>thn h1 fun itv s2 ⟨it,fp,tn,J,H2,e,I2,T,st,fpo,R⟩=>?_)
 subst e
 refine a8N (RR:=fun acc C=>compPost (model X.prog X.w) X.A X.xe none (EP X pins σ Q) acc C) (Q:=Q) hc hcalm hcl hcl2 (ht cl) (he cl) I2 T st fpo R ?_
 intro D C s' H' m I' n f1 f2 f3 f4 f5 q
 exact⟨m,n,fun h' sb=>⟨.ref D,H',I'.turned (t':=s'.toks) (fun b o hb e=>(sb.2 b hb).trans e) f1 f2 (.inr f3) f4 f5,rfl,q⟩⟩
theorem b3G{wi:TI}{i:Nat}{y:Str}{py spos:Pos}(hN:X.N.Nodup)(hiy:X.N[i]? = some y)(hy:X.env.scope.names.lookup y=some .local)(hc:K8 X.N X.env.scope scope x)(hcalm:X.calm=true)(hi:PI X (.Name x px) iter wi)
  (ht:∀cl C fp s3 H3,PTs (Q4 X scope cl C x fp s3 H3) ifs tt) (he:∀cl C fp s3 H3,PE (Q4 X scope cl C x fp s3 H3) elt te)
  (hsw:a1r (.ListComp elt [⟨.Name x px,iter,ifs,0⟩] scope pos) (some (.Name y py)) spos.line X.env=pure true:=by rfl)
  (hs:∀x,K9 iter X.env x=pure x:=by intro _;rfl) :
  PS X (.Assign [.Name y py] (.ListComp elt [⟨.Name x px,iter,ifs,0⟩] scope pos) spos) (fun D σ H=>S9 wi tt te σ H fun v H1=>D.nx (σ.set i (some v)) H1):=by
 intro pins s σ H D I h
 obtain⟨cl,hclos,hcl,hcl2⟩:=a5f (a8M hc I)
 rw[exec_Assign_Name_used _ _ _ _ hsw]
 refine c5 (c1N (c5 ?_))
 show wpAny _ X.A (do let _ <-comprehension (.ListComp elt [⟨.Name x px,iter,ifs,0⟩] scope pos) scope X.env _ (newList []) false (eval iter X.env) (some (a9B (.Name y py) X.env))) _ _ s
 refine c5 (U6 (a5m (use:=some (a9B (.Name y py) X.env)) (Q:=fun _ s'=>SP X pins D .next s') rfl hs hclos hc.kind hc.names
  (thn (hi pins s σ H _ I h) fun v s1 h1=>thn h1 fun itv s2 ⟨it,fp,tn,J,H2,e,I2,T,st,fpo,R⟩=>?_)) (fun _ s' hq=>o0 (o0 hq)) fun _ _ e=>e)
 subst e
 refine a8N (RR:=fun acc C=>compPost (model X.prog X.w) X.A X.xe (some (a9B (.Name y py) X.env)) (fun _ s'=>SP X pins D .next s') acc C) (Q:=fun v H1=>D.nx (σ.set i (some v)) H1) hc hcalm hcl hcl2 (ht cl) (he cl) I2 T st fpo R ?_
 intro E C s' H' m I' n f1 f2 f3 f4 f5 q
 show wpAny _ _ (a9B (.Name y py) X.env (.ref E)) _ _ _
 refine b3b (a9N (v:=.ref E) I' hN hiy (.inl hy) rfl (fun s'' I'' ch=>?_) (.inr hy))
 obtain⟨a,sb,ha⟩:=ch
 have hCa:C≠a:=by
  rcases ha with e | e
  ·rw[e];exact f2
  ·exact fun z=>f4 y a e z.symm
 exact⟨m,n.sameBut sb hCa,fun h' sb'=>⟨_,_,I''.turned (t':=s''.toks) (fun b o hb e=>(sb'.2 b hb).trans e) f1 f2 (.inr f3) f4 f5,q⟩⟩
end
section
theorem OpR.imp{f:Value->Value->Sem Value}{r r':R2}(h:OpR X f r)(i:∀x y H Q,r' x y H Q->r x y H Q):OpR X f r':=fun pins s σ H x y u v Q I rx ry q=>h pins s σ H x y u v Q I rx ry (i _ _ _ _ q)
theorem U2.imp{f:Value}{r r':List V->Hp->VK->Prop}(h:U2 X f r)(i:∀xs H Q,r' xs H Q->r xs H Q):U2 X f r':=fun pins s σ H xs us Q I rx q=>h pins s σ H xs us Q I rx (i _ _ _ q)
theorem IxR.imp{r r':R2}(h:IxR X r)(i:∀x y H Q,r' x y H Q->r x y H Q):IxR X r':=by
 intro value slice pins s σ H x y v u Q I rx ry q hs
 exact h value slice pins s σ H x y v u Q I rx ry (i _ _ _ _ q) hs
theorem SlR.imp{r r':V->Option Int->Option Int->Hp->VK->Prop}(h:SlR X r)(i:∀x lo hi H Q,r' x lo hi H Q->r x lo hi H Q):SlR X r':=fun pins s σ H x v vl vu lo hi sl Q I rx hs pl pu q=>h pins s σ H x v vl vu lo hi sl Q I rx hs pl pu (i _ _ _ _ _ q)
def a2P:R2:=fun x y H Q=>match x,y with
 | .int i,.int j=>Q (.int (i+j)) H
 | .str i,.str j=>i.length+j.length<=l7/\Q (.str (i++j)) H
 | .ref a,.ref b=>match H a,H b with
  | some (.lst xs),some (.lst ys)=>xs.length+ys.length<=l7/\∀p,H p=none->Q (.ref p) (upd H p (.lst (xs++ys)))
  | _,_=>False
 | _,_=>False
theorem c0p:OpR X (W1 .Add) a2P:=by
 refine(c3i.or (b3P.or c3h)).imp fun x y H Q h=>?_
 unfold a2P at h
 split at h
 ·exact .inl ⟨_,_,rfl,rfl,h⟩
 ·exact .inr (.inl ⟨_,_,rfl,rfl,h.1,h.2⟩)
 ·split at h
  ·exact .inr (.inr ⟨_,_,_,_,rfl,rfl,by assumption,by assumption,h.1,h.2⟩)
  ·exact h.elim
 ·exact h.elim
def q2I(C:Int->Int->Prop)(g:Int->Int->V):R2:=fun x y H Q=>match x,y with
 | .int i,.int j=>C i j/\Q (g i j) H
 | _,_=>False
def b2h(g:Int->Int->V):R2:=fun x y H Q=>match x,y with
 | .int i,.int j=>Q (g i j) H
 | _,_=>False
theorem b3F{f:Value->Value->Sem Value}{C:Int->Int->Prop}{g:Int->Int->V}(h:OpR X f (rI C g)):OpR X f (q2I C g):=h.imp fun x y H Q q=>by
 unfold q2I at q
 split at q
 ·exact⟨_,_,rfl,rfl,q.1,q.2⟩
 ·exact q.elim
theorem a5J{f:Value->Value->Sem Value}{g:Int->Int->V}(h:OpR X f (rI0 g)):OpR X f (b2h g):=h.imp fun x y H Q q=>by
 unfold b2h at q
 split at q
 ·exact⟨_,_,rfl,rfl,q⟩
 ·exact q.elim
abbrev b7A:R2:=b2h fun i j=>.int (i - j)
abbrev b3C:R2:=q2I b8Q fun i j=>.int (i * j)
abbrev a9n:R2:=q2I (fun _ j=>0<j) fun i j=>.int (i % j)
abbrev b9C:R2:=q2I (fun _ j=>0<j/\j<2 ^ 64) fun i j=>.int (i / j)
abbrev qLt:R2:=b2h fun i j=>.bl (decide (i<j))
abbrev qLe:R2:=b2h fun i j=>.bl (decide (i<=j))
abbrev qGt:R2:=b2h fun i j=>.bl (decide (j<i))
abbrev qGe:R2:=b2h fun i j=>.bl (decide (j<=i))
theorem c0e:OpR X (W1 .Sub) b7A:=a5J c2X
theorem c0i:OpR X (W1 .Mult) b3C:=b3F c3f
theorem c0j:OpR X (W1 .Mod) a9n:=b3F c3g
theorem c0o:OpR X (W1 .FloorDiv) b9C:=b3F (opI fun i j _ _ _ _ _ hc q=>by
 have hl:j.natAbs.log2<9000:=by
  have:j.natAbs<2 ^ 64:=by have:=hc.1;have:=hc.2;omega
  by_cases h0:j.natAbs=0
  ·rw[h0];decide +kernel
  ·exact b6q ((Nat.log2_lt h0).mpr this) (by decide)
 refine floordiv_int (by omega) ?_ (.inl (PyProof.noPylong_of_log2 hl))
 rw[Int.fdiv_eq_ediv_of_nonneg _ (by omega)]
 exact q)
theorem c2Z:OpR X (p9 .Lt) qLt:=a5J c5f
theorem c3a:OpR X (p9 .LtE) qLe:=a5J c5g
theorem c3c:OpR X (p9 .Gt) qGt:=a5J c5h
theorem c3d:OpR X (p9 .GtE) qGe:=a5J c5i
def qIx:R2:=fun x y H Q=>match x,y with
 | .ref p,.int i=>match H p with
  | some (.lst xs)=>∃v,atI xs i=some v/\Q v H
  | some (.tup xs)=>∃v,atI xs i=some v/\Q v H
  | _=>False
 | .str z,.int i=>z.length<=l7/\∃c,atI z.cps.toList i=some c/\Q (.str ⟨#[c]⟩) H
 | _,_=>False
theorem c5S:IxR X qIx:=c3B.imp fun x y H Q h=>by
 unfold qIx at h
 split at h
 ·split at h
  ·obtain⟨v,e,q⟩:=h
   exact .inl ⟨_,_,_,v,rfl,rfl,SqL.of (by assumption),e,q⟩
  ·obtain⟨v,e,q⟩:=h
   exact .inr (.inl ⟨_,_,_,v,rfl,rfl,SqT.of (by assumption),e,q⟩)
  ·exact h.elim
 ·obtain⟨z,c,e,q⟩:=h
  exact .inr (.inr ⟨_,_,c,rfl,rfl,z,e,q⟩)
 ·exact h.elim
def qSl:V->Option Int->Option Int->Hp->VK->Prop:=fun x lo hi H Q=>match x with
 | .ref a=>match H a with
  | some (.lst xs)=>∀p,H p=none->Q (.ref p) (upd H p (.lst (a5e xs lo hi)))
  | some (.tup xs)=>¬(HT.sIx xs.length 0 lo=0/\HT.sIx xs.length xs.length hi=xs.length)/\∀p,H p=none->Q (.ref p) (upd H p (.tup (a5e xs lo hi)))
  | _=>False
 | _=>False
theorem c5H:SlR X qSl:=(b4x.or c1S).imp fun x lo hi H Q h=>by
 unfold qSl at h
 split at h
 ·split at h
  ·exact .inl ⟨_,_,rfl,SqL.of (by assumption),h⟩
  ·exact .inr ⟨_,_,rfl,SqT.of (by assumption),h.1,h.2⟩
  ·exact h.elim
 ·exact h.elim
def T1:List V->Hp->VK->Prop:=fun xs H Q=>match xs with
 | [.ref p]=>match H p with
  | some (.lst ys)=>Q (.int ys.length) H
  | some (.tup ys)=>Q (.int ys.length) H
  | _=>False
 | [.str z]=>z.length<=l7/\Q (.int z.length) H
 | _=>False
theorem b6g:U2 X (.builtin "len") T1:=(b1b.or b1a).imp fun xs H Q h=>by
 unfold T1 at h
 split at h
 ·split at h
  ·exact .inl ⟨_,_,rfl,.inl (SqL.of (by assumption)),h⟩
  ·exact .inl ⟨_,_,rfl,.inr (SqT.of (by assumption)),h⟩
  ·exact h.elim
 ·exact .inr ⟨_,rfl,h.1,h.2⟩
 ·exact h.elim
def b7D:List V->Hp->VK->Prop:=fun xs H Q=>match xs with
 | [.int i]=>Q (.int (if i<0 then -i else i)) H
 | _=>False
theorem b6k:U2 X (.builtin "abs") b7D:=b8H.imp fun xs H Q h=>by
 unfold b7D at h
 split at h
 ·exact⟨_,rfl,h⟩
 ·exact h.elim
def a7u:V->V->V->Hp->(Hp->Prop)->Prop:=fun o i v H Q=>match o,i with
 | .ref p,.int k=>match H p with
  | some (.lst xs)=>∃j,ixN xs.length k=some j/\Q (upd H p (.lst (xs.set j v)))
  | _=>False
 | _,_=>False
theorem c4v:b8K X a7u:=by
 intro pins s σ H o i v u1 u2 u3 Q I r1 r2 r3 h
 refine b7k pins s σ H o i v u1 u2 u3 Q I r1 r2 r3 ?_
 unfold a7u at h
 split at h
 ·split at h
  ·obtain⟨j,e,q⟩:=h
   exact⟨_,_,_,j,rfl,rfl,by assumption,e,q⟩
  ·exact h.elim
 ·exact h.elim
def a0C(xs ys:List V):Bool:=(y9 (min xs.length ys.length)).all (fun j=>eqV (xs.getD j .non) (ys.getD j .non))&&xs.length == ys.length
def eqO(x y:V)(H:Hp):Option Bool:=if b0r x y=true then some (decide (x=y))else match x,y with
 | .ref a,.ref b=>match H a,H b with
  | some (.tup xs),some (.tup ys)=>if xs.all E9=true/\ys.all E9=true then some (a0C xs ys)else none
  | some (.lst xs),some (.lst ys)=>if xs.all E9=true/\ys.all E9=true then some (a0C xs ys)else none
  | _,_=>none
 | .non,.ref a=>match H a with
  | some (.tup _)=>some false
  | _=>none
 | .ref a,.non=>match H a with
  | some (.tup _)=>some false
  | _=>none
 | _,_=>none
def qEq:R2:=fun x y H Q=>∃b,eqO x y H=some b/\Q (.bl b) H
def qNe:R2:=fun x y H Q=>∃b,eqO x y H=some b/\Q (.bl (!b)) H
theorem a5U{A:F8}{ys:List V}{us ws:List Value}(rx:D8 xs us)(ry:D8 ys ws)(fx:xs.all E9=true)(fy:ys.all E9=true) :
  ∀j (h1:j<us.toArray.size) (h2:j<ws.toArray.size),SeqAt.EqAt A s us.toArray[j] ws.toArray[j] (eqV (xs.getD j .non) (ys.getD j .non)):=by
 intro j h1 h2
 have l1:=rx.length
 have l2:=ry.length
 have h1':j<us.length:=by simpa using h1
 have h2':j<ws.length:=by simpa using h2
 have e1:xs[j]? = some (xs[j]'(by omega)):=by simp
 have e2:ys[j]? = some (ys[j]'(by omega)):=by simp
 obtain⟨u,hu,ru⟩:=rx.get e1
 obtain⟨w,hw,rw'⟩:=ry.get e2
 have z1:us.toArray[j]=u:=by
  have:us[j]? = some us[j]:=by simp
  rw[this]at hu
  simpa using hu
 have z2:ws.toArray[j]=w:=by
  have:ws[j]? = some ws[j]:=by simp
  rw[this]at hw
  simpa using hw
 rw[z1,z2]
 have g1:xs.getD j .non=xs[j]'(by omega):=by simp[L0,e1]
 have g2:ys.getD j .non=ys[j]'(by omega):=by simp[L0,e2]
 rw[g1,g2]
 exact a8I ru rw' (M8.mp fx _ (C9 _)) (M8.mp fy _ (C9 _))
theorem c1A{x y:V}{v:Value}{k:Bool}(I:Inv X pins σ H s)(hu:X.A.units<cLine)(rx:C4 x v)(ry:C4 y u)(hs:¬b0r x y=true)(e:eqO x y H=some k) :
  SeqAt.RcAt X.A s v u k/\SeqAt.RcNeAt X.A s v u (!k):=by
 unfold eqO at e
 rw[if_neg hs]at e
 split at e
 ·rename_i a b
  cases rx
  cases ry
  split at e
  ·rename_i xs ys ha hb
   split at e
   ·rename_i hf
    cases e
    obtain⟨us,r1,t1,_⟩:=I.tuple (SqT.of ha)
    obtain⟨ws,r2,t2,_⟩:=I.tuple (SqT.of hb)
    have l1:=r1.length
    have l2:=r2.length
    have q1:=SeqAt.RcAt.tuples (A:=X.A) t1 t2 hu (a5U r1 r2 hf.1 hf.2)
    have q2:=SeqAt.RcNeAt.tuples (A:=X.A) t1 t2 hu (a5U r1 r2 hf.1 hf.2)
    simp only[j4,<-l1,<-l2]at q1 q2
    exact⟨q1,q2⟩
   ·cases e
  ·rename_i xs ys ha hb
   split at e
   ·rename_i hf
    cases e
    obtain⟨us,r1,t1,_⟩:=I.list (SqL.of ha)
    obtain⟨ws,r2,t2,_⟩:=I.list (SqL.of hb)
    have l1:=r1.length
    have l2:=r2.length
    by_cases hl:us.toArray.size=ws.toArray.size
    ·have q1:=SeqAt.RcAt.lists (A:=X.A) t1.isList t2.isList hl hu (a5U r1 r2 hf.1 hf.2)
     have q2:=SeqAt.RcNeAt.lists (A:=X.A) t1.isList t2.isList hl hu (a5U r1 r2 hf.1 hf.2)
     have hl':xs.length=ys.length:=by simpa[<-l1,<-l2]using hl
     have ef:a0C xs ys=(y9 us.toArray.size).all fun j=>eqV (xs.getD j .non) (ys.getD j .non):=by
      unfold a0C
      rw[hl',Nat.min_self,j4,<-l1,hl']
      simp
     rw[ef]
     exact⟨q1,q2⟩
    ·have hl2:(us.toArray.size != ws.toArray.size)=true:=by simpa using hl
     have q1:=SeqAt.RcAt.lists_lengths (A:=X.A) t1.isList t2.isList hl2 hu
     have q2:=SeqAt.RcNeAt.lists_lengths (A:=X.A) t1.isList t2.isList hl2 hu
     have ef:a0C xs ys=false:=by
      unfold a0C
      have:¬xs.length=ys.length:=by simpa[<-l1,<-l2]using hl
      simp[this]
     rw[ef]
     exact⟨q1,q2⟩
   ·cases e
  ·cases e
 ·cases rx
  cases ry
  split at e
  ·cases e
   obtain⟨us,_,t1,_⟩:=I.tuple (SqT.of (by assumption))
   exact⟨SeqAt.RcAt.none_tuple t1 hu,SeqAt.RcNeAt.none_tuple t1 hu⟩
  ·cases e
 ·cases rx
  cases ry
  split at e
  ·cases e
   obtain⟨us,_,t1,_⟩:=I.tuple (SqT.of (by assumption))
   exact⟨SeqAt.RcAt.tuple_none t1 hu,SeqAt.RcNeAt.tuple_none t1 hu⟩
  ·cases e
 ·cases e
theorem c3e(hu:X.A.units<cLine):OpR X (p9 .Eq) qEq:=by
 intro pins s σ H x y v u Q I rx ry h
 obtain⟨k,e,q⟩:=h
 by_cases hs:b0r x y=true
 ·unfold eqO at e
  rw[if_pos hs]at e
  cases e
  exact c5j pins s σ H x y v u Q I rx ry ⟨hs,q⟩
 ·exact(c1A I hu rx ry hs e).1 _ _ _ _ ⟨.bl k,H,I,rfl,q⟩
theorem c2Y(hu:X.A.units<cLine):OpR X (p9 .NotEq) qNe:=by
 intro pins s σ H x y v u Q I rx ry h
 obtain⟨k,e,q⟩:=h
 by_cases hs:b0r x y=true
 ·unfold eqO at e
  rw[if_pos hs]at e
  cases e
  exact b4F pins s σ H x y v u Q I rx ry ⟨hs,q⟩
 ·exact(c1A I hu rx ry hs e).2 _ _ _ _ ⟨.bl (!k),H,I,rfl,q⟩
def qIn(neg:Bool):R2:=fun x y H Q=>match x,y with
 | .str i,.str j=>Q (.bl (if neg then !(!(Builtin.Str.occurrences j i 0 j.length 1).isEmpty)else !(Builtin.Str.occurrences j i 0 j.length 1).isEmpty)) H
 | x,.ref p=>match H p with
  | some (.lst xs)=>E9 x=true/\xs.all E9=true/\Q (.bl (if neg then !inV x xs else inV x xs)) H
  | some (.tup xs)=>E9 x=true/\xs.all E9=true/\Q (.bl (if neg then !inV x xs else inV x xs)) H
  | _=>False
 | _,_=>False
theorem c3b:OpR X (p9 .In) (qIn false):=(b5D.or a9P).imp fun x y H Q h=>by
 unfold qIn at h
 split at h
 ·exact .inl ⟨_,_,rfl,rfl,h⟩
 ·split at h
  ·exact .inr ⟨_,_,rfl,.inl (SqL.of (by assumption)),h.1,h.2.1,h.2.2⟩
  ·exact .inr ⟨_,_,rfl,.inr (SqT.of (by assumption)),h.1,h.2.1,h.2.2⟩
  ·exact h.elim
 ·exact h.elim
def a0F:V->List V->Hp->VK->Prop:=fun x vs H Q=>match x,vs with
 | .ref l,[y]=>match H l with
  | some (.lst xs)=>xs.length<l7/\Q .non (upd H l (.lst (xs++[y])))
  | _=>False
 | _,_=>False
theorem b3W:MtR X "list.append" a0F:=fun pins s σ H x xs v us Q I rx rv h=>by
 refine a6M pins s σ H x xs v us Q I rx rv ?_
 unfold a0F at h
 split at h
 ·split at h
  ·exact⟨_,_,_,rfl,rfl,by assumption,h.1,h.2⟩
  ·exact h.elim
 ·exact h.elim
def a2z(x:V)(H:Hp):Option String:=match x with
 | .non=>some "NoneType"
 | .bl _=>some "bool"
 | .int _=>some "int"
 | .str _=>some "str"
 | .ref a=>match H a with
  | some (.lst _)=>some "list"
  | some (.tup _)=>some "tuple"
  | some (.dK _)=>some "dict"
  | some (.dT _)=>some "dict"
  | _=>none
 | _=>none
def b4b(t c:String):Bool:=t == c||(t == "bool" && c == "int")
def a6P:List String:=["int","bool","str","list","tuple","dict"]
theorem c3u(K:Fg):∀t ∈ "NoneType" :: a6P,∀c∈a6P,a4q K (.type t) (.type c)=some (b4b t c):=by
 intro t ht c hc
 simp only[a6P,c8,j7,or_false]at ht hc
 rcases ht with rfl | rfl | rfl | rfl | rfl | rfl | rfl <;> rcases hc with rfl | rfl | rfl | rfl | rfl | rfl <;> kernel_rfl
theorem c4u{K:Fg}{x:V}{t:String}(h:a2z x H=some t):a6X K H x (.type t)/\t ∈ "NoneType" :: a6P:=by
 unfold a2z at h
 split at h
 ·cases h;exact⟨.non,by decide⟩
 ·cases h;exact⟨.bl _,by decide⟩
 ·cases h;exact⟨.int _,by decide⟩
 ·cases h;exact⟨.str _,by decide⟩
 ·split at h
  ·cases h;exact⟨.lst (by assumption),by decide⟩
  ·cases h;exact⟨.tup (by assumption),by decide⟩
  ·cases h;exact⟨.dK (by assumption),by decide⟩
  ·cases h;exact⟨.dT (by assumption),by decide⟩
  ·cases h
 ·cases h
def a4S:List V->Hp->VK->Prop:=fun xs H Q=>match xs with
 | [x,.ty c]=>∃t,a2z x H=some t/\c∈a6P/\Q (.bl (b4b t c)) H
 | _=>False
theorem b6h:U2 X (.builtin "isinstance") a4S:=fun pins s σ H xs us Q I r h=>by
 unfold a4S at h
 split at h
 ·obtain⟨t,e,hc,q⟩:=h
  obtain⟨u,u2,rfl,ru,ru2⟩:=b6V r
  cases ru2
  obtain⟨ty,ht⟩:=c4u (K:=X.K) e
  exact a9U I ru ty (c3u X.K t ht _ hc) fun tk=>⟨.bl _,H,I.tok _,rfl,q⟩
 ·exact h.elim
def b5x:V->V->Hp->VK->Prop:=fun x y H Q=>match x,y with
 | .ref p,.int i=>match H p with
  | some (.lst xs)=>0<=i/\∃v,xs[i.toNat]? = some v/\Q v H
  | _=>False
 | _,_=>False
theorem c5l:c3S X b5x:=fun pins s σ H o i ov iv Q I r1 r2 h=>by
 unfold b5x at h
 split at h
 ·split at h
  ·obtain⟨h0,v,e,q⟩:=h
   cases r1
   obtain⟨t,rfl⟩:=r2
   obtain⟨its,r,pl,hz⟩:=I.list (SqL.of (by assumption))
   obtain⟨u,eu,ru⟩:=r.get e
   have hl:=(k9.mp e).1
   have hn:=a5d
   exact wpAny_getItem_list pl.isList h0 (by omega) (by simpa using eu) ⟨v,H,I,ru,q⟩
  ·exact h.elim
 ·exact h.elim
def a8q:R2:=fun x y H Q=>y=.non/\Q (.bl (!decide (x=.non))) H
theorem b5C:OpR X (p9 .IsNot) a8q:=c0q
structure C6(P:w4)(w:World)(K:Fg)(mg:Str->Option Value)(base:Heap)(k:Nat)(x:Str)(ps:List Str)(sp:Sp):Prop where
 ex:∃f fd,G8 P w K mg base CX0 k f fd ps sp/\mg x=some (.ref f)/\P8 K (.ref f)=true/\a3l K fd ps []
theorem c2L{k j:Nat}{x:Str}{e:Expr}{es:List Expr}{t:TA}{p:Pos}(C:C6 X.prog X.w X.K X.mg X.base k x ps sp)(hr:M5 j X.A)(hk:k<=j)(hg:Gl X x)(ha:PA X (e::es) t)
  (hdb:(x == ("__debug__" : Str))=false:=by decide) (he:g7 (e::es) X.env=(false,eval e X.env)::g7 es X.env:=by rfl) (hpl:(U8 pos (g7 es X.env)).any (·.1)=false:=by rfl) :
  PE X (.Call (.Name x p) (e::es) [] pos) (u9 sp [] E0 t):=by
 obtain⟨f,fd,F,hm,hkp,hb⟩:=C.ex
 exact c0b F (hr.mono hk) hg hm hkp hb .nil b7X ha hdb he hpl
theorem b6e{P:w4}{K:Fg}{mg:Str->Option Value}{base:Heap}{k:Nat}{x q:Str}{st:Stmt}{f:Addr}{fd:W2}(F:Fun K x q st f fd)(O:G8 P w K mg base CX0 k f fd ps sp)
  (hm:mg x=some (.ref f)) (hb:a3l K fd ps []):C6 P w K mg base k x ps sp:=⟨f,fd,O,hm,F.kp,hb⟩
def a3D:List V->Hp->VK->Prop:=fun xs H Q=>match xs with
 | [.ref p]=>match H p with
  | some (.lst ys)=>∀l,H l=none->Q (.ref l) (upd H l (.lst ys))
  | some (.tup ys)=>∀l,H l=none->Q (.ref l) (upd H l (.lst ys))
  | _=>False
 | _=>False
theorem b4m:U2 X (.type "list") a3D:=b0Z.imp fun xs H Q h=>by
 unfold a3D at h
 split at h
 ·split at h
  ·exact⟨_,_,rfl,.inl (SqL.of (by assumption)),h⟩
  ·exact⟨_,_,rfl,.inr (SqT.of (by assumption)),h⟩
  ·exact h.elim
 ·exact h.elim
theorem b1K:∀ {kvs:List (Key×V)} {k:Key} {x:V},(kvs.map (·.1)).Nodup->(k,x)∈kvs->U3 kvs k=some x
 | [],_,_,_,h=>by cases h
 | (k0,x0)::r,k,x,nd,h=>by
  have nd':k0∉r.map (·.1)/\(r.map (·.1)).Nodup:=L3.mp nd
  unfold U3
  rw[T4]
  by_cases e:k0=k
  ·rw[show decide (((k0,x0):Key×V).1=k)=true from c7r e]
   rcases c8.mp h with z | z
   ·cases z;rfl
   ·exact absurd (u8.mpr ⟨_,z,e.symm⟩) nd'.1
  ·rw[show decide (((k0,x0):Key×V).1=k)=false from c7q e]
   rcases c8.mp h with z | z
   ·cases z;exact absurd rfl e
   ·exact b1K nd'.2 z
end
def Its(x:Str):It:=⟨fun i _=>i<x.length,fun i H v H'=>H'=H/\∃c,x.cps[i]? = some c/\v=.str ⟨#[c]⟩,fun i _=>x.length<=i⟩
theorem b7a{P:w4}{K:Fg}{tg:Expr}(x:Str)(t:Tok)(it:Addr):b1i P w K tg (Its x) [it] it (fun i h=>h.IsStrIter it (a1X x) x t i) where
 mem:=by simp
 obj:=fun i h st b hb=>by
  have e:b=it:=by simpa using hb
  subst e
  obtain⟨o,e,c,d⟩:=st
  exact⟨o,e,fun v z=>by rw[d]at z;cases z⟩
 keep:=fun i h h' st k=>let⟨o,ho,r⟩:=st; ⟨o,k it (by simp) o ho,r⟩
 item:=by
  intro X hP hw hK hc i pins s σ H E I hf st hg
  subst hP hw hK
  have hi:i<x.cps.size:=hg
  obtain⟨f0,f1,f2,f3,f4,f5⟩:=hf it (by simp)
  have hx:x.cps[i]? = some x.cps[i]:=by simp[hi]
  have fin:∀h',h'.IsStrIter it (a1X x) x t (i+1)->Heap.SameBut it s.heap h'->∃u,some (Value.str ⟨#[x.cps[i]]⟩ s.toks)=some u /\
    wpAny (model X.prog X.w) X.A (a3s tg (.ref it) u) (fun _ s2=>∃v H',Inv X pins σ H' s2/\C4 v u/\(Its x).yld i H v H'/\s2.heap.IsStrIter it (a1X x) x t (i+1)/\∀b∈[it],H' b=none) E { s with heap:=h',toks:=s.toks+1 }:=by
   intro h' st' sb
   have I1:Inv X pins σ H { s with heap:=h',toks:=s.toks+1 }:=I.turned (t':=s.toks+1) (fun b o hb e=>(sb.2 b hb).trans e) f0 f1 f3 f4 f5
   obtain⟨o,e,c,d⟩:=id st'
   refine⟨_,rfl,b4K (s:={ s with heap:=h',toks:=s.toks+1 }) e c d ?_ ⟨.str ⟨#[x.cps[i]]⟩,H,I1,⟨_,rfl⟩,⟨rfl,_,hx,rfl⟩,st',fun b hb=>(hf b hb).1⟩⟩
   unfold a1X
   split <;> decide
  unfold a1X at st fin ⊢
  split at st
  ·rename_i ha
   simp only[ha]at fin ⊢
   exact wpAny_pyNext_ascii_item st hx fun h' st' sb=>fin h' st' sb
  ·rename_i ha
   simp only[ha]at fin ⊢
   exact wpAny_pyNext_wide_item st hx fun h' st' sb=>fin h' st' sb
 done:=by
  intro X hP hw hK hc i pins s σ H E I hf st hg
  subst hP hw hK
  have hi:x.cps.size<=i:=hg
  obtain⟨f0,f1,f2,f3,f4,f5⟩:=hf it (by simp)
  have hx:x.cps[i]? = none:=by simp[hi]
  unfold a1X at st
  split at st
  ·exact wpAny_pyNext_ascii_end (I.ok.hd hc) st hx fun h' eb=>⟨rfl,I.turned (t':=s.toks) (fun b o hb e=>eb b o hb e) f0 f1 f3 f4 f5⟩
  ·exact wpAny_pyNext_wide_end (I.ok.hd hc) st hx fun h' eb=>⟨rfl,I.turned (t':=s.toks) (fun b o hb e=>eb b o hb e) f0 f1 f3 f4 f5⟩
 self:=fun _ _ _ _ _ st h=>by
  unfold a1X at st
  split at st
  ·exact wpAny_pyIter_striter_ascii st h
  ·exact wpAny_pyIter_striter_wide st h
def c0M(tl:TE):TI:=fun σ H R=>tl σ H fun v H1=>∃x,v=.str x/\R (Its x) H1
section
variable {tg:Expr}
theorem c2G{l:Expr}{tl:TE}(hl:PE X l tl):PI X tg l (c0M tl):=by
 intro pins s σ H R I h
 refine thn (hl pins s σ H _ I h) fun v s1 ⟨y,H1,I1,r1,x,e,q1⟩=>?_
 subst e
 obtain⟨t,rfl⟩:=r1
 refine wpAny_pyIter_strU ?_
 have k:∀b u,s1.heap.get? b=some u->(s1.heap.push { cls:=.type (a1X x),data:=.fields #[.str x t,.int 0 0] }).get? b=some u:=fun b u q=>i9 _ q
 refine⟨s1.heap.objs.size,[s1.heap.objs.size],_,Its x,H1,rfl,I1.kept (t':=s1.toks) k,b7a x t _,⟨_,t9 _ rfl,rfl,rfl⟩,fun b hb=>?_,q1⟩
 have e:b=s1.heap.objs.size:=by simpa using hb
 subst e
 exact I1.fpOk (d9 _) I1.fresh
def R1:List V->Option (List Bool)
 | []=>some []
 | .bl b::r=>(R1 r).map (b :: ·)
 | _=>none
theorem a6W:∀ {xs:List V} {bs:List Bool} {i:Nat} {x:V},R1 xs=some bs->xs[i]? = some x->∃b,bs[i]? = some b/\x=.bl b
 | [],_,_,_,_,h=>by simp at h
 | y::r,bs,i,x,e,h=>by
  cases y with
  | bl b=>
   cases e2:R1 r with
   | none=>simp[R1,e2]at e
   | some bs2=>
    simp[R1,e2]at e
    subst e
    cases i with
    | zero=>simp at h;exact⟨b,rfl,h.symm⟩
    | succ i=>
     obtain⟨b',h1,h2⟩:=a6W (i:=i) e2 (by simpa using h)
     exact⟨b',by simpa using h1,h2⟩
  | _=>simp[R1]at e
theorem a6V:∀ {xs:List V} {bs:List Bool},R1 xs=some bs->xs.length=bs.length
 | [],_,e=>by cases e;rfl
 | y::r,bs,e=>by
  cases y with
  | bl b=>
   cases e2:R1 r with
   | none=>simp[R1,e2]at e
   | some bs2=>
    simp[R1,e2]at e
    subst e
    simp[a6V e2]
  | _=>simp[R1]at e
theorem b6o(bs:List Bool):((y9 bs.length).all fun i=>(bs[i]?).getD true)=bs.all id:=by
 rw[L4,M8,M8]
 constructor
 ·intro h b hb
  obtain⟨i,hi,rfl⟩:=List.mem_iff_getElem.mp hb
  have:=h i (by simpa using hi)
  simpa[hi]using this
 ·intro h i hi
  have hl:i<bs.length:=by simpa using hi
  have:=h bs[i] (C9 _)
  simpa[hl]using this
def b0C:List V->Hp->VK->Prop:=fun vs H Q=>match vs with
 | [.ref l]=>match H l with
  | some (.lst xs)=>∃bs,R1 xs=some bs/\Q (.bl (bs.all id)) H
  | _=>False
 | _=>False
theorem b6j(hc:X.calm=true):U2 X (.builtin "all") b0C:=fun pins s σ H xs us Q I r h=>by
 unfold b0C at h
 split at h
 ·split at h
  ·rename_i l _ ys hl
   obtain⟨bs,e,q⟩:=h
   obtain⟨u,rfl,ru⟩:=a5q r
   cases ru
   obtain⟨its,rv,pl,hz⟩:=I.list (SqL.of hl)
   have hlt:l<s.heap.objs.size:=by obtain⟨_,e,_⟩:=pl.isList;exact i8 e
   have hlen:=rv.length
   have hbl:=a6V e
   refine call_all_walk (b2Z pl.isList ?_)
   refine⟨s.heap.objs.size,[s.heap.objs.size,l],[s.heap.objs.size],its.toArray.size,_,_,fun i=>(bs[i]?).getD true,rfl,Walks.list (A:=X.A.in1) (I.ok.hd hc) _ l (u7 hlt) its.toArray,
    ⟨⟨_,t9 _ rfl,rfl,rfl⟩,pl.isList.push _⟩,fun i v s' Q' E' hP hQ=>?_,fun h' tk hk=>?_⟩
   ·have hP:its[i]? = some v:=by simpa using hP
    have hi:i<ys.length:=by rw[hlen];exact(k9.mp hP).1
    have ey:ys[i]? = some ys[i]:=by simp[hi]
    obtain⟨b,eb,ez⟩:=a6W e ey
    obtain⟨u,eu,ru⟩:=rv.get ey
    rw[hP]at eu
    cases eu
    rw[ez]at ru
    cases ru
    simp only[eb,a3m]at hQ
    exact I0 hQ
   ·have e2:((y9 its.toArray.size).all fun i=>(bs[i]?).getD true)=bs.all id:=by
     rw[j4,<-hlen,hbl]
     exact b6o bs
    rw[e2]
    exact⟨.bl _,H,I.kept (t':=tk) fun b x e=>hk b x (fun hm=>by rw[f6.mp hm]at e;exact E2 _ (i8 e)) (i9 _ e),rfl,q⟩
  ·exact h.elim
 ·exact h.elim
end
section
theorem Inv.turnedL{h':Heap}{t':Nat}(I:Inv X pins σ H s)(k:∀b o,b∉fp->s.heap.get? b=some o->h'.get? b=some o)(hf:∀b∈fp,a4o X pins H b) :
  Inv X pins σ H { s with heap:=h',toks:=t' }:=by
 have nit:∀b u,H b=some u->b∉fp:=fun b u e z=>by rw[(hf b z).1]at e;cases e
 refine I.step (g':=s.gens) (d':=s.drawn) (ch:=fp) (fun b hb=>?_) (fun b o _ _ hc e _=>k b o hc e) (fun b o _ _ hc e _=>⟨o.slots,k b o hc e⟩) (fun _ _ _ _ n=>n)
  (fun b o hc e=>⟨o,k b o hc e⟩) (fun _ _ e=>e) (fun _ _ _ e=>e) (fun b ps e=>⟨#[],by rw[e];simp⟩) (fun m hm=>?_) (fun b u e=>?_) I.bare
 ·obtain⟨_,f1,_,f3,f4,f5⟩:=hf b hb
  exact⟨f3,f1,f4,f5⟩
 ·obtain⟨o,es,ep,ho,r⟩:=hm
  exact⟨o,es,ep,k _ o (fun z=>(hf _ z).2.1 rfl) ho,r⟩
 ·refine(I.hok b u e).stay (fun c v hc q=>k c v ?_ q) (fun _ q=>q) fun _ _ q=>q
  rcases hc with z | z
  ·rw[z];exact nit b u e
  ·exact nit c _ z
theorem Inv.pairL{h':Heap}{t':Nat}{x y:V}{v:Value}(I:Inv X pins σ H s)(hf:∀b∈fp,a4o X pins H b)(fl:∀b∈fp,b≠s.heap.objs.size)
  (rx:C4 x u) (ry:C4 y v) (ht:h'.get? s.heap.objs.size=some { cls:=.type "tuple",data:=.seq #[u,v] }) (k:∀b o,b∉fp->s.heap.get? b=some o->h'.get? b=some o) :
  Inv X pins σ (upd H s.heap.objs.size (.tup [x,y])) { s with heap:=h',toks:=t' }:=by
 have I1:Inv X pins σ (upd H s.heap.objs.size (.tup [x,y])) { s with heap:=s.heap.push { cls:=.type "tuple",data:=.seq #[u,v] },toks:=s.toks }:=
  I.laid (fun b u e=>i9 _ e) (d9 _) ⟨by show 2<=l7;decide,[u,v],.cons rx (.cons ry .nil),⟨_,t9 _ rfl,rfl,_,rfl⟩⟩
 refine Inv.turnedL (s:={ s with heap:=s.heap.push { cls:=.type "tuple",data:=.seq #[u,v] },toks:=s.toks }) (fp:=fp) I1 (fun b o hb e=>?_) fun b hb=>⟨by rw[c9 (fl b hb)];exact(hf b hb).1,(hf b hb).2⟩
 by_cases hz:b=s.heap.objs.size
 ·subst hz
  have e2:=t9 s.heap (o:={ cls:=.type "tuple",data:=.seq #[u,v] }) rfl
  rw[show(s.heap.push { cls:=.type "tuple",data:=.seq #[u,v] }).get? s.heap.objs.size=some o from e]at e2
  cases e2
  exact ht
 ·refine k b o hb ?_
  have e:(s.heap.push { cls:=.type "tuple",data:=.seq #[u,v] }).get? b=some o:=e
  rwa [Heap.get?_push_ne _ _ _ hz]at e
def Ite(K:Fg)(a:Addr):It:=
 ⟨fun i H=>∃xs x,SqL K H a xs/\xs[i]? = some x,fun i H v H'=>∃p x,H p=none/\v=.ref p/\H'=upd H p (.tup [.int i,x])/\∀xs,SqL K H a xs->xs[i]? = some x,fun i H=>∃xs,SqL K H a xs/\xs.length<=i⟩
theorem b5m{P:w4}{K:Fg}{x1}(a e it:Addr)(hne:e≠it):b1i P w K (.Tuple elts x1 tp) (Ite K a) [e,it] e (fun i h=>(∃old,IsEnum h e it i old)/\h.IsListIter it a i) where
 mem:=by simp
 obj:=fun i h st b hb=>by
  obtain⟨⟨old,he⟩,o,e1,c,d⟩:=st
  rcases c8.mp hb with rfl | hb
  ·exact⟨_,he,fun v z=>by
    have z':Data.fields _=Data.cell v:=z
    cases z'⟩
  ·have:b=it:=by simpa using hb
   subst this
   exact⟨o,e1,fun v z=>by rw[d]at z;cases z⟩
 keep:=fun i h h' st k=>by
  obtain⟨⟨old,he⟩,hi⟩:=st
  exact⟨⟨old,k e (by simp) _ he⟩,hi.at fun o q=>k it (by simp) o q⟩
 item:=by
  intro X hP hw hK hc i pins s σ H E I hf st hg
  subst hP hw hK
  obtain⟨⟨old,he⟩,hit⟩:=st
  obtain⟨xs,x,hq,hx⟩:=hg
  obtain⟨its,rv,p,hz⟩:=I.list hq
  obtain⟨u,hu,ru⟩:=rv.get hx
  refine wpAny_pyNext_enum_item he hit p.isList (x:=u) (by simpa using hu) hne fun h1 ho hit1 hT hsz hk=>?_
  refine⟨_,rfl,?_⟩
  refine wpAny_letOwnedTupleGo_enum (s:={ s with heap:=h1,toks:=s.toks+1 }) ho fun h2 he2 hs2=>?_
  have hs2:Heap.SameBut e h1 h2:=hs2
  have le:e≠s.heap.objs.size:=u7 (i8 he)
  have li:it≠s.heap.objs.size:=by obtain⟨_,q,_⟩:=hit;exact u7 (i8 q)
  have fl:∀b∈[e,it],b≠s.heap.objs.size:=fun b hb=>by
   rcases c8.mp hb with rfl | hb
   ·exact le
   ·have:b=it:=by simpa using hb
    subst this;exact li
  have I2:=I.pairL (h':=h2) (t':=s.toks+1) (x:=.int i) (y:=x) (u:=.int i s.toks) (v:=u) hf fl ⟨_,rfl⟩ ru ((hs2.2 _ (Ne.symm le)).trans hT) fun b o hb q=>by
   have n1:b≠e:=fun z=>hb (by simp[z])
   have n2:b≠it:=fun z=>hb (by simp[z])
   exact(hs2.2 b n1).trans (hk b o n1 n2 q)
  refine⟨.ref s.heap.objs.size,_,I2,rfl,⟨_,x,I.fresh,rfl,rfl,fun ys hy=>by rw[I.list_inj hy hq];exact hx⟩,⟨⟨u,by simpa using he2⟩,hit1.at fun o q=>(hs2.2 it (Ne.symm hne)).trans q⟩,fun b hb=>?_⟩
  rw[c9 (fl b hb)];exact(hf b hb).1
 done:=by
  intro X hP hw hK hc i pins s σ H E I hf st hg
  subst hP hw hK
  obtain⟨⟨old,he⟩,hit⟩:=st
  obtain⟨xs,hq,hx⟩:=hg
  obtain⟨its,rv,p,hz⟩:=I.list hq
  obtain⟨f0,f1,f2,f3,f4,f5⟩:=hf it (by simp)
  have hl:=rv.length
  exact wpAny_pyNext_enum_end (I.ok.hd hc) he hit p.isList (by simp;omega) fun h' eb=>⟨rfl,I.turned (t':=s.toks) (fun b o hb e=>eb b o hb e) f0 f1 f3 f4 f5⟩
 self:=fun _ _ _ _ _ st h=>by
  obtain⟨⟨old,he⟩,_⟩:=st
  exact wpAny_pyIter_enum he h
def a5S(K:Fg)(ta:TA):TI:=fun σ H R=>ta σ H fun vs H1=>∃a,vs=[.ref a]/\(∃xs,SqL K H1 a xs)/\R (Ite K a) H1
theorem b9T{x1}{a:Expr}{ta:TA}(hg:Gl X "enumerate")(hm:X.mg "enumerate" = none)(ha:PA X [a] ta)(hs:g7 [a] X.env=[(false,eval a X.env)]:=by rfl) :
  PI X (.Tuple elts x1 tp) (.Call (.Name "enumerate" p) [a] [] pos) (a5S X.K ta):=by
 intro pins s σ H R I h
 refine Call_ (a6O I hg hm boot_enumerate (V2 (thn (ha pos pins s σ H _ I h) fun us s1 ⟨vs,H1,I1,r1,q1⟩=>?_) hs rfl))
 obtain⟨b,e,⟨xs,hq⟩,q⟩:=q1
 subst e
 cases r1 with
 | cons r rr=>
  cases rr
  cases r
  obtain⟨its,rv,pl,hz⟩:=I1.list hq
  refine call_enumerate_list pl.isList fun h' he hit hsz hk=>?_
  have I2:Inv X pins σ H1 { s1 with heap:=h' }:=I1.kept (t':=s1.toks) hk
  refine wpAny_pyIter_enum he ⟨_,[s1.heap.objs.size+1,s1.heap.objs.size],_,_,H1,rfl,I2,b5m b (s1.heap.objs.size+1) s1.heap.objs.size (Nat.succ_ne_self _),⟨⟨_,he⟩,hit⟩,fun c hc=>?_,q⟩
  rcases c8.mp hc with rfl | hc
  ·exact I1.fpOk (by omega) (I1.hok.fresh (by omega))
  ·have:c=s1.heap.objs.size:=by simpa using hc
   subst this
   exact I1.fpOk (d9 _) (I1.hok.fresh (d9 _))
def Itz(K:Fg)(a b:Addr):It:=
 ⟨fun i H=>∃xs ys x y,SqL K H a xs/\SqL K H b ys/\xs[i]? = some x/\ys[i]? = some y,fun i H v H'=>∃p x y,H p=none/\v=.ref p/\H'=upd H p (.tup [x,y])/\(∀xs,SqL K H a xs->xs[i]? = some x)/\∀ys,SqL K H b ys->ys[i]? = some y,
  fun i H=>∃xs ys,SqL K H a xs/\SqL K H b ys/\(xs.length<=i\/ys.length<=i)⟩
theorem O0{h:Heap}{a b:Addr}{o o':Obj}(h1:h.get? a=some o)(h2:h.get? b=some o')(hc:o.cls≠o'.cls):a≠b:=fun z=>by
 subst z;rw[h1]at h2;cases h2;exact hc rfl
theorem b6Z{P:w4}{K:Fg}{x1}(a b z TI TO i1 i2:Addr)(n1:TI≠z)(n2:TO≠z)(n3:i1≠z)(n4:i2≠z)(n5:TI≠TO)(n6:TI≠i1)(n7:TI≠i2)(n8:TO≠i1)(n9:TO≠i2)(n10:i1≠i2) :
  b1i P w K (.Tuple elts x1 tp) (Itz K a b) [z,TI,TO,i1,i2] z (fun i h=>IsZip h z TI TO .none/\IsPair h TI (.ref i1) (.ref i2)/\(∃u v,IsPair h TO u v)/\h.IsListIter i1 a i/\h.IsListIter i2 b i) where
 mem:=by simp
 obj:=fun i h st c hb=>by
  obtain⟨hz,hTI,⟨u,v,hTO⟩,⟨o1,e1,c1,d1⟩,⟨o2,e2,c2,d2⟩⟩:=st
  simp only[c8,j7,or_false]at hb
  rcases hb with rfl | rfl | rfl | rfl | rfl
  ·exact⟨_,hz,fun v z=>by
    have z':Data.fields _=Data.cell v:=z
    cases z'⟩
  ·exact⟨_,hTI,fun v z=>by
    have z':Data.seq _ _=Data.cell v:=z
    cases z'⟩
  ·exact⟨_,hTO,fun v z=>by
    have z':Data.seq _ _=Data.cell v:=z
    cases z'⟩
  ·exact⟨o1,e1,fun v z=>by rw[d1]at z;cases z⟩
  ·exact⟨o2,e2,fun v z=>by rw[d2]at z;cases z⟩
 keep:=fun i h h' st k=>by
  obtain⟨hz,hTI,⟨u,v,hTO⟩,h1,h2⟩:=st
  exact⟨k z (by simp) _ hz,k TI (by simp) _ hTI,⟨u,v,k TO (by simp) _ hTO⟩,h1.at fun o q=>k i1 (by simp) o q,h2.at fun o q=>k i2 (by simp) o q⟩
 item:=by
  intro X hP hw hK hc i pins s σ H E I hf st hg
  subst hP hw hK
  obtain⟨hz,hTI,⟨u,v,hTO⟩,h1,h2⟩:=st
  obtain⟨xs,ys,x,y,hqa,hqb,hx,hy⟩:=hg
  obtain⟨ia,ra,pa,za⟩:=I.list hqa
  obtain⟨ib,rb,pb,zb⟩:=I.list hqb
  obtain⟨ux,hux,rux⟩:=ra.get hx
  obtain⟨uy,huy,ruy⟩:=rb.get hy
  obtain⟨oa,la,ca,_⟩:=id pa.isList
  obtain⟨ob,lb,cb,_⟩:=id pb.isList
  obtain⟨o1,e1,c1,_⟩:=id h1
  obtain⟨o2,e2,c2,_⟩:=id h2
  have D:ZipApart z TI TO i1 i2 a b:=⟨n1,n2,n3,n4,n5,n6,n7,n8,n9,n10,
   O0 la hz (by rw[ca];intro z;injection z with z;revert z;decide),O0 la hTO (by rw[ca];intro z;injection z with z;revert z;decide),O0 la e1 (by rw[ca,c1];intro z;injection z with z;revert z;decide),O0 la e2 (by rw[ca,c2];intro z;injection z with z;revert z;decide),
   O0 lb hz (by rw[cb];intro z;injection z with z;revert z;decide),O0 lb hTO (by rw[cb];intro z;injection z with z;revert z;decide),O0 lb e1 (by rw[cb,c1];intro z;injection z with z;revert z;decide),O0 lb e2 (by rw[cb,c2];intro z;injection z with z;revert z;decide)⟩
  refine wpAny_pyNext_zip_item D hz hTI hTO h1 h2 pa.isList pb.isList (x:=ux) (y:=uy) (by simpa using hux) (by simpa using huy) fun h3 a1 a2 a3 a4 a5 a6 hk=>?_
  refine⟨_,rfl,?_⟩
  refine wpAny_letOwnedTupleGo_zip (s:={ s with heap:=h3 }) a1 fun h4 hz4 hs4=>?_
  have hs4:Heap.SameBut z h3 h4:=hs4
  have lz:z≠s.heap.objs.size:=u7 (i8 hz)
  have fl:∀c∈[z,TI,TO,i1,i2],c≠s.heap.objs.size:=fun c hc=>by
   simp only[c8,j7,or_false]at hc
   rcases hc with rfl | rfl | rfl | rfl | rfl
   ·exact lz
   ·exact u7 (i8 hTI)
   ·exact u7 (i8 hTO)
   ·exact u7 (i8 e1)
   ·exact u7 (i8 e2)
  have I2:=I.pairL (h':=h4) (t':=s.toks) (x:=x) (y:=y) (u:=ux) (v:=uy) hf fl rux ruy ((hs4.2 _ (Ne.symm lz)).trans a5) fun c o hc q=>by
   have m1:c≠z:=fun z=>hc (by simp[z])
   have m3:c≠TO:=fun z=>hc (by simp[z])
   have m4:c≠i1:=fun z=>hc (by simp[z])
   have m5:c≠i2:=fun z=>hc (by simp[z])
   exact(hs4.2 c m1).trans (hk c o m1 m3 m4 m5 q)
  refine⟨.ref s.heap.objs.size,_,I2,rfl,⟨_,x,y,I.fresh,rfl,rfl,fun zs hy=>by rw[I.list_inj hy hqa];exact hx,fun zs hy'=>by rw[I.list_inj hy' hqb];exact hy⟩,
   ⟨hz4,hs4.extBut _ _ n1 (hk _ _ n1 n5 n6 n7 hTI),⟨_,_,hs4.extBut _ _ n2 a2⟩,a3.extBut hs4.extBut n3,a4.extBut hs4.extBut n4⟩,fun c hc=>?_⟩
  rw[c9 (fl c hc)];exact(hf c hc).1
 done:=by
  intro X hP hw hK hc i pins s σ H E I hf st hg
  subst hP hw hK
  obtain⟨hz,hTI,⟨u,v,hTO⟩,h1,h2⟩:=st
  obtain⟨xs,ys,hqa,hqb,hx⟩:=hg
  obtain⟨ia,ra,pa,za⟩:=I.list hqa
  obtain⟨ib,rb,pb,zb⟩:=I.list hqb
  obtain⟨oa,la,ca,_⟩:=id pa.isList
  obtain⟨ob,lb,cb,_⟩:=id pb.isList
  obtain⟨o1,e1,c1,_⟩:=id h1
  obtain⟨o2,e2,c2,_⟩:=id h2
  have D:ZipApart z TI TO i1 i2 a b:=⟨n1,n2,n3,n4,n5,n6,n7,n8,n9,n10,
   O0 la hz (by rw[ca];intro z;injection z with z;revert z;decide),O0 la hTO (by rw[ca];intro z;injection z with z;revert z;decide),O0 la e1 (by rw[ca,c1];intro z;injection z with z;revert z;decide),O0 la e2 (by rw[ca,c2];intro z;injection z with z;revert z;decide),
   O0 lb hz (by rw[cb];intro z;injection z with z;revert z;decide),O0 lb hTO (by rw[cb];intro z;injection z with z;revert z;decide),O0 lb e1 (by rw[cb,c1];intro z;injection z with z;revert z;decide),O0 lb e2 (by rw[cb,c2];intro z;injection z with z;revert z;decide)⟩
  have la':=ra.length
  have lb':=rb.length
  have hend:ia.toArray[i]? = none\/ib.toArray[i]? = none:=by
   rcases hx with hx | hx
   ·left;simp;omega
   ·right;simp;omega
  refine wpAny_pyNext_zip_end (I.ok.hd hc) D hz hTI hTO h1 h2 pa.isList pb.isList hend fun h' hk=>⟨rfl,?_⟩
  refine I.turnedL (t':=s.toks) (fp:=[z,TI,TO,i1,i2]) (fun c o hc q=>?_) hf
  exact hk c o (fun z=>hc (by simp[z])) (fun z=>hc (by simp[z])) (fun z=>hc (by simp[z])) (fun z=>hc (by simp[z])) q
 self:=fun _ _ _ _ _ st h=>wpAny_pyIter_zip st.1 h
def c0L(K:Fg)(ta:TA):TI:=fun σ H R=>ta σ H fun vs H1=>∃a b,vs=[.ref a,.ref b]/\(∃xs,SqL K H1 a xs)/\(∃xs,SqL K H1 b xs)/\R (Itz K a b) H1
theorem c2F{x1}{a b:Expr}{ta:TA}(hg:Gl X "zip")(hm:X.mg "zip" = none)(ha:PA X [a,b] ta)(hs:g7 [a,b] X.env=[(false,eval a X.env),(false,eval b X.env)]:=by rfl)(hs2:g7 [b] X.env=[(false,eval b X.env)]:=by rfl) :
  PI X (.Tuple elts x1 tp) (.Call (.Name "zip" p) [a,b] [] pos) (c0L X.K ta):=by
 intro pins s σ H R I h
 refine Call_ (a6O I hg hm boot_zip (V2 (thn (ha pos pins s σ H _ I h) fun us s1 ⟨vs,H1,I1,r1,q1⟩=>?_) (by rw[hs,hs2]) (by rw[hs2];rfl)))
 obtain⟨c,d,e,⟨xs,hq⟩,⟨ys,hq'⟩,q⟩:=q1
 subst e
 cases r1 with
 | cons r rr=>
  cases rr with
  | cons r' rr=>
   cases rr
   cases r
   cases r'
   obtain⟨ia,ra,pa,za⟩:=I1.list hq
   obtain⟨ib,rb,pb,zb⟩:=I1.list hq'
   refine call_zip_2 pa.isList pb.isList fun h' hz hTI hTO h1 h2 hsz hk=>?_
   have I2:Inv X pins σ H1 { s1 with heap:=h' }:=I1.kept (t':=s1.toks) hk
   have N:∀n:Nat,n+2≠n+4/\n+3≠n+4/\n≠n+4/\n+1≠n+4/\n+2≠n+3/\n+2≠n/\n+2≠n+1/\n+3≠n/\n+3≠n+1/\n≠n+1:=fun n=>by omega
   obtain⟨m1,m2,m3,m4,m5,m6,m7,m8,m9,m10⟩:=N s1.heap.objs.size
   refine wpAny_pyIter_zip hz ⟨_,[s1.heap.objs.size+4,s1.heap.objs.size+2,s1.heap.objs.size+3,s1.heap.objs.size,s1.heap.objs.size+1],_,_,H1,rfl,I2,
    b6Z c d (s1.heap.objs.size+4) (s1.heap.objs.size+2) (s1.heap.objs.size+3) s1.heap.objs.size (s1.heap.objs.size+1) m1 m2 m3 m4 m5 m6 m7 m8 m9 m10,⟨hz,hTI,⟨_,_,hTO⟩,h1,h2⟩,fun y hy=>?_,q⟩
   have:s1.heap.objs.size<=y:=by
    simp only[c8,j7,or_false]at hy
    rcases hy with rfl | rfl | rfl | rfl | rfl
    ·exact a3T _ _
    ·exact a3T _ _
    ·exact a3T _ _
    ·exact d9 _
    ·exact a3T _ _
   exact I1.fpOk this (I1.hok.fresh this)
end
def b0N(x y:Str)(N:List Str):List Str:=N.map fun z=>if z=x then ("." : Str)++x else if z=y then ("." : Str)++y else z
def O3(X:Cx)(scope:Scope)(cl:List (Str×Addr))(C:Addr)(x y:Str)(fp:List Addr)(s3:g9)(H3:Hp):Cx:=
 { X with N:=x::y::b0N x y X.N,s₀:=s3,H₀:=H3,env:=b6u scope cl C X.env,outer:=X.stack,stack:=X.stack,ex:=fp,fn:=fun _=>false,pn:=[],xe:=fun _ _=>False }
structure a1W(N:List Str)(osc sc:Scope)(x y:Str):Prop where
 kind:sc.kind=.function
 cell:∀y∈sc.names,y.2≠.cell
 names:∀y∈sc.names,y.2=.local->sc.names.lookup y.1=some .local
 own:sc.names.lookup x=some .local
 own2:sc.names.lookup y=some .local
 fr:∀y∈sc.names,y.2=.free->osc.names.lookup y.1=some .cell\/osc.names.lookup y.1=some .free
 see:∀z∈b0N x y N,sc.names.lookup z≠some .local
 dot:sc.names.lookup (("." : Str)++x)=none
 dot2:sc.names.lookup (("." : Str)++y)=none
 nd:(x::y::b0N x y N).Nodup
def a6r(K:Fg)(wi:TI)(tt:TT)(te:TE):TE:=fun σ H Q=>wi σ H fun J H1=>∀D,H1 D=none->∃W:Nat->Nat->List V->Hp->Prop,
 (∃m,W 0 m [] (upd H1 D (.lst [])))/\∀i m ys H2,W i m ys H2->H2 D=some (.lst ys) /\
  ((J.stop i H2 /\ Q (.ref D) H2) \/ (J.go i H2 /\ ∀ x H3,J.yld i H2 x H3 -> ∃ a u v,x = .ref a /\ SqT K H3 a [u,v] /\ tt (some u :: some v :: σ) H3 fun ok H4 => if ok = true then
    te (some u::some v::σ) H4 (fun y H5=>H5 D=some (.lst ys)/\ys.length<l7/\∃m',m'<m/\W (i+1) m' (ys++[y]) (upd H5 D (.lst (ys++[y]))))
    else ∃m',m'<m/\W (i+1) m' ys H4))
section
variable {x x2:Str}{px py2 pt:Pos}{kt}
theorem b5Z{s3:g9}{h4:Heap}{tk:Nat}(hc:a1W X.N X.env.scope scope x x2)(I:Inv X pins σ H s3)
  (hcl:∀y c,cl.lookup y=some c->X.env.cells.lookup y=some c) (hcl2:∀y,(y,NameKind.free)∈scope.names->(cl.lookup y).isSome=true)
  (fpo:∀b∈fp,a4o X pins H b) (fpl:∀b∈fp,b<s3.heap.objs.size)
  (hn:h4.Ns s3.heap.objs.size (fun _=>none)) (k:∀b o,s3.heap.get? b=some o->h4.get? b=some o) :
  Inv (O3 X scope cl s3.heap.objs.size x x2 fp s3 H) [] (none::none::σ) H { s3 with heap:=h4,toks:=tk }:=by
 have low:∀x y,(O3 X scope cl s3.heap.objs.size x x2 fp s3 H).env.cells.lookup y=cl.lookup y:=fun _ _=>rfl
 have below:∀y c,cl.lookup y=some c->c<s3.heap.objs.size:=fun y c e=>by
  obtain⟨v,q⟩:=I.cell y c (hcl y c e)
  exact q.lt
 have kinds:∀y,((O3 X scope cl s3.heap.objs.size x x2 fp s3 H).env.kindOf y=some .cell\/(O3 X scope cl s3.heap.objs.size x x2 fp s3 H).env.kindOf y=some .free)->scope.names.lookup y=some .free:=by
  intro y hy
  rcases hy with hy | hy
  ·rcases K6 hy with q | ⟨q,_⟩
   ·exact absurd rfl (hc.cell _ (z8 q))
   ·exact q
  ·rcases K6 hy with q | ⟨q,z⟩
   ·exact q
   ·cases z
 refine⟨⟨I.ok.mod,?_,I.ok.glob,I.ok.blt,d9 _,fun y z c h1 h2=>?_,fun y hy=>?_,fun y c h=>?_,I.ok.hd,I.ok.frames,.inl rfl,fun b hb=>⟨?_,fun y c e z=>?_⟩,fun b o e=>I.bs b o e,A9 I.ok.bsz I.sz,fun b o e hb=>?_,fun b hb hf=>?_,I.stack,I.stkFree⟩,
  rfl,I.bare,Un.kept k,⟨_,hn,fun i y v h1 h2 h3=>?_⟩,fun y c e=>?_,I.fresh,fun y c e=>?_,fun p hp=>absurd (show p∈([]:List (Addr×Obj))from hp) (by simp),I.hok.kept k,?_⟩
 ·exact hc.kind
 ·exact I.ok.inj y z c (hcl _ _ h1) (hcl _ _ h2)
 ·have:=hcl2 y (z8 (kinds y hy))
  exact T5.mp this
 ·cases h
 ·exact u7 (fpl b hb)
 ·exact(fpo b hb).2.2.2.2.1 y c (hcl y c e) z
 ·rcases(fpo b hb).2.2.2.1 with q | q
  ·exact I.ok.noex b o e q
  ·exact absurd (v7 (i8 (I.ok.bs b o e).1) q) (E2 _)
 ·rcases c8.mp (I.stkSub b hf)with e | e
  ·exact(fpo b hb).2.1 e
  ·exact(fpo b hb).2.2.1 e
 ·-- the names
  have h1:(x::x2::b0N x x2 X.N)[i]? = some y:=h1
  cases i with
  | zero=>cases h2
  | succ i=>
   cases i with
   | zero=>cases h2
   | succ i=>
   have h1:(b0N x x2 X.N)[i]? = some y:=h1
   have h2:σ[i]? = some (some v):=h2
   have my:y∈b0N x x2 X.N:=T6 h1
   have h3:(a6j scope X.env).names.lookup y=some .local\/(a6j scope X.env).names.lookup y=some .cell\/(a6j scope X.env).names.lookup y=some .free:=h3
   have hf:scope.names.lookup y=some .free:=by
    rcases h3 with q | q
    ·rcases K6 q with q | ⟨_,z⟩
     ·exact absurd q (hc.see y my)
     ·cases z
    ·exact kinds y q
   have hy:X.N[i]? = some y:=by
    unfold b0N at h1
    rw[b8]at h1
    cases e:X.N[i]? with
    | none=>rw[e]at h1;cases h1
    | some z=>
     rw[e]at h1
     by_cases ez:z=x
     ·rw[a3S,if_pos ez]at h1
      have h1:=Option.some.inj h1
      subst h1
      rw[hc.dot]at hf
      cases hf
     ·rw[a3S,if_neg ez]at h1
      by_cases ez2:z=x2
      ·rw[if_pos ez2]at h1
       have h1:=Option.some.inj h1
       subst h1
       rw[hc.dot2]at hf
       cases hf
      ·rw[if_neg ez2]at h1
       exact h1
   obtain⟨m,_,hl⟩:=I.loc
   obtain⟨c,hcc⟩:=T5.mp (hcl2 y (z8 hf))
   have vis:Vis X.env.scope y:=by
    rcases hc.fr _ (z8 hf) rfl with q | q
    ·exact .inr (.inl q)
    ·exact .inr (.inr q)
   obtain⟨u,ru,lk⟩:=hl i y v hy h2 vis
   refine⟨u,ru,.inr ⟨?_,c,hcc,?_⟩⟩
   ·rcases h3 with q | q
    ·rcases K6 q with q | ⟨_,z⟩
     ·exact absurd q (hc.see y my)
     ·cases z
    ·exact q
   ·have hce:=hcl y c hcc
    rcases lk with ⟨q,_⟩ | ⟨_,c',e',z⟩
    ·rcases hc.fr _ (z8 hf) rfl with q' | q'
     ·have q:X.env.scope.names.lookup y=some .local:=q
      rw[show X.env.scope.names.lookup y=some NameKind.cell from q']at q
      cases q
     ·have q:X.env.scope.names.lookup y=some .local:=q
      rw[show X.env.scope.names.lookup y=some NameKind.free from q']at q
      cases q
    ·rw[e']at hce
     cases hce
     obtain⟨o,ho,hd⟩:=z
     exact⟨o,k _ _ ho,hd⟩
 ·obtain⟨v,o,ho,hd⟩:=I.cell y c (hcl y c e)
  exact⟨v,o,k _ _ ho,hd⟩
 ·exact I.freeC y c (hcl y c e)
 ·show(none::none::σ).length=(x::x2::b0N x x2 X.N).length
  have:=I.len
  simp[b0N,this]
theorem b2J{H1:Hp}{s2:g9}{it:Addr}{tn:Nat->Heap->Prop}{J:It}{Q:VK}{E:Value->g9->Prop}
  {RR:Value->Addr->c4t->g9->Prop} (hc:a1W X.N X.env.scope scope x x2) (hcalm:X.calm=true)
  (hcl:∀y c,cl.lookup y=some c->X.env.cells.lookup y=some c) (hcl2:∀y,(y,NameKind.free)∈scope.names->(cl.lookup y).isSome=true)
  (ht:∀C fp s3 H3,PTs (O3 X scope cl C x x2 fp s3 H3) ifs tt) (he:∀C fp s3 H3,PE (O3 X scope cl C x x2 fp s3 H3) elt te)
  (I:Inv X pins σ H1 s2) (T:b1i X.prog X.w X.K (.Tuple [.Name x px,.Name x2 py2] kt pt) J fp it tn) (st:tn 0 s2.heap) (fpo:∀b∈fp,a4o X pins H1 b)
  (h:∀D,H1 D=none->∃W:Nat->Nat->List V->Hp->Prop,
   (∃m,W 0 m [] (upd H1 D (.lst [])))/\∀i m ys H2,W i m ys H2->H2 D=some (.lst ys) /\
   ((J.stop i H2 /\ Q (.ref D) H2) \/ (J.go i H2 /\ ∀ x H3,J.yld i H2 x H3 -> ∃ a u v,x = .ref a /\ SqT X.K H3 a [u,v] /\ tt (some u :: some v :: σ) H3 fun ok H4 => if ok = true then
     te (some u::some v::σ) H4 (fun y H5=>H5 D=some (.lst ys)/\ys.length<l7/\∃m',m'<m/\W (i+1) m' (ys++[y]) (upd H5 D (.lst (ys++[y]))))
     else ∃m',m'<m/\W (i+1) m' ys H4)))
  (hRR:∀D C s' H' m,Inv X pins σ H' s'->s'.heap.Ns C m->H' C=none->C≠X.env.locals->X.s₀.heap.objs.size<=C->(∀y c,X.env.cells.lookup y=some c->c≠C)->(∀p∈X.pn++pins,p.1≠C)->Q (.ref D) H'->RR (.ref D) C (.ok .next) s') :
  wpAny (model X.prog X.w) X.A (newList []) (fun acc s₃=>wpAny (model X.prog X.w) X.A (newFunctionEnv scope X.env.globals cl [] X.env.qual none .none (some X.env)) (fun cenv s₄=>
   a6k (model X.prog X.w) X.A (.compStart (.ListComp elt [⟨.Tuple [.Name x px,.Name x2 py2] kt pt,iter,ifs,0⟩] scope pos) 0 (.ref it) acc { cenv with scope:=a6j scope X.env }) (RR acc cenv.locals) s₄) E s₃) E s2:=by
 refine O2 (hd:=by size_fits) ?_
 have I3:=I.lnew (ys:=[]) (its:=[]) (t':=s2.toks) .nil (by show 0<=l7;exact L5 _)
 obtain⟨W,⟨m0,w0⟩,turn⟩:=h _ I.fresh
 generalize hD:s2.heap.objs.size=D at I3 w0 turn ⊢
 generalize hs3:({ s2 with heap:=s2.heap.push { cls:=.type "list",data:=.seq ([]:List Value).toArray } }:g9)=s3
 have hs3':({ s2 with heap:=s2.heap.push { cls:=.type "list",data:=.seq ([]:List Value).toArray },toks:=s2.toks }:g9)=s3:=hs3
 rw[hs3']at I3
 have keep3:∀b o,s2.heap.get? b=some o->s3.heap.get? b=some o:=fun b o e=>by rw[<-hs3];exact i9 _ e
 have fpl:∀b∈fp,b<s3.heap.objs.size:=fun b hb=>by
  obtain⟨o,e,_⟩:=T.obj _ _ st b hb
  exact i8 (keep3 b o e)
 have fpD:∀b∈fp,b≠D:=fun b hb z=>by
  obtain⟨o,e,_⟩:=T.obj _ _ st b hb
  exact absurd (i8 e) (by rw[z,hD];exact E2 _)
 have fpo3:∀b∈fp,a4o X pins (upd H1 D (.lst [])) b:=fun b hb=>⟨by rw[c9 (fpD b hb)];exact(fpo b hb).1,(fpo b hb).2⟩
 show wpAny _ _ _ _ _ s3
 refine c5C hc.cell (by intro y hy;simp at hy) (fun h₁ hns₁ hsb₁=>?_) hc.kind
 dsimp only[newEnv]at hns₁ hsb₁ ⊢
 have keep4:∀b o,s3.heap.get? b=some o->h₁.get? b=some o:=fun b o e=>hsb₁.extBut b o (u7 (i8 e)) (i9 _ e)
 have I4:=b5Z (tk:=s3.toks+([]:List (Str×Value)).length) hc I3 hcl hcl2 fpo3 fpl hns₁ keep4
 have st4:tn 0 h₁:=T.keep _ _ _ st fun b hb o e=>keep4 b o (keep3 b o e)
 have loop:∀s₄:g9,s₄={ s3 with heap:=h₁,toks:=s3.toks+([]:List (Str×Value)).length } ->
   a6k (model X.prog X.w) X.A (.compLoop (.ListComp elt [⟨.Tuple [.Name x px,.Name x2 py2] kt pt,iter,ifs,0⟩] scope pos) 0 (.ref it) (.ref D) (b6u scope cl s3.heap.objs.size X.env)) (RR (.ref D) s3.heap.objs.size) s₄:=by
  rintro s₄ rfl
  have stat:∀ {H':Hp},(∀b∈fp,H' b=none)->∀b∈fp,a4o (O3 X scope cl s3.heap.objs.size x x2 fp s3 (upd H1 D (.lst []))) [] H' b:=fun hn b hb=>
   ⟨hn b hb,u7 (fpl b hb),fun hf=>by
    rcases c8.mp (I3.stkSub b hf)with e | e
    ·exact(fpo b hb).2.1 e
    ·exact(fpo b hb).2.2.1 e,.inl hb,fun y c e=>(fpo b hb).2.2.2.2.1 y c (hcl y c e),fun p hp=>absurd (show p∈([]:List (Addr×Obj))from hp) (by simp)⟩
  refine a9X (env:=b6u scope cl s3.heap.objs.size X.env) (fun n s'=>∃i ys H',Inv (O3 X scope cl s3.heap.objs.size x x2 fp s3 (upd H1 D (.lst []))) [] (none::none::σ) H' s'/\tn i s'.heap/\(∀b∈fp,H' b=none)/\W i n ys H') ?_ m0
   ⟨0,[],_,I4,st4,fun b hb=>(fpo3 b hb).1,w0⟩
  rintro n s5 ⟨i,ys,H5,I5,st5,fr5,w5⟩
  obtain⟨hDy,alt⟩:=turn i n ys H5 w5
  rcases alt with ⟨stop,q⟩ | ⟨go,step⟩
  ·refine U6 (T.done (O3 X scope cl s3.heap.objs.size x x2 fp s3 (upd H1 D (.lst []))) rfl rfl rfl hcalm i [] s5 _ H5 (fun _ _=>False) I5 (stat fr5) st5 stop) (fun r s6 ⟨hr,I6⟩=>?_) fun _ _ f=>f
   subst hr
   obtain⟨m6,n6,_⟩:=I6.loc
   have J6:Inv X pins σ H5 s6:=by
    refine I3.call' (ch:=fp) I6.os I6.base I6.hok I6.bare fun b hb=>?_
    obtain⟨_,f1,f2,f3,f4,f5⟩:=fpo3 b hb
    exact⟨f3,f1,f4,f5⟩
   refine hRR D _ s6 H5 m6 J6 n6 I6.free (b6p I3.lt) I3.sz (fun y c e z=>?_) (fun p hp z=>?_) q
   ·obtain⟨v,q⟩:=I3.cell y c e
    exact absurd q.lt (by rw[z];exact E2 _)
   ·exact absurd (i8 (I3.pin p hp).1) (by rw[z];exact E2 _)
  ·refine U6 (T.item (O3 X scope cl s3.heap.objs.size x x2 fp s3 (upd H1 D (.lst []))) rfl rfl rfl hcalm i [] s5 _ H5 (fun _ _=>False) I5 (stat fr5) st5 go) (fun r s6 ⟨u,hr,h6⟩=>?_) fun _ _ f=>f
   subst hr
   refine thn h6 fun _ s6 ⟨xv,H6,I6,r6,y6,st6,fr6⟩=>?_
   have I6':=I6.pinned (stat fr6) (T.obj _ _ st6)
   obtain⟨pa,u1,u2,rfl,hsq,step⟩:=step xv H6 y6
   have hpg:PG (O3 X scope cl s3.heap.objs.size x x2 fp s3 (upd H1 D (.lst []))) (.Tuple [.Name x px,.Name x2 py2] kt pt) (a8G X.K 2 (Y8 (o5 0) (Y8 (o5 1) a8H))):=
    b7N (X:=O3 X scope cl s3.heap.objs.size x x2 fp s3 (upd H1 D (.lst []))) hcalm (a8r (b0D (i:=0) hc.nd rfl (.inl (a0t hc.own)) (.inr (a0t hc.own))) (a8r (b0D (i:=1) hc.nd rfl (.inl (a0t hc.own2)) (.inr (a0t hc.own2))) b4E))
   refine thn (hpg _ s6 (none::none::σ) H6 (.ref pa) u (fun σ' H'=>σ'=some u1::some u2::σ/\H'=H6) I6' r6 ⟨pa,[u1,u2],rfl,hsq,rfl,_,_,rfl,_,_,rfl,rfl,rfl,rfl⟩) fun _ s7 ⟨σ7,H7,I7,e7,e7'⟩=>?_
   subst e7 e7'
   have again:∀ {s8:g9} {H8:Hp} {ys8:List V},Inv (O3 X scope cl s3.heap.objs.size x x2 fp s3 (upd H1 D (.lst []))) ([]++a4T fp s6.heap) (some u1::some u2::σ) H8 s8->(∃m',m'<n/\W (i+1) m' ys8 H8) ->
     ∃m,m<n/\∃i ys H',Inv (O3 X scope cl s3.heap.objs.size x x2 fp s3 (upd H1 D (.lst []))) [] (none::none::σ) H' s8/\tn i s8.heap/\(∀b∈fp,H' b=none)/\W i m ys H':=by
    rintro s8 H8 ys8 I8 ⟨m',hm,w8⟩
    refine⟨m',hm,i+1,ys8,H8,(I8.unpinned (pins:=[])).weak rfl (fun j v e=>?_),T.keep _ _ _ st6 fun b hb o e=>(I8.pin (b,o) (t6 _ (t6 _ (a0A hb e)))).1,fun b hb=>?_,w8⟩
    ·cases j with
     | zero=>cases e
     | succ j=>
      cases j with
      | zero=>cases e
      | succ j=>exact e
    ·obtain⟨o,e,d⟩:=T.obj _ _ st6 b hb
     exact(I8.pin (b,o) (t6 _ (t6 _ (a0A hb e)))).2.1
   refine thn (ht _ fp s3 _ _ s7 _ _ _ I7 step) (fun ok s8 ⟨H8,I8,q8⟩=>?_)
   cases ok with
   | false=>exact again I8 (by simpa using q8)
   | true=>
    rw[if_pos rfl]at q8
    rw[if_pos rfl]
    refine thn (he _ fp s3 _ _ s8 _ H8 _ I8 q8) (fun v s9 ⟨y,H9,I9,r9,hD9,hz9,w9⟩=>?_)
    refine U6 (a6M (X:=O3 X scope cl s3.heap.objs.size x x2 fp s3 (upd H1 D (.lst []))) _ s9 _ H9 (.ref D) [y] (.ref D) [v] (fun _ H'=>H'=upd H9 D (.lst (ys++[y]))) I9 rfl (.cons r9 .nil) ⟨D,ys,y,rfl,rfl,hD9,hz9,rfl⟩) (fun _ s10 ⟨_,H10,I10,_,e10⟩=>?_) fun _ _ f=>f
    subst e10
    exact again I10 w9
 exact c4k (loop _ rfl) (T.self X.A 0 _ _ _ st4 (loop _ rfl))
theorem b2I(hc:a1W X.N X.env.scope scope x x2)(I:Inv X pins σ H s):∀y∈scope.names,y.2=.free->∃c,X.env.cells.lookup y.1=some c:=by
 intro y hy e
 rcases hc.fr y hy e with q | q
 ·exact I.ok.has y.1 (.inl q)
 ·exact I.ok.has y.1 (.inr q)
theorem b7T{wi:TI}(hc:a1W X.N X.env.scope scope x x2)(hcalm:X.calm=true)(hi:PI X (.Tuple [.Name x px,.Name x2 py2] kt pt) iter wi)
  (ht:∀cl C fp s3 H3,PTs (O3 X scope cl C x x2 fp s3 H3) ifs tt) (he:∀cl C fp s3 H3,PE (O3 X scope cl C x x2 fp s3 H3) elt te)
  (hs:∀x,K9 iter X.env x=pure x:=by intro _;rfl) :
  PE X (.ListComp elt [⟨.Tuple [.Name x px,.Name x2 py2] kt pt,iter,ifs,0⟩] scope pos) (a6r X.K wi tt te):=by
 intro pins s σ H Q I h
 obtain⟨cl,hclos,hcl,hcl2⟩:=a5f (b2I hc I)
 rw[eval_ListComp]
 refine a5m (use:=none) rfl hs hclos hc.kind hc.names (thn (hi pins s σ H _ I h) fun v s1 h1=>thn h1 fun itv s2 ⟨it,fp,tn,J,H2,e,I2,T,st,fpo,R⟩=>?_)
 subst e
 refine b2J (RR:=fun acc C=>compPost (model X.prog X.w) X.A X.xe none (EP X pins σ Q) acc C) (Q:=Q) hc hcalm hcl hcl2 (ht cl) (he cl) I2 T st fpo R ?_
 intro D C s' H' m I' n f1 f2 f3 f4 f5 q
 exact⟨m,n,fun h' sb=>⟨.ref D,H',I'.turned (t':=s'.toks) (fun b o hb e=>(sb.2 b hb).trans e) f1 f2 (.inr f3) f4 f5,rfl,q⟩⟩
end
section
variable {x x2:Str}{px py2 pt:Pos}{kt:Nat}
end
section
def b7B:List V->Hp->VK->Prop:=fun xs H Q=>match xs with
 | [.int i,.int j]=>Q (.int (if j<i then j else i)) H
 | _=>False
theorem b6f(hc:X.calm=true):U2 X (.builtin "min") b7B:=(b6l hc).imp fun xs H Q h=>by
 unfold b7B at h
 split at h
 ·exact⟨_,_,rfl,h⟩
 ·exact h.elim
theorem b6n:∀bs:List Bool,((y9 bs.length).any fun i=>(bs[i]?).getD false)=bs.any id:=by
 intro bs
 induction bs with
 | nil=>rfl
 | cons b r ih=>
  rw[v9,List.range_succ_eq_map,P9,List.any_map,P9]
  rw[<-ih]
  rfl
def b3E:List V->Hp->VK->Prop:=fun vs H Q=>match vs with
 | [.ref l]=>match H l with
  | some (.lst xs)=>∃bs,R1 xs=some bs/\Q (.bl (bs.any id)) H
  | _=>False
 | _=>False
theorem b6i(hc:X.calm=true):U2 X (.builtin "any") b3E:=fun pins s σ H xs us Q I r h=>by
 unfold b3E at h
 split at h
 ·split at h
  ·rename_i l _ ys hl
   obtain⟨bs,e,q⟩:=h
   obtain⟨u,rfl,ru⟩:=a5q r
   cases ru
   obtain⟨its,rv,pl,hz⟩:=I.list (SqL.of hl)
   have hlt:l<s.heap.objs.size:=by obtain⟨_,e,_⟩:=pl.isList;exact i8 e
   have hlen:=rv.length
   have hbl:=a6V e
   refine call_any_walk (b2Z pl.isList ?_)
   refine⟨s.heap.objs.size,[s.heap.objs.size,l],[s.heap.objs.size],its.toArray.size,_,_,fun i=>(bs[i]?).getD false,rfl,Walks.list (A:=X.A.in1) (I.ok.hd hc) _ l (u7 hlt) its.toArray,
    ⟨⟨_,t9 _ rfl,rfl,rfl⟩,pl.isList.push _⟩,fun i v s' Q' E' hP hQ=>?_,fun h' tk hk=>?_⟩
   ·have hP:its[i]? = some v:=by simpa using hP
    have hi:i<ys.length:=by rw[hlen];exact(k9.mp hP).1
    have ey:ys[i]? = some ys[i]:=by simp[hi]
    obtain⟨b,eb,ez⟩:=a6W e ey
    obtain⟨u,eu,ru⟩:=rv.get ey
    rw[hP]at eu
    cases eu
    rw[ez]at ru
    cases ru
    simp only[eb,a3m]at hQ
    exact I0 hQ
   ·have e2:((y9 its.toArray.size).any fun i=>(bs[i]?).getD false)=bs.any id:=by
     rw[j4,<-hlen,hbl]
     exact b6n bs
    rw[e2]
    exact⟨.bl _,H,I.kept (t':=tk) fun b x e=>hk b x (fun hm=>by rw[f6.mp hm]at e;exact E2 _ (i8 e)) (i9 _ e),rfl,q⟩
  ·exact h.elim
 ·exact h.elim
def a0Z:List V->Option (List Int)
 | []=>some []
 | .int i::r=>(a0Z r).map (i :: ·)
 | _=>none
theorem a8E(ns:List Int):a0Z (ns.map V.int)=some ns:=by
 induction ns with
 | nil=>rfl
 | cons s r ih=>simp[a0Z,ih]
theorem a3M:∀ {xs:List V} {us:List Value} {ss:List Int},D8 xs us->a0Z xs=some ss->c1Q us ss
 | _,_,ss,.nil,e=>by cases e;exact .nil
 | x::xs,_,ss,.cons r t,e=>by
  cases x with
  | int s=>
   obtain⟨k,rfl⟩:=r
   cases e2:a0Z xs with
   | none=>simp[a0Z,e2]at e
   | some ss2=>
    simp[a0Z,e2]at e
    subst e
    exact .cons _ _ (a3M t e2)
  | _=>simp[a0Z]at e
def a4f:List V->Hp->VK->Prop:=fun vs H Q=>match vs with
 | [.ref l]=>match H l with
  | some (.lst xs)=>∃ns,a0Z xs=some ns/\ns.length<64/\∀(p:Addr) (ms:List Int),ms.Perm ns->ms.Pairwise (· <= ·)->H p=none->Q (.ref p) (upd H p (.lst (ms.map V.int)))
  | _=>False
 | _=>False
theorem b0Y:U2 X (.builtin "sorted") a4f:=fun pins s σ H xs us Q I r h=>by
 unfold a4f at h
 split at h
 ·split at h
  ·rename_i l _ ys hl
   obtain⟨ns,e,hn,q⟩:=h
   obtain⟨u,rfl,ru⟩:=a5q r
   cases ru
   obtain⟨its,rv,pl,hz⟩:=I.list (SqL.of hl)
   have hi:=a3M rv e
   have hil:=hi.length
   refine sorted_ints pl.isList hi (by omega) fun out ns' a1 a2 a3=>?_
   obtain⟨c,he⟩:=sortedAll_at s.heap its out
   have hl':=a2.length_eq
   refine⟨.ref _,_,I.laid (t':=s.toks) (a:=s.heap.objs.size+1) (o:=.lst (ns'.map V.int)) (fun b ob q=>sortedAll_old q) (b8V _) ?_,rfl,q _ ns' a2 a3 (I.hok.fresh (b8V _))⟩
   refine⟨by rw[a8,sizeLine_eq];omega,out.toList,c,a6n a1,?_⟩
   exact he
  ·exact h.elim
 ·exact h.elim
def a6D:V->List V->Hp->VK->Prop:=fun x vs H Q=>match x,vs with
 | .ref l,[.int k]=>match H l with
  | some (.lst xs)=>∃ns,a0Z xs=some ns/\ns.length<10000/\k∈ns/\Q (.int (ns.idxOf k:Nat)) H
  | _=>False
 | _,_=>False
theorem b5K:MtR X "list.index" a6D:=fun pins s σ H x xs v us Q I rx rv h=>by
 unfold a6D at h
 split at h
 ·split at h
  ·rename_i l k _ ys hl
   obtain⟨ns,e,hn,hk,q⟩:=h
   cases rx
   obtain⟨u,rfl,⟨t,rfl⟩⟩:=rv.one
   obtain⟨its,r,pl,hz⟩:=I.list (SqL.of hl)
   have hi:=a3M r e
   obtain⟨⟨cls,dd,data,sl⟩,ho,hc,n,hd⟩:=id pl.isList
   simp only at hc hd
   subst hc hd
   have hlen:=hi.length
   have hj:ns.idxOf k<ns.length:=b2X.mpr hk
   refine c1l b1x ⟨_,ho,rfl⟩ PySem.F.entry_list_index (PySem.F.args_list_index_2 _ _)
    (PySem.SeqAt.list_indexAt l its.toArray n dd sl (.int k t) (isInt k) (ns.idxOf k) (by simpa[hlen]using hj) (by omega) ?_ ?_) ⟨ho,fun y hy=>(eq_isInt k t hi y (by simpa using hy)).at _ _,⟨.int _,H,I.tok _,⟨_,rfl⟩,q⟩⟩
   ·show isInt k its[ns.idxOf k]=true
    rw[isInt_at k hi _ (by omega) hj]
    simpa using List.getElem_idxOf hj
   ·intro j hjs hlt
    show isInt k its[j]=false
    rw[isInt_at k hi j (by simpa using hjs) (by omega)]
    exact ne_of_lt_idxOf hlt _
  ·exact h.elim
 ·exact h.elim
def a2O:V->List V->Hp->VK->Prop:=fun x vs H Q=>match x,vs with
 | .ref l,[.ref b]=>match H l,H b with
  | some (.lst xs),some (.lst zs)=>xs.length+zs.length<=l7/\Q .non (upd H l (.lst (xs++zs)))
  | _,_=>False
 | _,_=>False
theorem b3V:MtR X "list.extend" a2O:=fun pins s σ H x xs v us Q I rx rv h=>by
 refine b5L pins s σ H x xs v us Q I rx rv ?_
 unfold a2O at h
 split at h
 ·split at h
  ·exact⟨_,_,_,_,rfl,rfl,by assumption,by assumption,h.1,h.2⟩
  ·exact h.elim
 ·exact h.elim
def b5w:V->List V->Hp->VK->Prop:=fun x vs H Q=>match x,vs with
 | .ref l,[]=>match H l with
  | some (.lst xs)=>∃y,xs[xs.length - 1]? = some y/\Q y (upd H l (.lst xs.dropLast))
  | _=>False
 | _,_=>False
theorem c0C:MtR X "list.pop" b5w:=fun pins s σ H x xs v us Q I rx rv h=>by
 refine c3p pins s σ H x xs v us Q I rx rv ?_
 unfold b5w at h
 split at h
 ·split at h
  ·obtain⟨y,e,q⟩:=h
   exact⟨_,_,y,rfl,rfl,by assumption,e,q⟩
  ·exact h.elim
 ·exact h.elim
def a6C:List V->Hp->VK->Prop:=fun xs H Q=>match xs with
 | [.ref p]=>match H p with
  | some (.dK kvs)=>∀l,H l=none->Q (.ref l) (upd H l (.lst (kvs.map fun kv=>kV kv.1)))
  | _=>False
 | _=>False
theorem c1H{P:w4}{k:Key}(r:(L6 P w).is k u=true):C4 (kV k) u:=by
 rcases O6 (show a8C k u=true from r)with ⟨i,t,rfl,rfl⟩ | ⟨x,t,rfl,rfl⟩
 ·exact⟨t,rfl⟩
 ·exact⟨t,rfl⟩
theorem b0j:∀ {xs:List V} {us:List Value},xs.length=us.length->(∀(i:Nat) x u,xs[i]? = some x->us[i]? = some u->C4 x u)->D8 xs us
 | [],[],_,_=>.nil
 | x::xs,u::us,hl,h=>.cons (h 0 x u rfl rfl) (b0j (by simpa using hl) fun i y v a b=>h (i+1) y v (by simpa using a) (by simpa using b))
 | [],u::us,hl,_=>by cases hl
 | x::xs,[],hl,_=>by cases hl
theorem b8p:∀ {l:List (Key×V)} {la:List (Key×Value)} {i:Nat} {k:Key} {x:Value},KV l la->la[i]? = some (k,x)->∃y,l[i]? = some (k,y)
 | p::l,q::la,0,k,x,h,e=>by
  have h:Paired _ _ _:=h
  cases h with
  | cons h t=>
   cases e
   exact⟨p.2,by rw[a3q];rw[show k=p.1 from h.1.symm]⟩
 | p::l,q::la,i+1,k,x,h,e=>by
  have h:Paired _ _ _:=h
  cases h with
  | cons h t => 
   obtain⟨y,hy⟩:=b8p (i:=i) (show KV l la from t) (by simpa using e)
   exact⟨y,by simpa using hy⟩
 | [],la,i,k,x,h,e=>by
  have h:Paired _ _ _:=h
  cases h
  cases e
 | p::l,[],i,k,x,h,e=>by
  have h:Paired _ _ _:=h
  cases h
theorem b2R(hc:X.calm=true):U2 X (.type "list") a6C:=fun pins s σ H xs us Q I r h=>by
 unfold a6C at h
 split at h
 ·split at h
  ·rename_i p _ kvs hp
   obtain⟨u,rfl,ru⟩:=a5q r
   cases ru
   obtain⟨hz,hS,vs,rk,hD⟩:=a8L I.hok hp
   obtain⟨ep,hat⟩:=hD.dictAt
   have hl:=Paired.length rk
   refine b8T (PySem.W.kdl_dict (knd:=L6 X.prog X.w) (kvs:=vs) (ep:=ep) hS) (I.ok.hd hc) hat (by omega) fun h' tk acc c hk ha hit=>?_
   refine⟨.ref _,_,I.laid (t':=tk) (a:=s.heap.objs.size) (o:=.lst (kvs.map fun kv=>kV kv.1)) hk (d9 _) ?_,rfl,h _ (I.hok.fresh (d9 _))⟩
   refine⟨by rw[a8];exact hz,acc.toList,c,?_,by simpa using ha⟩
   refine b0j (by have:=hit.1;rw[a8];simp;omega) fun i x u a b=>?_
   obtain⟨k,y,e1,e2⟩:=hit.2 i u (by rw[<-L7];exact b)
   obtain⟨z,e3⟩:=b8p rk e1
   rw[b8,e3]at a
   cases a
   exact c1H e2
  ·exact h.elim
 ·exact h.elim
inductive Dq(K:Fg)(H:Hp):Nat->V->V->Prop
 | flat {n:Nat} {x:V}:E9 x=true->Dq K H n x x
 | tup {n:Nat} {a b:Addr} {xs ys:List V}:SqT K H a xs->SqT K H b ys->xs.length=ys.length->(∀(j:Nat) x y,xs[j]? = some x->ys[j]? = some y->Dq K H n x y)->Dq K H (n+1) (.ref a) (.ref b)
 | lst {n:Nat} {a b:Addr} {xs ys:List V}:SqL K H a xs->SqL K H b ys->xs.length=ys.length->(∀(j:Nat) x y,xs[j]? = some x->ys[j]? = some y->Dq K H n x y)->Dq K H (n+1) (.ref a) (.ref b)
theorem b2D{x:V}(h:E9 x=true):eqV x x=true:=by
 cases x with
 | non=>rfl
 | bl b=>simp[eqV]
 | int i=>simp[eqV]
 | str s=>simp[eqV]
 | byt b=>cases h
 | flt b=>cases h
 | ref a=>cases h
 | ty n=>cases h
theorem a6b{n:Nat}:(y9 n).all (fun _=>true)=true:=by simp
theorem Dq.both(I:Inv X pins σ H s){n:Nat}{x y:V}(d:Dq X.K H n x y):∀ {A:F8} {v u:Value},A.units+n<cLine->C4 x v->C4 y u ->
  SeqAt.EqAt A s v u true/\(∀a b,x=.ref a->y=.ref b->SeqAt.RcAt A s v u true/\SeqAt.RcNeAt A s v u false):=by
 induction d with
 | @flat n x hf=>
  intro A v u hu rv ru
  refine⟨?_,fun a b e=>by subst e;cases hf⟩
  have:=a8I (A:=A) (s:=s) rv ru hf hf
  rwa [b2D hf]at this
 | @tup n a b xs ys ha hb hl hq ih=>
  intro A v u hu rv ru
  cases rv
  cases ru
  obtain⟨us,r1,t1,_⟩:=I.tuple ha
  obtain⟨ws,r2,t2,_⟩:=I.tuple hb
  have l1:=r1.length
  have l2:=r2.length
  have el:∀j (h1:j<us.toArray.size) (h2:j<ws.toArray.size),SeqAt.EqAt A.in1 s us.toArray[j] ws.toArray[j] true:=by
   intro j h1 h2
   have h1':j<xs.length:=by simpa[l1]using h1
   have h2':j<ys.length:=by simpa[l2]using h2
   obtain⟨u1,e1,q1⟩:=r1.get (i:=j) (x:=xs[j]) (by simp)
   obtain⟨u2,e2,q2⟩:=r2.get (i:=j) (x:=ys[j]) (by simp)
   have z1:us.toArray[j]=u1:=by
    have:=(k9.mp e1).2
    simpa using this
   have z2:ws.toArray[j]=u2:=by
    have:=(k9.mp e2).2
    simpa using this
   rw[z1,z2]
   exact(ih j _ _ (by simp) (by simp) (A:=A.in1) (by show A.units+1+n<cLine;omega) q1 q2).1
  have c1:SeqAt.RcAt A s (.ref a) (.ref b) true:=by
   have q:=SeqAt.RcAt.tuples (A:=A) (e:=fun _=>true) t1 t2 (by omega) el
   have e:us.toArray.size=ws.toArray.size:=by simp[<-l1,<-l2,hl]
   rw[a6b,e,beq_self_eq_true]at q
   exact q
  have c2:SeqAt.RcNeAt A s (.ref a) (.ref b) false:=by
   have q:=SeqAt.RcNeAt.tuples (A:=A) (e:=fun _=>true) t1 t2 (by omega) el
   have e:us.toArray.size=ws.toArray.size:=by simp[<-l1,<-l2,hl]
   rw[a6b,e,beq_self_eq_true]at q
   exact q
  refine⟨?_,fun _ _ _ _=>⟨c1,c2⟩⟩
  by_cases e:a=b
  ·subst e;exact SeqAt.EqAt.same _
  ·exact SeqAt.EqAt.of_refs e c1
 | @lst n a b xs ys ha hb hl hq ih=>
  intro A v u hu rv ru
  cases rv
  cases ru
  obtain⟨us,r1,t1,_⟩:=I.list ha
  obtain⟨ws,r2,t2,_⟩:=I.list hb
  have l1:=r1.length
  have l2:=r2.length
  have el:∀j (h1:j<us.toArray.size) (h2:j<ws.toArray.size),SeqAt.EqAt A.in1 s us.toArray[j] ws.toArray[j] true:=by
   intro j h1 h2
   have h1':j<xs.length:=by simpa[l1]using h1
   have h2':j<ys.length:=by simpa[l2]using h2
   obtain⟨u1,e1,q1⟩:=r1.get (i:=j) (x:=xs[j]) (by simp)
   obtain⟨u2,e2,q2⟩:=r2.get (i:=j) (x:=ys[j]) (by simp)
   have z1:us.toArray[j]=u1:=by
    have:=(k9.mp e1).2
    simpa using this
   have z2:ws.toArray[j]=u2:=by
    have:=(k9.mp e2).2
    simpa using this
   rw[z1,z2]
   exact(ih j _ _ (by simp) (by simp) (A:=A.in1) (by show A.units+1+n<cLine;omega) q1 q2).1
  have e:us.toArray.size=ws.toArray.size:=by simp[<-l1,<-l2,hl]
  have c1:SeqAt.RcAt A s (.ref a) (.ref b) true:=by
   have q:=SeqAt.RcAt.lists (A:=A) (e:=fun _=>true) t1.isList t2.isList e (by omega) el
   rw[a6b]at q
   exact q
  have c2:SeqAt.RcNeAt A s (.ref a) (.ref b) false:=by
   have q:=SeqAt.RcNeAt.lists (A:=A) (e:=fun _=>true) t1.isList t2.isList e (by omega) el
   rw[a6b]at q
   exact q
  refine⟨?_,fun _ _ _ _=>⟨c1,c2⟩⟩
  by_cases e:a=b
  ·subst e;exact SeqAt.EqAt.same _
  ·exact SeqAt.EqAt.of_refs e c1
def b9B(K:Fg):R2:=fun x y H Q=>∃a b n,x=.ref a/\y=.ref b/\n<=20/\Dq K H n x y/\Q (.bl true) H
def b9z(K:Fg):R2:=fun x y H Q=>∃a b n,x=.ref a/\y=.ref b/\n<=20/\Dq K H n x y/\Q (.bl false) H
theorem c0l{k:Nat}(hr:M5 k X.A):OpR X (p9 .Eq) (b9B X.K):=by
 intro pins s σ H x y v u Q I rx ry ⟨a,b,n,e1,e2,hn,d,q⟩
 have hu:=hr.units
 exact((d.both I (A:=X.A) (by omega) rx ry).2 a b e1 e2).1 _ _ _ _ ⟨.bl true,H,I,rfl,q⟩
theorem c0f{k:Nat}(hr:M5 k X.A):OpR X (p9 .NotEq) (b9z X.K):=by
 intro pins s σ H x y v u Q I rx ry ⟨a,b,n,e1,e2,hn,d,q⟩
 have hu:=hr.units
 exact((d.both I (A:=X.A) (by omega) rx ry).2 a b e1 e2).2 _ _ _ _ ⟨.bl false,H,I,rfl,q⟩
def c2v(K:Fg):R2:=fun x y H Q=>∃a b xs ys,x=.ref a/\y=.ref b/\SqT K H a xs/\SqT K H b ys/\xs.all E9=true/\ys.all E9=true/\Q (.bl (a0C xs ys)) H
theorem c0n{k:Nat}(hr:M5 k X.A):OpR X (p9 .Eq) (c2v X.K):=by
 intro pins s σ H x y v u Q I rx ry ⟨a,b,xs,ys,e1,e2,ha,hb,fx,fy,q⟩
 have hu:=hr.units
 subst e1 e2
 cases rx
 cases ry
 obtain⟨us,r1,t1,_⟩:=I.tuple ha
 obtain⟨ws,r2,t2,_⟩:=I.tuple hb
 have l1:=r1.length
 have l2:=r2.length
 have q1:=SeqAt.RcAt.tuples (A:=X.A) t1 t2 (by omega) (a5U r1 r2 fx fy)
 simp only[j4,<-l1,<-l2]at q1
 exact q1 _ _ _ _ ⟨.bl (a0C xs ys),H,I,rfl,q⟩
def c2t(K:Fg):R2:=fun x y H Q=>∃p xs,y=.ref p/\SqT K H p xs/\E9 x=true/\xs.all E9=true/\Q (.bl (inV x xs)) H
theorem c0k:OpR X (p9 .In) (c2t X.K):=a9P.imp fun x y H Q ⟨p,xs,e,h1,h2,h3,q⟩=>⟨p,xs,e,.inr h1,h2,h3,q⟩
theorem b7I{e c:Option Expr}:PS X (.Raise e c pos) (fun _ _ _=>False):=fun _ _ _ _ _ _ h=>h.elim
structure b2U(P:w4)(w:World)(K:Fg)(mg:Str->Option Value)(base:Heap)(k:Nat)(x:Str)(C:Addr)(ps:List Str)(sp:Sp):Prop where
 ex:∃f fd,G8 P w K mg base CX0 k f fd ps sp/\mg x=some (.ref C)/\Mk K C f/\a3l K fd ps []
theorem c5b{k j:Nat}{x:Str}{C:Addr}{e:Expr}{es:List Expr}{t:TA}{p:Pos}(M:b2U X.prog X.w X.K X.mg X.base k x C ps sp)(hr:M5 j X.A)(hk:k+1<=j)(hg:Gl X x)(ha:PA X (e::es) t)
  (hdb:(x == ("__debug__" : Str))=false:=by decide) (he:g7 (e::es) X.env=(false,eval e X.env)::g7 es X.env:=by rfl) (hpl:(U8 pos (g7 es X.env)).any (·.1)=false:=by rfl) :
  PE X (.Call (.Name x p) (e::es) [] pos) (a8b C sp [] E0 t):=by
 obtain⟨f,fd,F,hm,hM,hb⟩:=M.ex
 exact b9V hM F (hr.mono hk) hg hm hb .nil b7X ha hdb he hpl
structure a7J(P:w4)(w:World)(K:Fg)(mg:Str->Option Value)(base:Heap)(k:Nat)(m:Str)(C:Addr)(ps:List Str)(sp:Sp):Prop where
 ex:∃f fd,G8 P w K mg base CX0 k f fd ps sp/\Cls K C/\c3U K C m f/\a3l K fd ps []
theorem c2P{pl:Sem Bool}{k j:Nat}{m:Str}{C:Addr}{o e:Expr}{es:List Expr}{ta:TE}{t:TA}{apos:Pos}(M:a7J X.prog X.w X.K X.mg X.base k m C ps sp)(hr:M5 j X.A)(hk:k<=j)(ho:PE X o ta)(ha:PA X (e::es) t)
  (hst:g7 (e::es) X.env=(false,eval e X.env)::g7 es X.env:=by rfl) (hpl:(U8 pos (g7 es X.env)).any (·.1)=false:=by rfl)
  (ht:eval (.Call (.Attribute o m apos) (e::es) [] pos) X.env=(do
   let ov <-eval o X.env
   b6C apos.atName
   let(f,first) <-a3t [ov] (b6D ov m pl)
   callWith pos f first (U8 pos (g7 (e::es) X.env)) (a9e pos (a1Y [] X.env))):=by rfl) :
  PE X (.Call (.Attribute o m apos) (e::es) [] pos) (b1R C m sp [] E0 ta t):=by
 obtain⟨f,fd,F,c,hm,hb⟩:=M.ex
 exact b9U (pl:=pl) ho c hm F (hr.mono hk) hb .nil b7X ha hst hpl ht
end
theorem a5F{env:Env}:∀ {names:List (Str×a4u)} {y:Str},names.lookup y=some .free ->
  (names.map fun(n,k)=>if(k == NameKind.free&&env.scope.kind == .function&&env.kindOf n == some .cell)then (n,NameKind.cell)else (n,k)).lookup y=some .cell \/
  (names.map fun(n,k)=>if(k == NameKind.free&&env.scope.kind == .function&&env.kindOf n == some .cell)then (n,NameKind.cell)else (n,k)).lookup y=some .free
 | [],_,h=>by cases h
 | (n,k0)::r,y,h=>by
  have ih := @a5F env r y
  rw[D4]at h
  rw[F3]
  dsimp only
  cases hx:y == n with
  | true=>
   rw[hx]at h
   cases h
   by_cases hc:(NameKind.free == NameKind.free&&env.scope.kind == .function&&env.kindOf n == some .cell)=true
   ·rw[if_pos hc,D4,hx];exact .inl rfl
   ·rw[if_neg hc,D4,hx];exact .inr rfl
  | false=>
   rw[hx]at h
   by_cases hc:(k0 == NameKind.free&&env.scope.kind == .function&&env.kindOf n == some .cell)=true
   ·rw[if_pos hc,D4,hx];exact ih h
   ·rw[if_neg hc,D4,hx];exact ih h
theorem b4L{sc1 sc:Scope}(h:∀y∈sc.names,y.2=.free->sc1.names.lookup y.1=some .free):∀y∈sc.names,y.2=.free->(a6j sc1 env).names.lookup y.1=some .cell\/(a6j sc1 env).names.lookup y.1=some .free:=
 fun y hy e=>a5F (h y hy e)
end L2
namespace PySem
open Sem (wp)
namespace F
end F
section
variable {prog:w4}{w:World}{A:F8}{E:Value->g9->Prop}{h:Heap}{g:Array GenState}{d:Drawn}{t:Nat}{os:OsState}{a:Addr}{xs:Array Value}{n:Nat}{sl:Array (Option Value)}
end
end PySem
namespace PySem
open Sem (wp)
namespace F
end F
section
variable {prog:w4}{w:World}{K:Type}[DecidableEq K]{knd:KeyKind prog w K}{A:F8}{s:g9}{R:c4t->g9->Prop}
end
section
variable {prog:w4}{w:World}{K:Type}[DecidableEq K]{knd:KeyKind prog w K}{A:F8}{E:Value->g9->Prop}{s:g9}
end
end PySem
namespace L2
open PySem PySem.Spec PyProof.Rows
section
variable {X:Cx}
end
section
variable {X:Cx}{tg:Expr}
end
section
variable {X:Cx}
end
section
variable {X:Cx}
end
structure IsC(K:Fg)(C:Addr):Prop where
 cl:Cls K C
 ha:C0 K (.ref C) "__class__" = some (some (.builtin "object.__class__"))
 hn:a2d K (.builtin "object.__class__") "__get__" = some (some (.builtin "getset_descriptor.__get__"))
 htk:a9a K (.builtin "object.__class__")=some true
 hm:b1r K C (.type "object")=some true
def b7C(K:Fg):List V->Hp->VK->Prop:=fun vs H Q=>∃a C dx fs,vs=[.ref a,.ref C]/\H a=some (.ins C dx fs)/\IsC K C/\Q (.bl true) H
theorem b4n{X:Cx}:U2 X (.builtin "isinstance") (b7C X.K):=fun pins s σ H vs us Q I r h=>by
 obtain⟨a,C,dx,fs,rfl,ha,ic,q⟩:=h
 obtain⟨u,u2,rfl,ru,ru2⟩:=b6V r
 cases ru
 cases ru2
 have e:a4q X.K (.ref C) (.ref C)=some true:=by
  unfold a4q
  rw[if_pos (by simp)]
 exact a9U (x:=.ref a) I rfl (.ins ha ic.cl ic.ha ic.hn ic.htk ic.hm) e fun tk=>⟨.bl true,H,I.tok _,rfl,q⟩
section
variable {P:w4}{w:World}{K:Type}[DecidableEq K]{knd:HeapKind P w K}{A:F8}{E:Value->g9->Prop}{s:g9}
end
section
variable {X:Cx}
theorem c1G{H:Hp}:∀ {l:List (List Key×V)} {m:List (List Key×Addr×Value)} {i:Nat} {k:List Key} {p:Addr} {v:Value},KT H l m->m[i]? = some (k,p,v)->∃y,l[i]? = some (k,y)/\C4 y v/\H p=some (.tup (k.map kV))
 | c::l,d::m,0,k,p,v,h,e=>by
  have h:Paired _ _ _:=h
  cases h with
  | cons h t=>
   obtain⟨h1,h2,h3⟩:=h
   cases e
   have h1:c.1=k:=h1
   rw[h1]at h2
   exact⟨c.2,by rw[a3q,<-h1],h3,h2⟩
 | c::l,d::m,i+1,k,p,v,h,e=>by
  have h:Paired _ _ _:=h
  cases h with
  | cons h t=>exact c1G (i:=i) (show KT H l m from t) e
 | [],m,i,k,p,v,h,e=>by
  have h:Paired _ _ _:=h
  cases h
  cases e
 | c::l,[],i,k,p,v,h,e=>by
  have h:Paired _ _ _:=h
  cases h
end
end L2
namespace PySem
open Sem (wp)
section
variable {prog:w4}{w:World}{A:F8}{E:Value->g9->Prop}{s:g9}
def Raw(h:Heap)(d:Addr)(es:Array a0g)(ep:Nat):Prop:=∃o,h.get? d=some o/\o.ExactDict/\o.data=.dict es ep
theorem Raw.at{h h':Heap}{d:Addr}{es:Array a0g}{ep:Nat}(x:Raw h d es ep)(e:∀o,h.get? d=some o->h'.get? d=some o):Raw h' d es ep:=let⟨o,h1,r⟩:=x; ⟨o,e _ h1,r⟩
theorem Raw.typeIs{d:Addr}{es:Array a0g}{ep:Nat}(x:Raw s.heap d es ep):s.TypeIs (.ref d) "dict" := let⟨o,h1,h2,_⟩:=x; ⟨o,h1,h2.1⟩
theorem iter_raw{d:Addr}{es:Array a0g}{ep:Nat}{Q:Value->g9->Prop}(hd:(d == T0)=false)(hm:Raw s.heap d es ep)
  (hQ:Q (.ref s.heap.objs.size) { s with heap:=s.heap.push { cls:=.type "dict_keyiterator",data:=.fields #[.ref d,.int 0 0,.int es.size 0,.int ep 0] } }):wpAny (model prog w) A (pyIter (.ref d)) Q E s:=by
 have hT:=hm.typeIs
 obtain⟨o,ho,hc,hdat⟩:=id hm
 refine wpAny_pyIter_slot hT F.slot_dict_iter (a2v F.slot_dict_iter hT F.entry_dict_iter ?_ (F.args_dict_iter_1 _))
 unfold Builtin.«dict.__iter__» Builtin.Dict.dictSlotNone
 refine c5 (c5 (c4n hT (o0 ?_)))
 show wpAny _ _ (Builtin.Dict.showsAll d >>= _) _ _ s
 unfold Builtin.Dict.showsAll
 simp only[hd,a7s,if_false]
 refine c5 (o0 (c5 (b3a ho hdat (c5 (b6A ho hdat (c5 (O2 (o0 ⟨_,rfl,"dict_keyiterator",_,⟨_,t9 _ rfl,rfl⟩,F.slot_dict_keyiterator_next.lookup,?_⟩))))))))
 simpa[rawInt]using hQ
theorem next_raw{it d:Addr}{i ep:Nat}{es:Array a0g}{Q:Option Value->g9->Prop}(hit:s.heap.IsKeyIter it d i es.size ep)(hm:Raw s.heap d es ep)(hi:i<es.size)
  (hQ:∀h',h'.IsKeyIter it d (i+1) es.size ep->Heap.SameBut it s.heap h'->Q (some es[i].key) { s with heap:=h' }):wpAny (model prog w) A (c4r (.ref it)) Q E s:=by
 have hT:=hit.typeIs
 obtain⟨o,ho,hc,hd⟩:=id hit
 obtain⟨od,hod,_,hdd⟩:=hm
 have own:Builtin.Dict_items.ownsTuple "dict_keyiterator" = false:=by decide
 unfold c4r
 refine c5 (wpAny_attempt (a6i (name:=Str.ofString "__next__") hT F.slot_dict_keyiterator_next (a2v F.slot_dict_keyiterator_next hT F.entry_dict_keyiterator_next ?_ (F.args_dict_keyiterator_next_1 _))))
 refine c5 (o0 (c5 (c5 (c5 (Y3 hT (o0 (c5 (wpAny_fieldsOf ho hd ?_))))))))
 simp only[own,a7s,if_false]
 show wpAny _ _ (if(Value.ref d == Value.none)=true then _ else _) _ _ s
 have nn:¬(Value.ref d == Value.none)=true:=(l9:¬false=true)
 rw[if_neg nn]
 refine c5 (o0 (c5 (b3a hod hdd ?_)))
 rw[if_neg (by simp)]
 refine c5 (o0 (c5 (b6A hod hdd ?_)))
 rw[if_neg (by simp)]
 refine o0 ?_
 simp only[show ¬((i:Int)<0) by omega,if_false,u4,a2t hi]
 refine c5 (c5 (Y3 hT (o0 (c5 (c4p hT ?_)))))
 show wpAny _ _ (setField (.ref it) 1 (rawInt ((i:Int)+1)) >>= _) _ _ s
 refine c5 (wpAny_setField ho hd (by simp) ?_)
 have hit':(s.heap.update it (Obj.mapFields (·.setIfInBounds 1 (rawInt ((i:Int)+1))))).IsKeyIter it d (i+1) es.size ep:=
  ⟨_,b6s _ ho (Obj.isFreed_of_fields (Obj.data_mapFields hd _)),(Obj.cls_mapFields ..).trans hc,by rw[Obj.data_mapFields hd];simp[rawInt]⟩
 refine c5 (a6h (c5 (c4p (s:={ s with heap:=s.heap.update it (Obj.mapFields (·.setIfInBounds 1 (rawInt ((i:Int)+1)))) }) hit'.typeIs ?_)))
 show wpAny _ _ (pure es[i].key) _ _ _
 exact o0 (o0 ⟨_,rfl,o0 (hQ _ hit' (b1u ..))⟩)
theorem end_raw{it d:Addr}{i ep:Nat}{es:Array a0g}{Q:Option Value->g9->Prop}(hh:A.handled=none)(hit:s.heap.IsKeyIter it d i es.size ep)(hm:Raw s.heap d es ep)(hi:es.size<=i)
  (hQ:∀h',Heap.ExtBut it s.heap h'->Q none { s with heap:=h' }):wpAny (model prog w) A (c4r (.ref it)) Q E s:=by
 have hT:=hit.typeIs
 obtain⟨o,ho,hc,hd⟩:=id hit
 obtain⟨od,hod,_,hdd⟩:=hm
 have own:Builtin.Dict_items.ownsTuple "dict_keyiterator" = false:=by decide
 unfold c4r
 refine c5 (wpAny_attempt (a6i (name:=Str.ofString "__next__") hT F.slot_dict_keyiterator_next (a2v F.slot_dict_keyiterator_next hT F.entry_dict_keyiterator_next ?_ (F.args_dict_keyiterator_next_1 _))))
 refine c5 (o0 (c5 (c5 (c5 (Y3 hT (o0 (c5 (wpAny_fieldsOf ho hd ?_))))))))
 simp only[own,a7s,if_false]
 show wpAny _ _ (if(Value.ref d == Value.none)=true then _ else _) _ _ s
 have nn:¬(Value.ref d == Value.none)=true:=(l9:¬false=true)
 rw[if_neg nn]
 refine c5 (o0 (c5 (b3a hod hdd ?_)))
 rw[if_neg (by simp)]
 refine c5 (o0 (c5 (b6A hod hdd ?_)))
 rw[if_neg (by simp)]
 refine o0 ?_
 simp only[show ¬((i:Int)<0) by omega,if_false,u4,Array.getElem?_eq_none hi]
 refine c5 (c5 (Y3 hT (o0 ?_)))
 show wpAny _ _ (setField (.ref it) 0 .none >>= _) _ _ s
 refine c5 (wpAny_setField ho hd (by simp) ?_)
 refine c5 ?_
 simp only[newExc,newTuple]
 refine c5 (O2 ?_ (by size_fits))
 refine c5 (m:=firstArgMember _ _) (wpAny_of_eq (a:=Value.none) (by simp only[firstArgMember];rfl) (O2 ?_ (by size_fits)))
 simp only[raiseNew]
 refine c5 (wpAny_handled ?_)
 rw[show A.in1.handled=none from hh]
 refine c5 (o0 (wpAny_throw ?_))
 refine c5 (wpAny_isInstance (T := "StopIteration") (b:=true) (show Shared.TypeIs _ (.ref _) _ from⟨_,t9 _ rfl,rfl⟩) isSubtype_stop (o0 (hQ _ ?_)))
 exact((b1u ..).extBut.push _).push _
theorem walks_raw(hh:A.handled=none)(I d:Addr)(hne:d≠I)(es:Array a0g)(ep:Nat) :
  Walks prog w A I [I,d] [I] es.size (fun i v=>∃e,es[i]? = some e/\v=e.key) (fun i h=>h.IsKeyIter I d i es.size ep/\Raw h d es ep) where
 sub:=fun b hb=>by simp at hb;simp[hb]
 frame:=fun _ _ _ st hk=>⟨st.1.at fun o e=>hk I (by simp) o e,st.2.at fun o e=>hk d (by simp) o e⟩
 item:=fun i s Q E hi st hQ=>next_raw st.1 st.2 hi fun h' hit' hs'=>hQ _ h' s.toks ⟨_,a2t hi,rfl⟩ ⟨hit',st.2.at fun o e=>hs'.extBut d o hne e⟩ fun b o hb e=>hs'.extBut b o (fun h=>hb (by simp[h])) e
 done:=fun s Q E st hQ=>end_raw hh st.1 st.2 (d9 _) fun h' he'=>hQ h' s.toks fun b o hb e=>he' b o (fun h=>hb (by simp[h])) e
 self:=fun _ _ _ _ st hQ=>wpAny_pyIter_keyiter st.1 hQ
theorem list_raw{d:Addr}{es:Array a0g}{ep:Nat}(lo:(d == T0)=false):PySem.W.KdlSrc prog w "dict" d d es.size (fun i v=>∃e,es[i]? = some e/\v=e.key) (fun h=>Raw h d es ep) where
 type:=fun s hm=>Raw.typeIs (s:=s) hm
 there:=fun _ ⟨_,h1,_⟩=>⟨i8 h1,i8 h1⟩
 keep:=fun _ _ hm hk=>hm.at fun o e=>hk d (.inl rfl) o e
 notList:=by decide
 notTuple:=by decide
 hint:=fun _ _ _ _ hm hq=>PySem.W.kdl_hint_dict (Raw.typeIs hm) hq
 iter:=fun _ _ hh hm=>⟨_,_,(fun _ _ hq=>iter_raw lo hm hq),walks_raw hh _ d (u7 (let⟨_,h1,_⟩:=hm;i8 h1)) es ep,⟨⟨_,t9 _ rfl,rfl,rfl⟩,hm.at fun _ e=>i9 _ e⟩⟩
end
end PySem
namespace L2
open PySem PySem.Spec PyProof.Rows
section
variable {X:Cx}
def b8L(H:Hp)(bs:List Addr)(ks:List (List Key)):Prop:=bs.length=ks.length/\∀(i:Nat) b k,bs[i]? = some b->ks[i]? = some k->H b=some (.tup (k.map kV))
def b3D:List V->Hp->VK->Prop:=fun xs H Q=>∃p kvs,xs=[.ref p]/\H p=some (.dT kvs)/\∀bs:List Addr,b8L H bs (kvs.map (·.1))->∀l,H l=none->Q (.ref l) (upd H l (.lst (bs.map V.ref)))
theorem c0I{H:Hp}{kvs:List (List Key×V)}{xs:List (List Key×Addr×Value)}(r:KT H kvs xs):b8L H (xs.map (·.2.1)) (kvs.map (·.1)):=by
 have hl:=Paired.length r
 refine⟨by rw[a8,a8,hl],fun i b k e1 e2=>?_⟩
 rw[b8]at e1 e2
 obtain⟨⟨k',p,v⟩,f1,g1⟩:=l6.mp e1
 obtain⟨⟨k2,y⟩,f2,g2⟩:=l6.mp e2
 obtain⟨y',f3,_,f4⟩:=c1G r f1
 rw[f2]at f3
 cases f3
 cases g1
 cases g2
 exact f4
theorem c2l{P:w4}{w:World}{H:Hp}{h:Heap}{a:Addr}{kvs:List (List Key×V)}(ok:HOk P w H h)(e:H a=some (.dT kvs)):(a == T0)=false/\∃es ep xs,Raw h a es ep/\KT H kvs xs/\es.size=xs.length/\∀(i:Nat) en,es[i]? = some en->∃x,xs[i]? = some x/\en.key=.ref x.2.1:=by
 obtain⟨_,hd,xs,r,o,es,ep,h1,h2,h3,h4,_⟩:=b8x ok e
 refine⟨hd,es,ep,xs,⟨o,h1,h2,h3⟩,r,size_of_entries h4,fun i en he=>?_⟩
 rw[<-L7,h4,b8]at he
 obtain⟨x,hx,rfl⟩:=l6.mp he
 exact⟨x,hx,rfl⟩
theorem b2Q(hc:X.calm=true):U2 X (.type "list") b3D:=fun pins s σ H xs us Q I r h=>by
 obtain⟨p,kvs,rfl,hp,q⟩:=h
 obtain⟨u,rfl,ru⟩:=a5q r
 cases ru
 obtain⟨hz,_,_⟩:=b8x I.hok hp
 obtain⟨hS,es,ep,ys,hR,rk,hs,hk⟩:=c2l I.hok hp
 have hl:=Paired.length rk
 refine b8T (list_raw (es:=es) (ep:=ep) hS) (I.ok.hd hc) hR (by omega) fun h' tk acc c hkp ha hit=>?_
 have ka:=c0I rk
 refine⟨.ref _,_,I.laid (t':=tk) (a:=s.heap.objs.size) (o:=.lst ((ys.map (·.2.1)).map V.ref)) hkp (d9 _) ?_,rfl,q _ ka _ (I.hok.fresh (d9 _))⟩
 refine⟨by rw[a8,a8];omega,acc.toList,c,?_,by simpa using ha⟩
 refine b0j (by have:=hit.1;rw[a8,a8];simp;omega) fun i x u a b=>?_
 obtain⟨en,e1,e2⟩:=hit.2 i u (by rw[<-L7];exact b)
 obtain⟨z,e3,e4⟩:=hk i en e1
 rw[b8,b8,e3]at a
 cases a
 rw[e2,e4]
 rfl
end
end L2
namespace PySem
open Sem (wp)
section
variable {prog:w4}{w:World}{K:Type}[DecidableEq K]{knd:HeapKind prog w K}{A:F8}{s:g9}{R:c4t->g9->Prop}
end
section
variable {prog:w4}{w:World}{K:Type}[DecidableEq K]{knd:HeapKind prog w K}{A:F8}{E:Value->g9->Prop}{s:g9}
end
end PySem
namespace L2
open PySem PySem.Spec PyProof.Rows
variable{X:Cx}{pins:List (Addr×Obj)}{σ:St}{H:Hp}{s:g9}{a:Addr}
section
end
section
end
abbrev XE:=List Key×Addr×V
section
variable {b:Addr}{xs:List XE}{k:List Key}
end
section
variable {i o:Expr}{ti to:TE}
end
section
end
section
theorem Inv.thawK{o:Obj}{kvs:List (Key×V)}(I:Inv X pins σ H s)(e:H a=some (.frz o (.dK kvs)))(nf:∀o u,X.H₀ a≠some (.frz o u)):Inv X pins σ (upd H a (.dK kvs)) s:=by
 have no:∀b,H b=none->(upd H a (.dK kvs)) b=none:=fun b q=>by rw[c9 (c7 e q).symm];exact q
 refine⟨I.ok,I.os,I.bare,⟨I.base.keep,I.base.slot,fun b o q n x=>no b (I.base.free b o q n x),I.base.there,fun b xs q=>?_,fun b o u q=>?_,fun b ps q=>?_⟩,I.loc,I.cell,no _ I.free,fun x c q=>no _ (I.freeC x c q),fun p hp=>?_,fun b u q=>?_,I.len⟩
 ·have:=I.base.tups b xs q
  rw[c9 (G0 this e (by intro z;cases z))];exact this
 ·have:b≠a:=fun z=>nf o u (z ▸ q)
  rw[c9 this];exact I.base.frzs b o u q
 ·obtain⟨m,r⟩:=I.base.tbls b ps q
  exact⟨m,by rw[c9 (G0 r e (by intro z;cases z))];exact r⟩
 ·obtain⟨h1,h2,r⟩:=I.pin p hp
  exact⟨h1,no _ h2,r⟩
 ·have st:∀ {c:Addr} {v:HO},R4 X.prog X.w H s.heap c v->R4 X.prog X.w (upd H a (.dK kvs)) s.heap c v:=fun {c v} x=>x.stay (fun _ _ _ r=>r) (fun d r=>by rw[c9 (G0 r e (by intro z;cases z))];exact r) fun d xs r=>by rw[c9 (G0 r e (by intro z;cases z))];exact r
  by_cases hb:b=a
  ·subst hb
   rw[c6]at q
   cases q
   exact st (I.hok b _ e).2
  ·rw[c9 hb]at q
   exact st (I.hok b u q)
theorem a9O{P:w4}{w:World}:∀ {es:List a0g} {kvs:List (Key×Value)},Pairs (L6 P w) es kvs->es.length=kvs.length/\∀(i:Nat) en,es[i]? = some en->∃k,kvs[i]? = some k/\(L6 P w).is k.1 en.key=true
 | _,_,.nil=>⟨rfl,fun i en h=>by cases h⟩
 | _,_,.cons h1 h2 r=>by
  obtain⟨l,g⟩:=a9O r
  refine⟨by rw[v9,v9,l],fun i en h=>?_⟩
  cases i with
  | zero=>cases h;exact⟨_,rfl,h1⟩
  | succ i=>exact g i en h
theorem c4J{P:w4}{w:World}{h:Heap}{kvs:List (Key×V)}(ok:HOk P w H h)(e:H a=some (.dK kvs)):(a == T0)=false/\∃es ep,Raw h a es ep/\es.size=kvs.length/\∀(i:Nat) en,es[i]? = some en->∃k,kvs[i]? = some k/\C4 (kV k.1) en.key:=by
 obtain⟨_,hd,vs,r,o,es,ep,h1,h2,h3,h4,h5,_⟩:=a8L ok e
 obtain⟨l,g⟩:=a9O h5
 have hl:=Paired.length r
 refine⟨hd,es,ep,⟨o,h1,h2,h3⟩,by rw[<-Z7,l];exact hl.symm,fun i en he=>?_⟩
 obtain⟨k,q1,q2⟩:=g i en (by rw[L7];exact he)
 obtain⟨y,hy⟩:=b8p (k:=k.1) (x:=k.2) r q1
 exact⟨_,hy,c1H q2⟩
def Itk(ob:Obj)(a:Addr)(kvs:List (Key×V)):It:=
 ⟨fun i H=>i<kvs.length/\H a=some (.frz ob (.dK kvs)),fun i H x H'=>H'=H/\∃k,kvs[i]? = some k/\x=kV k.1,fun i H=>kvs.length<=i/\H a=some (.frz ob (.dK kvs))⟩
def b4c(P:Addr->Prop)(ta:TE):TI:=fun σ H R=>ta σ H fun x H1=>∃a kvs,x=.ref a/\H1 a=some (.dK kvs)/\(P a->∀ob,R (Itk ob a kvs) (upd H1 a (.frz ob (.dK kvs))))
theorem b3j{P:w4}{w:World}{K:Fg}{tg:Expr}{ob:Obj}{it:Addr}{kvs:List (Key×V)}{es:Array a0g}{ep:Nat}(h2:ob.ExactDict)(h3:ob.data=.dict es ep)(hl:es.size=kvs.length)(hk:∀(i:Nat) en,es[i]? = some en->∃k,kvs[i]? = some k/\C4 (kV k.1) en.key) :
  b1i P w K tg (Itk ob a kvs) [it] it (fun i h=>h.IsKeyIter it a i es.size ep) where
 mem:=by simp
 obj:=fun i h st b hb=>by
  have e:b=it:=by simpa using hb
  subst e
  obtain⟨o,e,c,d⟩:=st
  exact⟨o,e,fun v z=>by rw[d]at z;cases z⟩
 keep:=fun i h h' st k=>st.at fun o e=>k it (by simp) o e
 item:=by
  intro X hP hw hK hc i pins s σ H E I hf st hg
  subst hP hw hK
  obtain⟨hi,e⟩:=hg
  obtain⟨f0,f1,f2,f3,f4,f5⟩:=hf it (by simp)
  have hr:Raw s.heap a es ep:=⟨ob,(I.hok a _ e).1,h2,h3⟩
  have hi':i<es.size:=by omega
  obtain⟨k,hb,kb⟩:=hk i es[i] (a2t hi')
  refine next_raw st hr hi' fun h' st' sb=>?_
  have I1:Inv X pins σ H { s with heap:=h' }:=I.turned (t':=s.toks) (fun b o hb e=>(sb.2 b hb).trans e) f0 f1 f3 f4 f5
  obtain⟨o,e,c,d⟩:=id st'
  exact⟨_,rfl,b4K (s:={ s with heap:=h' }) e c d (by decide) ⟨kV k.1,H,I1,kb,⟨rfl,k,hb,rfl⟩,st',fun b hb=>(hf b hb).1⟩⟩
 done:=by
  intro X hP hw hK hc i pins s σ H E I hf st hg
  subst hP hw hK
  obtain⟨hi,e⟩:=hg
  obtain⟨f0,f1,f2,f3,f4,f5⟩:=hf it (by simp)
  exact end_raw (I.ok.hd hc) st ⟨ob,(I.hok a _ e).1,h2,h3⟩ (by omega) fun h' eb=>⟨rfl,I.turned (t':=s.toks) (fun b o hb e=>eb b o hb e) f0 f1 f3 f4 f5⟩
 self:=fun _ _ _ _ _ st h=>wpAny_pyIter_keyiter st h
theorem b7M{tg l:Expr}{tl:TE}(hl:PE X l tl):PI X tg l (b4c (fun a=>∀o u,X.H₀ a≠some (.frz o u)) tl):=by
 intro pins s σ H R I h
 refine thn (hl pins s σ H _ I h) fun v s1 ⟨x,H1,I1,r1,q1⟩=>?_
 obtain⟨a,kvs,e,hq,q⟩:=q1
 subst e
 cases r1
 obtain⟨hd,es,ep,⟨ob,o1,o2,o3⟩,hs,hk⟩:=c4J I1.hok hq
 have nf:∀o u,X.H₀ a≠some (.frz o u):=fun o u z=>by
  have:=I1.base.frzs a o u z
  rw[hq]at this
  cases this
 refine iter_raw hd ⟨ob,o1,o2,o3⟩ ?_
 have nt:∀d ys,H1 d=some (.tup ys)->(upd H1 a (.frz ob (.dK kvs))) d=some (.tup ys):=fun d ys r=>by rw[c9 (G0 r hq (by intro z;cases z))];exact r
 have I2:Inv X pins σ (upd H1 a (.frz ob (.dK kvs))) s1:=I1.write (x:=a) (e:=a) (h':=s1.heap) (t':=s1.toks) (by rw[hq];exact True.intro) (.inl rfl) (fun _ _ _ e=>e) ⟨ob,o1⟩
  ⟨o1,(I1.hok a _ hq).stay (fun _ _ _ r=>r) (fun d r=>by rw[c9 (G0 r hq (by intro z;cases z))];exact r) nt⟩
 refine⟨s1.heap.objs.size,[s1.heap.objs.size],_,_,_,rfl,I2.kept (t':=s1.toks) fun b o e=>i9 _ e,b3j (es:=es) (ep:=ep) o2 o3 hs hk,⟨_,t9 _ rfl,rfl,rfl⟩,fun b hb=>?_,q nf ob⟩
 have e:b=s1.heap.objs.size:=by simpa using hb
 subst e
 exact I2.fpOk (d9 _) (I2.hok.fresh (d9 _))
end
section
def b5U(k2:List (Key×V)):List (Key×V)->Bool
 | []=>true
 | p::r=>match U3 k2 p.1 with
  | none=>false
  | some y=>eqV p.2 y&&b5U k2 r
theorem b8t{A:F8}{kb:List (Key×Value)}{k2:List (Key×V)}(r2:KV k2 kb)(f2:∀k y,U3 k2 k=some y->E9 y=true):∀ {l:List (Key×V)} {la:List (Key×Value)},KV l la->l.all (fun p=>E9 p.2)=true->PySem.W.KeqHits A s kb la (b5U k2 l):=by
 intro l la r
 unfold KV at r
 induction r with
 | nil=>intro _;exact .nil
 | @cons p q l1 l2 h hr ih=>
  intro fl
  obtain⟨k,x⟩:=p
  obtain⟨k',v⟩:=q
  obtain⟨e,rv⟩:=h
  obtain rfl:k=k':=e
  rw[Q0,Q3]at fl
  have rel:=r2.val k
  unfold b5U
  cases z:U3 k2 k with
  | none=>
   rw[z]at rel
   simp only[z]
   refine .miss ?_
   cases w:b3c kb k with
   | none=>rfl
   | some y=>rw[w]at rel;exact rel.elim
  | some y=>
   rw[z]at rel
   obtain⟨u,hu,ru⟩:=rel.some_of
   simp only[z]
   exact .hit hu (a8I rv ru fl.1 (f2 k y z)) (ih fl.2)
theorem a4w:isSubtype (.type "NoneType") (.type "dict")=pure false:=by rw[isSubtype_type];kernel_rfl
def b9A:R2:=fun x y H Q=>(∃a kvs,x=.ref a/\y=.non/\H a=some (.dK kvs)/\Q (.bl true) H) \/
 ∃a b k1 k2,x=.ref a/\y=.ref b/\H a=some (.dK k1)/\H b=some (.dK k2)/\k1.all (fun p=>E9 p.2)=true/\(∀k y,U3 k2 k=some y->E9 y=true)/\Q (.bl (!(k1.length == k2.length&&b5U k2 k1))) H
theorem c0h(hu:X.A.units<cLine):OpR X (p9 .NotEq) b9A:=by
 intro pins s σ H x y v u Q I rx ry h
 rcases h with ⟨a,kvs,rfl,rfl,h1,q⟩ | ⟨a,b,k1,k2,rfl,rfl,h1,h2,f1,f2,q⟩
 ·cases rx
  cases ry
  obtain⟨_,ha,va,r1,d1⟩:=a8L I.hok h1
  have ht:=d1.typeIs
  have one:∀Q':Value->g9->Prop,Q' .notImplemented s->wpAny (model X.prog X.w) X.A (call (.builtin "dict.__ne__") [.ref a,.none]) Q' X.xe s:=by
   intro Q' hq
   refine a2v b4s ht PySem.F.entry_dict_ne ?_ (PySem.F.args_dict_ne_2 _ _)
   show wpAny _ _ (Builtin.Dict.dictSlotArgs "__ne__" ⟨[.ref a,.none],[]⟩ >>= _) _ _ s
   refine c5 ?_
   unfold Builtin.Dict.dictSlotArgs
   refine c5 (c4n ht ?_)
   show wpAny _ _ (pure (Value.ref a,Value.none)) _ _ s
   refine o0 ?_
   refine c5 (wpAny_isInstance (T := "NoneType") rfl a4w ?_)
   simp only[b1z,if_true]
   refine c5 (wpAny_rule ?_)
   refine o0 ?_
   exact⟨_,rfl,hq⟩
  exact SeqAt.rc_ne_decline_or (k:=false) ht rfl (by decide) a4w b4s a7K one
   (fun _ z=>call_gives a7K rfl PySem.F.entry_NoneType_ne (PySem.F.args_NoneType_ne_2 _ _) (SeqAt.NoneType___ne___none_ref_0 a) z)
   (fun _ z=>wpAny_of_eq (rfl:isSame (.ref a) .none=pure false) z) (.inr hu) ⟨.bl true,H,I,rfl,q⟩
 ·cases rx
  cases ry
  obtain⟨_,ha,va,r1,d1⟩:=a8L I.hok h1
  obtain⟨_,hb,vb,r2,d2⟩:=a8L I.hok h2
  have l1:=Paired.length r1
  have l2:=Paired.length r2
  refine PySem.W.keq_ne ha hb d1 d2 hu (fun _=>b8t r2 f2 r1 f1) ?_
  rw[<-l1,<-l2]
  exact⟨.bl _,H,I,rfl,q⟩
def c1d(H:Hp)(x:V):Prop:=E9 x=true\/∃a zs,x=.ref a/\H a=some (.tup zs)
def eqP(x y:V):Bool:=if E9 x=true then eqV x y else false
def a8m(xs ys:List V):Bool:=(y9 (min xs.length ys.length)).all (fun j=>eqP (xs.getD j .non) (ys.getD j .non))&&xs.length == ys.length
theorem b4C{xs ys:List V}{us ws:List Value}(I:Inv X pins σ H s)(hu:X.A.units+1<cLine)(rx:D8 xs us)(ry:D8 ys ws)(fx:∀z∈xs,c1d H z)(fy:ys.all E9=true) :
  ∀j (h1:j<us.toArray.size) (h2:j<ws.toArray.size),SeqAt.EqAt X.A.in1 s us.toArray[j] ws.toArray[j] (eqP (xs.getD j .non) (ys.getD j .non)):=by
 intro j h1 h2
 have l1:=rx.length
 have l2:=ry.length
 have g1:j<us.length:=by simpa using h1
 have g2:j<ws.length:=by simpa using h2
 have e1:xs[j]? = some (xs[j]'(by omega)):=by simp
 have e2:ys[j]? = some (ys[j]'(by omega)):=by simp
 obtain⟨u,hu',ru⟩:=rx.get e1
 obtain⟨w,hw,rw'⟩:=ry.get e2
 have z1:us.toArray[j]=u:=by
  rw[d8 g1]at hu'
  simpa using hu'
 have z2:ws.toArray[j]=w:=by
  rw[d8 g2]at hw
  simpa using hw
 have q1:xs.getD j .non=xs[j]'(by omega):=by simp[L0,e1]
 have q2:ys.getD j .non=ys[j]'(by omega):=by simp[L0,e2]
 rw[z1,z2,q1,q2]
 have fy':=M8.mp fy _ (C9 (show j<ys.length by omega))
 generalize xs[j]'(by omega)=x at ru e1
 generalize ys[j]'(by omega)=y at rw' fy'
 unfold eqP
 rcases fx x (T6 e1)with f | ⟨a,zs,rfl,ha⟩
 ·rw[if_pos f]
  exact a8I ru rw' f fy'
 ·rw[if_neg (by intro z;cases z)]
  obtain⟨its,_,tp,_⟩:=I.tuple (SqT.of ha)
  cases ru
  have hu2:X.A.in1.units<cLine:=hu
  cases y with
  | non=>cases rw';exact SeqAt.EqAt.tuple_none tp hu2
  | bl b=>cases rw';exact SeqAt.EqAt.tuple_bool b tp hu2
  | int i=>obtain⟨t,rfl⟩:=rw';exact SeqAt.EqAt.tuple_int i t tp hu2
  | str x=>obtain⟨t,rfl⟩:=rw';exact SeqAt.EqAt.tuple_str x t tp hu2
  | _=>cases fy'
def c2u:R2:=fun x y H Q=>∃a b xs ys,x=.ref a/\y=.ref b/\H a=some (.tup xs)/\H b=some (.tup ys)/\(∀z∈xs,c1d H z)/\ys.all E9=true/\Q (.bl (a8m xs ys)) H
def c2s:R2:=fun x y H Q=>∃a b xs ys,x=.ref a/\y=.ref b/\H a=some (.tup xs)/\H b=some (.tup ys)/\(∀z∈xs,c1d H z)/\ys.all E9=true/\Q (.bl (!a8m xs ys)) H
theorem c0m(hu:X.A.units+1<cLine):OpR X (p9 .Eq) c2u:=by
 intro pins s σ H x y v u Q I rx ry ⟨a,b,xs,ys,e1,e2,ha,hb,fx,fy,q⟩
 subst e1 e2
 cases rx
 cases ry
 obtain⟨us,r1,t1,_⟩:=I.tuple (SqT.of ha)
 obtain⟨ws,r2,t2,_⟩:=I.tuple (SqT.of hb)
 have l1:=r1.length
 have l2:=r2.length
 have z:=SeqAt.RcAt.tuples (A:=X.A) t1 t2 (by omega) (b4C I hu r1 r2 fx fy)
 simp only[j4,<-l1,<-l2]at z
 exact z _ _ _ _ ⟨.bl _,H,I,rfl,q⟩
theorem c0g(hu:X.A.units+1<cLine):OpR X (p9 .NotEq) c2s:=by
 intro pins s σ H x y v u Q I rx ry ⟨a,b,xs,ys,e1,e2,ha,hb,fx,fy,q⟩
 subst e1 e2
 cases rx
 cases ry
 obtain⟨us,r1,t1,_⟩:=I.tuple (SqT.of ha)
 obtain⟨ws,r2,t2,_⟩:=I.tuple (SqT.of hb)
 have l1:=r1.length
 have l2:=r2.length
 have z:=SeqAt.RcNeAt.tuples (A:=X.A) t1 t2 (by omega) (b4C I hu r1 r2 fx fy)
 simp only[j4,<-l1,<-l2]at z
 exact z _ _ _ _ ⟨.bl _,H,I,rfl,q⟩
def b4v(ta:TE)(g:TG)(tb:TS):TS:=fun D σ H=>∀P:Addr->Prop,a1g (b4c P ta) g tb { D with nx:=fun σ H=>∃a o kvs,H a=some (.frz o (.dK kvs))/\P a/\D.nx σ (upd H a (.dK kvs)) } σ H
theorem b9K{tg iter:Expr}{body:List Stmt}{tl:TE}{g:TG}{tb:TS}{pos:Pos}(hp:b1C (model X.prog X.w) X.A X.env X.xe)(hc:X.calm=true)(hl:PE X iter tl)(hg:PG X tg g)(hb:PSs X body tb)
  (hs:∀x,K9 iter X.env x=pure x:=by intro _;rfl):PS X (.For tg iter body [] pos) (b4v tl g tb):=by
 intro pins s σ H D I h
 refine thn (b7J hp hc (b7M hl) hg hb hs pins s σ H _ I (h _)) fun f s' hf=>?_
 cases f with
 | next=>
  obtain⟨σ',H',I',a,o,kvs,e,nf,q⟩:=hf
  exact⟨σ',_,I'.thawK e nf,q⟩
 | brk=>exact hf
 | cont=>exact hf
 | ret u=>exact hf
end
end L2
namespace Y
open PySem PySem.Spec PyProof.Rows L2
structure y'E(X:Cx)(e:Expr)(t:TE):Prop where h:PE X e t
structure y'A(X:Cx)(e:List Expr)(t:TA):Prop where h:PA X e t
structure y'S(X:Cx)(e:Stmt)(t:TS):Prop where h:PS X e t
structure a7S(X:Cx)(e:List Stmt)(t:TS):Prop where h:PSs X e t
structure y'T(X:Cx)(e:Expr)(t:TT):Prop where h:PT X e t
structure y'W(X:Cx)(e:Expr)(t:TT):Prop where h:PW X e t
structure b6R(X:Cx)(e:List Expr)(t:TT):Prop where h:PTs X e t
structure b0i(X:Cx)(tg e:Expr)(t:TI):Prop where h:PI X tg e t
structure y'G(X:Cx)(e:Expr)(t:TG):Prop where h:PG X e t
structure b9e(X:Cx)(e:List Expr)(t:TGs):Prop where h:PGs X e t
structure y'O(X:Cx)(e:Option Expr)(t:TO):Prop where h:PO X e t
structure Q9(X:Cx)(f:Value->Value->Sem Value)(r:R2):Prop where h:OpR X f r
structure c6c(X:Cx)(f:Value->Sem Value)(r:V->Hp->VK->Prop):Prop where h:UnR X f r
structure X2(X:Cx)(f:Value)(r:List V->Hp->VK->Prop):Prop where h:U2 X f r
structure a9I(X:Cx)(id:String)(r:V->List V->Hp->VK->Prop):Prop where h:MtR X id r
structure c1p(X:Cx)(r:R2):Prop where h:IxR X r
structure b6S(X:Cx)(r:V->Option Int->Option Int->Hp->VK->Prop):Prop where h:SlR X r
structure b3g(X:Cx)(t:a9w):Prop where h:b8K X t
structure b6U(X:Cx)(t:V->V->Hp->VK->Prop):Prop where h:c3S X t
structure b6T(X:Cx)(op:a9f)(t:TIp):Prop where h:PIp X op t
section
variable {X:Cx}{st:Stmt}{a2N:List Stmt}{t u:TS}{e a b c o i:Expr}{es more:List Expr}{te ta tb tc to ti:TE}{tt tu:TT}{tr:TA}{pos p pos':Pos}{x:Str}
theorem l3:a7S X [] C5:=⟨L2.b9J⟩
theorem b4(h1:y'S X st t)(h2:a7S X a2N u):a7S X (st::a2N) (u5 t u):=⟨L2.b7G h1.h h2.h⟩
theorem b9(h1:y'S X st t):a7S X [st] t:=⟨L2.b9I h1.h⟩
theorem b6G{n:Nat}(hN:X.N.Nodup)(hi:X.N[n]? = some x)(hx:Loc X.env.scope x)(he:y'E X e te)(hs:a1r e (some (.Name x pos')) pos.line X.env=pure false:=by rfl)(hf:X.fn x=true\/X.env.scope.names.lookup x=some .local:=by first | exact .inl rfl | exact .inr rfl) :
  y'S X (.Assign [.Name x pos'] e pos) (D2 te (o5 n)):=⟨L2.c2A hN hi hx he.h hs hf⟩
theorem a0L{tg:Expr}{g:TG}(he:y'E X e te)(hg:y'G X tg g)(hs:swapsWithSole [tg] e pos.line X.env=pure false:=by rfl)(hw:swappedStores [tg] e X.env=pure none:=by rfl)
  (h1:(a0r [tg] X.env).map (·.2)=[a9B tg X.env]:=by rfl):y'S X (.Assign [tg] e pos) (D2 te g):=⟨L2.c2E he.h hg.h hs hw h1⟩
theorem b5b{tget:V->V->Hp->VK->Prop}{tip:TIp}{tset:a9w}{op:a9f}(ho:y'E X o to)(hi:y'E X i ti)(hg:b6U X tget)(he:y'E X e te)(hp:b6T X op tip)(hs:b3g X tset)
  (ha:∀ov iv new,augStore i ov iv new=(do a3t [new,ov,iv] (c1P ov iv new);release [new,ov,iv] [];pure .next):=by intros;rfl):y'S X (.AugAssign (.Subscript o i p) op e pos) (b4w to ti te tget tip tset):=⟨L2.b9N ho.h hi.h hg.h he.h hp.h hs.h ha⟩
theorem b6H{n:Nat}{op:a9f}{tip:TIp}(hN:X.N.Nodup)(hi:X.N[n]? = some x)(hx:Loc X.env.scope x)(he:y'E X e te)(ho:b6T X op tip)(hf:X.fn x=true\/X.env.scope.names.lookup x=some .local:=by first | exact .inl rfl | exact .inr rfl) :
  y'S X (.AugAssign (.Name x pos') op e pos) (b9k n te tip):=⟨L2.c2D hN hi hx he.h ho.h hf⟩
theorem u6{la lb:List Stmt}(hc:y'T X c tt)(ha:a7S X la t)(hb:a7S X lb u):y'S X (.If c la lb pos) (J3 tt t u):=⟨L2.c4Y hc.h ha.h hb.h⟩
theorem l5(he:y'E X e te):y'S X (.Return (some e) pos) (F4 te):=⟨L2.c2B he.h⟩
theorem O8(he:y'E X e te)(hs:a1r e none pos.line X.env=pure false:=by rfl):y'S X (.Expr e pos) (a0O te):=⟨L2.b9L he.h hs⟩
theorem K0{tg:Expr}{wi:TI}{g:TG}{body:List Stmt}(hp:b1C (model X.prog X.w) X.A X.env X.xe)(hc:X.calm=true)(hi:b0i X tg e wi)(hg:y'G X tg g)(hb:a7S X body t)
  (hs:∀x,K9 e X.env x=pure x:=by intro _;rfl):y'S X (.For tg e body [] pos) (a1g wi g t):=⟨L2.b7J hp hc hi.h hg.h hb.h hs⟩
theorem b5c{n:Nat}(hN:X.N.Nodup)(hi:X.N[n]? = some x)(hx:Loc X.env.scope x)(hf:X.fn x=true\/X.env.scope.names.lookup x=some .local:=by first | exact .inl rfl | exact .inr rfl):y'G X (.Name x pos) (o5 n):=⟨L2.b0D hN hi hx hf⟩
theorem a0u:b9e X [] a8H:=⟨L2.b4E⟩
theorem J0{g:TG}{gs:TGs}(h1:y'G X e g)(h2:b9e X es gs)(h:(a0r (e::es) X.env).map (·.2)=a9B e X.env::(a0r es X.env).map (·.2):=by rfl):b9e X (e::es) (Y8 g gs):=⟨L2.a8r h1.h h2.h h⟩
theorem a1u{k n:Nat}{gs:TGs}(hc:X.calm=true)(h:b9e X es gs)(hn:(a0r es X.env).length=n:=by rfl)(hst:(a0r es X.env).findIdx? (·.1)=none:=by rfl):y'G X (.Tuple es k pos) (a8G X.K n gs):=⟨L2.b7N hc h.h hn hst⟩
theorem a3u{ts:a9w}(ho:y'E X o to)(hi:y'E X i ti)(hs:b3g X ts)
  (ha:∀v,a9B (.Subscript o i pos) X.env v=(do
   let ov <-a3t [v] (eval o X.env)
   let iv <-a3t [v,ov] (eval i X.env)
   b6C pos
   a3t [v,ov,iv] (c1P ov iv v)
   release [v,ov,iv] []):=by intro _;rfl):y'G X (.Subscript o i pos) (b0O to ti ts):=⟨L2.c2H ho.h hi.h hs.h ha⟩
theorem F6{tg:Expr}(hg:Gl X "range")(hm:X.mg "range" = none)(ha:y'A X [a] tr)(hs:g7 [a] X.env=[(false,eval a X.env)]:=by rfl):b0i X tg (.Call (.Name "range" p) [a] [] pos) (a0Q tr):=⟨L2.b5z hg hm ha.h hs⟩
theorem D7{tg:Expr}(h:y'E X e te):b0i X tg e (U0 X.K te):=⟨L2.b9S h.h⟩
theorem Y4:y'A X [] j5:=⟨L2.c2W⟩
theorem E3(ha:y'E X e te)(hr:y'A X es tr)(hs:g7 (e::es) X.env=(false,eval e X.env)::g7 es X.env:=by rfl):y'A X (e::es) (a9 te tr):=⟨L2.c0d ha.h hr.h hs⟩
theorem D1:b6R X [] Q1:=⟨L2.b9G⟩
theorem b5a(h:y'T X e tt):b6R X [e] tt:=⟨L2.b9F h.h⟩
theorem L1{elt iter:Expr}{px:Pos}{ifs:List Expr}{scope:Scope}{wi:TI}(hc:K8 X.N X.env.scope scope x)(hcalm:X.calm=true)(hi:b0i X (.Name x px) iter wi)
  (ht:∀cl C fp s3 H3,b6R (Q4 X scope cl C x fp s3 H3) ifs tt) (he:∀cl C fp s3 H3,y'E (Q4 X scope cl C x fp s3 H3) elt te)
  (hs:∀x,K9 iter X.env x=pure x:=by intro _;rfl):y'E X (.ListComp elt [⟨.Name x px,iter,ifs,0⟩] scope pos) (S9 wi tt te):=
 ⟨L2.b9Z hc hcalm hi.h (fun cl C fp s3 H3=>(ht cl C fp s3 H3).h) (fun cl C fp s3 H3=>(he cl C fp s3 H3).h) hs⟩
theorem W9{elt iter:Expr}{px py spos:Pos}{ifs:List Expr}{scope:Scope}{wi:TI}{n:Nat}{y:Str}(hN:X.N.Nodup)(hiy:X.N[n]? = some y)(hy:X.env.scope.names.lookup y=some .local)(hc:K8 X.N X.env.scope scope x)(hcalm:X.calm=true)(hi:b0i X (.Name x px) iter wi)
  (ht:∀cl C fp s3 H3,b6R (Q4 X scope cl C x fp s3 H3) ifs tt) (he:∀cl C fp s3 H3,y'E (Q4 X scope cl C x fp s3 H3) elt te)
  (hsw:a1r (.ListComp elt [⟨.Name x px,iter,ifs,0⟩] scope pos) (some (.Name y py)) spos.line X.env=pure true:=by rfl)
  (hs:∀x,K9 iter X.env x=pure x:=by intro _;rfl) :
  y'S X (.Assign [.Name y py] (.ListComp elt [⟨.Name x px,iter,ifs,0⟩] scope pos) spos) (fun D σ H=>S9 wi tt te σ H fun v H1=>D.nx (σ.set n (some v)) H1):=
 ⟨L2.b3G hN hiy hy hc hcalm hi.h (fun cl C fp s3 H3=>(ht cl C fp s3 H3).h) (fun cl C fp s3 H3=>(he cl C fp s3 H3).h) hsw hs⟩
theorem b6{n:Int}{j}:y'E X (.Constant (.int n) j pos) (tC (.int n)):=⟨L2.c2R⟩
theorem V5{v:Bool}{j}:y'E X (.Constant (.bool v) j pos) (tC (.bl v)):=⟨L2.c5e⟩
theorem a3v{j}:y'E X (.Constant .none j pos) (tC .non):=⟨L2.c2O⟩
theorem t7{j}:y'E X (.Constant (.str x) j pos) (tC (.str x)):=⟨L2.c2K⟩
theorem b7(n:Nat)(hN:X.N[n]? = some x:=by rfl)(hv:Vis X.env.scope x:=by first | exact Or.inl rfl | exact Or.inr (Or.inl rfl) | exact Or.inr (Or.inr rfl))(hd:(x == ("__debug__" : Str))=false:=by decide)
  (hcd:(x == ("__classdict__" : Str))=false:=by decide):y'E X (.Name x pos) (b5 n):=⟨L2.c2I hN hv hd hcd⟩
theorem X1{v:V}{u:Value}(hg:Gl X x)(hm:X.mg x=none)(hv:a0f x=some u)(r:C4 v u)(hn:x ≠ "__name__" := by decide)(hd:(x == ("__debug__" : Str))=false:=by decide):y'E X (.Name x pos) (tC v):=⟨L2.c0c hg hm hv r hn hd⟩
theorem P4{v:V}(hm:∃u,X.mg x=some u/\C4 v u)(hg:Gl X x)(hd:(x == ("__debug__" : Str))=false:=by decide):y'E X (.Name x pos) (tC v):=by
 obtain⟨u,h1,h2⟩:=hm
 exact⟨L2.b9W hg h1 h2 hd⟩
theorem D6{op:a9f}{r:R2}(ho:Q9 X (W1 op) r)(ha:y'E X a ta)(hb:y'E X b tb):y'E X (.BinOp a op b pos) (tOp r ta tb):=⟨L2.c5a ho.h ha.h hb.h⟩
theorem b6L(ha:y'E X a ta):y'E X (.UnaryOp .Not a pos) (b1Q ta):=⟨L2.c2N ha.h⟩
theorem V3{op:CmpOp}{r:R2}(ho:Q9 X (p9 op) r)(ha:y'E X a ta)(hb:y'E X b tb)(hm:M3 op b=false):y'E X (.Compare a [op] [b] pos) (tOp r ta tb):=⟨L2.c0a ho.h ha.h hb.h hm⟩
theorem W8{op:CmpOp}{r:R2}(ho:Q9 X (p9 op) r)(ha:y'E X a ta)(hb:y'E X b tb)(hm:M3 op b=false):y'T X (.Compare a [op] [b] pos) (C1 (tOp r ta tb)):=⟨L2.b9H ho.h ha.h hb.h hm⟩
theorem a7Q{op op':CmpOp}{r r':R2}(ho:Q9 X (p9 op) r)(ho':Q9 X (p9 op') r')(ha:y'E X a ta)(hb:y'E X b tb)(hc:y'E X c tc)
  (hm:c4s [op,op'] [b,c]=false:=by with_unfolding_all rfl):y'E X (.Compare a [op,op'] [b,c] pos) (a3y r r' ta tb tc):=⟨L2.b7U ho.h ho'.h ha.h hb.h hc.h hm⟩
theorem b3e{op op':CmpOp}{r r':R2}(ho:Q9 X (p9 op) r)(ho':Q9 X (p9 op') r')(ha:y'E X a ta)(hb:y'E X b tb)(hc:y'E X c tc)
  (hm:c4s [op,op'] [b,c]=false:=by with_unfolding_all rfl):y'T X (.Compare a [op,op'] [b,c] pos) (C1 (a3y r r' ta tb tc)):=⟨L2.b7F ho.h ho'.h ha.h hb.h hc.h hm⟩
theorem Q7{op}(h:y'E X a te):y'E X (.BoolOp op [a] pos) te:=⟨L2.c2M h.h⟩
theorem N9(ha:y'E X a ta)(hb:y'E X (.BoolOp .And (b::more) pos) tb):y'E X (.BoolOp .And (a::b::more) pos) (a0a ta tb):=⟨L2.c2V ha.h hb.h⟩
theorem b8Z(ha:y'E X a ta)(hb:y'E X (.BoolOp .Or (b::more) pos) tb):y'E X (.BoolOp .Or (a::b::more) pos) (b9i ta tb):=⟨L2.c4Z ha.h hb.h⟩
theorem a4G(hc:y'T X c tt)(ha:y'E X a ta)(hb:y'E X b tb):y'E X (.IfExp c a b pos) (tIf tt ta tb):=⟨L2.b7P hc.h ha.h hb.h⟩
theorem E7{k}(h:y'A X es tr):y'E X (.Tuple es k pos) (a0w tr):=⟨L2.c2J h.h⟩
theorem J2(h:y'A X es tr):y'E X (.List es pos) (a1f tr):=⟨L2.c2Q h.h⟩
theorem a3W:y'O X none a2A:=⟨L2.b9R⟩
theorem a3V(h:y'E X e te):y'O X (some e) (a8a te):=⟨L2.b9Q h.h⟩
theorem a2w{lo hi:Option Expr}{tl th:TO}{r:V->Option Int->Option Int->Hp->VK->Prop}(hr:b6S X r)(he:y'E X e te)(hl:y'O X lo tl)(hu:y'O X hi th):y'E X (.Subscript e (.Slice lo hi none p) pos) (tSl r te tl th):=⟨L2.b7O hr.h he.h hl.h hu.h⟩
theorem b9b{r:R2}(hr:c1p X r)(ha:y'E X a ta)(hb:y'E X b tb)(hs:b1l b):y'E X (.Subscript a b pos) (tOp r ta tb):=⟨L2.c5c hr.h ha.h hb.h hs⟩
theorem b6K{k j:Nat}{ps:List Str}{sp:Sp}(C:C6 X.prog X.w X.K X.mg X.base k x ps sp)(hr:M5 j X.A)(hk:k<=j)(hg:Gl X x)(ha:y'A X (e::es) tr)
  (hdb:(x == ("__debug__" : Str))=false:=by decide) (he:g7 (e::es) X.env=(false,eval e X.env)::g7 es X.env:=by rfl) (hpl:(U8 pos (g7 es X.env)).any (·.1)=false:=by rfl) :
  y'E X (.Call (.Name x p) (e::es) [] pos) (u9 sp [] E0 tr):=⟨L2.c2L C hr hk hg ha.h hdb he hpl⟩
theorem j6{id:String}{r:List V->Hp->VK->Prop}(hc:X2 X (.builtin id) r)(hg:Gl X x)(hm:X.mg x=none)(hv:a0f x=some (.builtin id))(ha:y'A X (e::es) tr)(hn:x ≠ "__name__" := by decide)(hdb:(x == ("__debug__" : Str))=false:=by decide)
  (he:g7 (e::es) X.env=(false,eval e X.env)::g7 es X.env:=by rfl) (hpl:(U8 pos (g7 es X.env)).any (·.1)=false:=by rfl):y'E X (.Call (.Name x p) (e::es) [] pos) (tCB r tr):=⟨L2.b7V hc.h hg hm hv ha.h hn hdb he hpl⟩
theorem W4{id:String}{r:List V->Hp->VK->Prop}(hc:X2 X (.type id) r)(hg:Gl X x)(hm:X.mg x=none)(hv:a0f x=some (.type id))(ha:y'A X (e::es) tr)(hn:x ≠ "__name__" := by decide)(hdb:(x == ("__debug__" : Str))=false:=by decide)
  (he:g7 (e::es) X.env=(false,eval e X.env)::g7 es X.env:=by rfl) (hpl:(U8 pos (g7 es X.env)).any (·.1)=false:=by rfl):y'E X (.Call (.Name x p) (e::es) [] pos) (tCB r tr):=⟨L2.b5A hc.h hg hm hv ha.h hn hdb he hpl⟩
theorem a2y{ty id:String}{name:Str}{r:V->List V->Hp->VK->Prop}{apos:Pos}(pa:c1m ty)(slot:Slot ty name id)(hty:typeOf (.builtin id)=pure (.type "method_descriptor"))(hm:a9I X id r)(ho:y'E X o to)(ha:y'A X (e::es) tr)
  (hbase:U9 o name X.env (eval o X.env)=eval o X.env:=by rfl)
  (hfew:((U8 pos (g7 (e::es) X.env)).all (fun x => !x.1)&&(a9e pos (a1Y [] X.env)).all (fun x=>x.1.isSome)
   && decide ((e::es).length+([]:List a6l).length+(if([]:List a6l).isEmpty then 0 else 1)<30))=true:=by rfl)
  (hline:(apos.endLine == pos.line)=true:=by rfl) (hs:g7 (e::es) X.env=(false,eval e X.env)::g7 es X.env:=by rfl) (hplain:(U8 pos (g7 es X.env)).any (·.1)=false:=by rfl) :
  y'E X (.Call (.Attribute o name apos) (e::es) [] pos) (tBM X.K ty r to tr):=⟨L2.c5d pa slot hty hm.h ho.h ha.h hbase hfew hline hs hplain⟩
theorem V1(ha:y'T X a tt):y'T X (.UnaryOp .Not a pos) (a4J tt):=⟨L2.c2z ha.h⟩
theorem Z8(ha:y'T X a tt):y'W X (.BoolOp .And [a] pos) tt:=⟨L2.b9D ha.h⟩
theorem V0(ha:y'T X a tt):y'W X (.BoolOp .Or [a] pos) tt:=⟨L2.c2w ha.h⟩
theorem a0J(ha:y'T X a tt)(hb:y'W X (.BoolOp .And (b::more) pos) tu):y'W X (.BoolOp .And (a::b::more) pos) (a8d tt tu):=⟨L2.c2x ha.h hb.h⟩
theorem W7(ha:y'T X a tt)(hb:y'W X (.BoolOp .Or (b::more) pos) tu):y'W X (.BoolOp .Or (a::b::more) pos) (tOr tt tu):=⟨L2.c4X ha.h hb.h⟩
theorem M9(h:y'W X e tt):y'T X e tt:=⟨PW.pt h.h⟩
theorem N7(h:y'E X e te)(he:∀whole,isTrue e X.env whole=(do let v <-whole;b6C e.pos;a3t [v] (truthy v)):=by intro _;rfl):y'T X e (tB te):=⟨L2.c2y h.h he⟩
theorem Q6:Q9 X (W1 .Add) a2P:=⟨L2.c0p⟩
theorem a6m:Q9 X (W1 .Sub) b7A:=⟨L2.c0e⟩
theorem a2h:Q9 X (W1 .Mult) b3C:=⟨L2.c0i⟩
theorem Z9:Q9 X (W1 .Mod) a9n:=⟨L2.c0j⟩
theorem a9H:Q9 X (W1 .FloorDiv) b9C:=⟨L2.c0o⟩
theorem A8{k:Nat}(hr:M5 k X.A):Q9 X (p9 .Eq) qEq:=⟨L2.c3e hr.units0⟩
theorem a2g{k:Nat}(hr:M5 k X.A):Q9 X (p9 .NotEq) qNe:=⟨L2.c2Y hr.units0⟩
theorem a0i:X2 X (.type "list") a3D:=⟨L2.b4m⟩
theorem a0h:Q9 X (p9 .Lt) qLt:=⟨L2.c2Z⟩
theorem a5o:Q9 X (p9 .LtE) qLe:=⟨L2.c3a⟩
theorem a2i:Q9 X (p9 .Gt) qGt:=⟨L2.c3c⟩
theorem b6Q:Q9 X (p9 .GtE) qGe:=⟨L2.c3d⟩
theorem a0N:Q9 X (p9 .In) (qIn false):=⟨L2.c3b⟩
theorem a7d:Q9 X (p9 .IsNot) a8q:=⟨L2.b5C⟩
theorem a0v:y'E X (.Dict [] [] pos) a2C:=⟨L2.b7R⟩
theorem a1n{k:Nat}(hr:M5 k X.A)(ho:y'E X o to)(hi:y'E X i ti)(hs:c3T i):y'E X (.Subscript o i pos) (a5u to ti):=⟨L2.b9Y (a7m hr) ho.h hi.h hs⟩
theorem b6O{k:Nat}(hr:M5 k X.A)(hi:y'E X i ti)(ho:y'E X o to)(h1:M3 .In o=false):y'E X (.Compare i [.In] [o] pos) (a8c ti to):=⟨L2.c2T (L2.b7W (a7m hr) hi.h ho.h) h1⟩
theorem a5n{k:Nat}(hr:M5 k X.A)(hi:y'E X i ti)(ho:y'E X o to)(h1:M3 .In o=false):y'T X (.Compare i [.In] [o] pos) (tB (a8c ti to)):=⟨L2.b7E (L2.b7W (a7m hr) hi.h ho.h) h1⟩
theorem X0{k:Nat}(hr:M5 k X.A)(ho:y'E X o to)(hi:y'E X i ti)(hv:y'E X e te)(hs:a1r e (some (.Subscript o i pos')) pos.line X.env=pure false:=by rfl):y'S X (.Assign [.Subscript o i pos'] e pos) (a1c to ti te):=⟨L2.b9M (a7m hr) ho.h hi.h hv.h hs⟩
theorem a2x{k:Nat}{apos:Pos}{f:Expr}{tf:TE}(hr:M5 k X.A)(ho:y'E X o to)(he:y'E X e te)(hf:y'E X f tf)(m1:U9 o "get" X.env (eval o X.env)=eval o X.env:=by rfl)
  (m2:((U8 pos (g7 [e,f] X.env)).all (fun x => !x.1)&&(a9e pos (a1Y [] X.env)).all (fun x=>x.1.isSome)
   && decide (([e,f]:List Expr).length+([]:List a6l).length+(if([]:List a6l).isEmpty then 0 else 1)<30))=true:=by rfl)
  (m3:(apos.endLine == pos.line)=true:=by rfl) (m4:U8 pos (g7 [e,f] X.env)=[(false,eval e X.env),(false,eval f X.env)]:=by rfl) :
  y'E X (.Call (.Attribute o "get" apos) [e,f] [] pos) (a4K to te tf):=⟨L2.b7S (a7m hr) ho.h he.h hf.h ⟨m1,m2,m3,m4⟩⟩
theorem b6J{tg:Expr}(h:y'E X e te):b0i X tg e (c0M te):=⟨L2.c2G h.h⟩
theorem a7e(hc:X.calm=true):X2 X (.builtin "all") b0C:=⟨L2.b6j hc⟩
theorem c1R:c1p X qIx:=⟨L2.c5S⟩
theorem b3d:b6S X qSl:=⟨L2.c5H⟩
theorem b4Z:b6S X (c2m X.K):=⟨L2.b4x⟩
theorem a3U:b3g X a7u:=⟨L2.c4v⟩
theorem b9c:b6U X b5x:=⟨L2.c5l⟩
theorem b1F:b6T X .Add (ipI fun i j=>i+j):=⟨L2.c3E⟩
theorem q9:X2 X (.builtin "len") T1:=⟨L2.b6g⟩
theorem b1J:X2 X (.builtin "abs") b7D:=⟨L2.b6k⟩
theorem Q8:X2 X (.builtin "isinstance") a4S:=⟨L2.b6h⟩
theorem a1e:a9I X "list.append" a0F:=⟨L2.b3W⟩
end
theorem b1G{P:w4}{w:World}{K:Fg}{mg:Str->Option Value}{base:Heap}{x qual:Str}{st:Stmt}{f:Addr}{fd:W2}{N ps:List Str}{k:Nat}{sp:Sp}(F:Fun K x qual st f fd)(y'S:v6 N ps (g8 st))(len:∀vs H Q y'E,sp vs H Q y'E->vs.length=ps.length)
  (hbody:∀(cdv:Value) (y'A:F8) (outer:List Env) (s:g9) (H:Hp) (vs:List V) (Q:VK) (y'E:XK),M5 k (y'A.deeper (b1B qual (g8 st) s.heap.objs.size f cdv))->sp vs H Q y'E ->
   ∃t,a7S (b2H CX0 P w K mg base N qual (g8 st) f cdv y'A outer s H y'E).nox (a0m st) t/\t { nx:=fun _ H'=>Q .non H',rt:=Q } (a5w N vs) H):G8 P w K mg base CX0 (k+1) f fd ps sp:=
 F.ok y'S len fun cdv y'A outer s H vs Q y'E hr h=>let⟨t,a,b⟩:=hbody cdv y'A outer s H vs Q y'E hr h; ⟨t,a.h,b⟩
end Y
namespace Y
open PySem PySem.Spec PyProof.Rows L2
section
variable {X:Cx}{st:Stmt}{a2N:List Stmt}{t u:TS}{e a b c o i:Expr}{es more:List Expr}{te ta tb tc to ti:TE}{tt tu:TT}{tr:TA}{pos p pos':Pos}{x y:Str}
theorem a1m{elts:List Expr}{x1}{tp:Pos}(hg:Gl X "enumerate")(hm:X.mg "enumerate" = none)(ha:y'A X [a] tr)(hs:g7 [a] X.env=[(false,eval a X.env)]:=by rfl) :
  b0i X (.Tuple elts x1 tp) (.Call (.Name "enumerate" p) [a] [] pos) (a5S X.K tr):=⟨L2.b9T hg hm ha.h hs⟩
theorem b6I{elts:List Expr}{x1}{tp:Pos}(hg:Gl X "zip")(hm:X.mg "zip" = none)(ha:y'A X [a,b] tr)(hs:g7 [a,b] X.env=[(false,eval a X.env),(false,eval b X.env)]:=by rfl)(hs2:g7 [b] X.env=[(false,eval b X.env)]:=by rfl) :
  b0i X (.Tuple elts x1 tp) (.Call (.Name "zip" p) [a,b] [] pos) (c0L X.K tr):=⟨L2.c2F hg hm ha.h hs hs2⟩
theorem a4H{elt iter:Expr}{px py pt:Pos}{kt}{ifs:List Expr}{scope:Scope}{wi:TI}(hc:a1W X.N X.env.scope scope x y)(hcalm:X.calm=true)(hi:b0i X (.Tuple [.Name x px,.Name y py] kt pt) iter wi)
  (ht:∀cl C fp s3 H3,b6R (O3 X scope cl C x y fp s3 H3) ifs tt) (he:∀cl C fp s3 H3,y'E (O3 X scope cl C x y fp s3 H3) elt te)
  (hs:∀x,K9 iter X.env x=pure x:=by intro _;rfl):y'E X (.ListComp elt [⟨.Tuple [.Name x px,.Name y py] kt pt,iter,ifs,0⟩] scope pos) (a6r X.K wi tt te):=
 ⟨L2.b7T hc hcalm hi.h (fun cl C fp s3 H3=>(ht cl C fp s3 H3).h) (fun cl C fp s3 H3=>(he cl C fp s3 H3).h) hs⟩
theorem a4F{body:List Stmt}(hp:b1C (model X.prog X.w) X.A X.env X.xe)(hc:y'T X c tt)(hb:a7S X body t):y'S X (.While c body [] pos) (a6q tt t):=⟨L2.b7H hp hc.h hb.h⟩
theorem a1t{e c:Option Expr}:y'S X (.Raise e c pos) (fun _ _ _=>False):=⟨L2.b7I⟩
theorem N8{f:Str}(he:y'E X e te)(hb:U9 e f X.env (eval e X.env)=eval e X.env:=by rfl):y'E X (.Attribute e f pos) (a2B X.K te f):=⟨L2.c2S he.h hb⟩
theorem a7O{f:Str}(ha:y'E X o to)(hv:y'E X e te)(hs:a1r e (some (.Attribute o f pos')) pos.line X.env=pure false:=by rfl):y'S X (.Assign [.Attribute o f pos'] e pos) (b5v X.K to te f):=⟨L2.c2C ha.h hv.h hs⟩
theorem b9a{k j:Nat}{C:Addr}{ps:List Str}{sp:Sp}(M:b2U X.prog X.w X.K X.mg X.base k x C ps sp)(hr:M5 j X.A)(hk:k+1<=j)(hg:Gl X x)(ha:y'A X (e::es) tr)
  (hdb:(x == ("__debug__" : Str))=false:=by decide) (he:g7 (e::es) X.env=(false,eval e X.env)::g7 es X.env:=by rfl) (hpl:(U8 pos (g7 es X.env)).any (·.1)=false:=by rfl) :
  y'E X (.Call (.Name x p) (e::es) [] pos) (a8b C sp [] E0 tr):=⟨L2.c5b M hr hk hg ha.h hdb he hpl⟩
theorem b6M{pl:Sem Bool}{k j:Nat}{m:Str}{C:Addr}{ps:List Str}{sp:Sp}{apos:Pos}(M:a7J X.prog X.w X.K X.mg X.base k m C ps sp)(hr:M5 j X.A)(hk:k<=j)(ho:y'E X o to)(ha:y'A X (e::es) tr)
  (hst:g7 (e::es) X.env=(false,eval e X.env)::g7 es X.env:=by rfl) (hpl:(U8 pos (g7 es X.env)).any (·.1)=false:=by rfl)
  (ht:eval (.Call (.Attribute o m apos) (e::es) [] pos) X.env=(do
   let ov <-eval o X.env
   b6C apos.atName
   let(f,first) <-a3t [ov] (b6D ov m pl)
   callWith pos f first (U8 pos (g7 (e::es) X.env)) (a9e pos (a1Y [] X.env))):=by rfl) :
  y'E X (.Call (.Attribute o m apos) (e::es) [] pos) (b1R C m sp [] E0 to tr):=⟨L2.c2P (pl:=pl) M hr hk ho.h ha.h hst hpl ht⟩
theorem b6P{ty id:String}{name:Str}{r:V->List V->Hp->VK->Prop}{apos:Pos}(pa:c1m ty)(slot:Slot ty name id)(hty:typeOf (.builtin id)=pure (.type "method_descriptor"))(hm:a9I X id r)(ho:y'E X o to)
  (hbase:U9 o name X.env (eval o X.env)=eval o X.env:=by rfl) (hline:(apos.endLine == pos.line)=true:=by rfl):y'E X (.Call (.Attribute o name apos) [] [] pos) (b9j X.K ty r to):=⟨L2.c2U pa slot hty hm.h ho.h hbase hline⟩
structure b9d(X:Cx)(pos:Pos)(ks:List (Option Expr))(vs:List Expr)(trs:List (TE×TE)):Prop where h:PPs X pos ks vs trs
theorem a9D:b9d X pos [] [] []:=⟨L2.b9O⟩
theorem a7P{ks:List (Option Expr)}{vs:List Expr}{trs:List (TE×TE)}(hk:y'E X a ta)(hv:y'E X b tb)(hr:b9d X pos ks vs trs):b9d X pos (some a::ks) (b::vs) ((ta,tb)::trs):=⟨L2.b7K hk.h hv.h hr.h⟩
theorem a9E{keys:List (Option Expr)}{values:List Expr}{trs:List (TE×TE)}(h:b9d X pos keys values trs)(hall:keys.all (·.isSome)=true:=by rfl)(hl:keys.length=values.length:=by rfl)(h0:keys≠[]:=by intro z;cases z)
  (h15:keys.length<=15:=by decide):y'E X (.Dict keys values pos) (b1S trs):=⟨L2.b9X h.h hall hl h0 h15⟩
theorem a0K{k:Nat}(hr:M5 k X.A)(hi:y'E X i ti)(ho:y'E X o to)(h1:M3 .NotIn o=false):y'T X (.Compare i [.NotIn] [o] pos) (tB (a1h ti to)):=⟨L2.b7E (L2.b5B (a7m hr) hi.h ho.h) h1⟩
theorem b1H(hc:X.calm=true):X2 X (.builtin "min") b7B:=⟨L2.b6f hc⟩
theorem b1I(hc:X.calm=true):X2 X (.builtin "any") b3E:=⟨L2.b6i hc⟩
theorem a7R:X2 X (.builtin "sorted") a4f:=⟨L2.b0Y⟩
theorem a9i(hc:X.calm=true):X2 X (.type "list") a6C:=⟨L2.b2R hc⟩
theorem b1E:a9I X "list.index" a6D:=⟨L2.b5K⟩
theorem a5p:a9I X "list.extend" a2O:=⟨L2.b3V⟩
theorem b5i:a9I X "list.pop" b5w:=⟨L2.c0C⟩
theorem a9G{k:Nat}(hr:M5 k X.A):Q9 X (p9 .Eq) (b9B X.K):=⟨L2.c0l hr⟩
theorem a9F{k:Nat}(hr:M5 k X.A):Q9 X (p9 .NotEq) (b9z X.K):=⟨L2.c0f hr⟩
theorem b5h{k:Nat}(hr:M5 k X.A):Q9 X (p9 .Eq) (c2v X.K):=⟨L2.c0n hr⟩
theorem b5f:Q9 X (p9 .In) (c2t X.K):=⟨L2.c0k⟩
end
end Y
namespace Y
open PySem PySem.Spec PyProof.Rows L2
end Y
namespace Y
open PySem PySem.Spec PyProof.Rows L2
end Y
namespace Y
open PySem PySem.Spec PyProof.Rows L2
end Y
namespace Y
open PySem PySem.Spec PyProof.Rows L2
end Y
namespace Y
open PySem PySem.Spec PyProof.Rows L2
end Y
namespace Y
open PySem PySem.Spec PyProof.Rows L2
section
variable {X:Cx}{e0 e1 e2 e3 e4:Expr}{t0 t1 t2 t3 t4:TE}
theorem o7(h0:y'E X e0 t0)(s0:g7 [e0] X.env=(false,eval e0 X.env)::g7 [] X.env:=by rfl):y'A X [e0] (a9 t0 j5):=(E3 h0 Y4 s0)
theorem A2(h0:y'E X e0 t0)(h1:y'E X e1 t1)(s0:g7 [e0,e1] X.env=(false,eval e0 X.env)::g7 [e1] X.env:=by rfl)(s1:g7 [e1] X.env=(false,eval e1 X.env)::g7 [] X.env:=by rfl):y'A X [e0,e1] (a9 t0 (a9 t1 j5)):=(E3 h0 (E3 h1 Y4 s1) s0)
theorem a0M(h0:y'E X e0 t0)(h1:y'E X e1 t1)(h2:y'E X e2 t2)(s0:g7 [e0,e1,e2] X.env=(false,eval e0 X.env)::g7 [e1,e2] X.env:=by rfl)(s1:g7 [e1,e2] X.env=(false,eval e1 X.env)::g7 [e2] X.env:=by rfl)(s2:g7 [e2] X.env=(false,eval e2 X.env)::g7 [] X.env:=by rfl):y'A X [e0,e1,e2] (a9 t0 (a9 t1 (a9 t2 j5))):=(E3 h0 (E3 h1 (E3 h2 Y4 s2) s1) s0)
theorem b1D(h0:y'E X e0 t0)(h1:y'E X e1 t1)(h2:y'E X e2 t2)(h3:y'E X e3 t3)(s0:g7 [e0,e1,e2,e3] X.env=(false,eval e0 X.env)::g7 [e1,e2,e3] X.env:=by rfl)(s1:g7 [e1,e2,e3] X.env=(false,eval e1 X.env)::g7 [e2,e3] X.env:=by rfl)(s2:g7 [e2,e3] X.env=(false,eval e2 X.env)::g7 [e3] X.env:=by rfl)(s3:g7 [e3] X.env=(false,eval e3 X.env)::g7 [] X.env:=by rfl):y'A X [e0,e1,e2,e3] (a9 t0 (a9 t1 (a9 t2 (a9 t3 j5)))):=(E3 h0 (E3 h1 (E3 h2 (E3 h3 Y4 s3) s2) s1) s0)
theorem c1o(h0:y'E X e0 t0)(h1:y'E X e1 t1)(h2:y'E X e2 t2)(h3:y'E X e3 t3)(h4:y'E X e4 t4)(s0:g7 [e0,e1,e2,e3,e4] X.env=(false,eval e0 X.env)::g7 [e1,e2,e3,e4] X.env:=by rfl)(s1:g7 [e1,e2,e3,e4] X.env=(false,eval e1 X.env)::g7 [e2,e3,e4] X.env:=by rfl)(s2:g7 [e2,e3,e4] X.env=(false,eval e2 X.env)::g7 [e3,e4] X.env:=by rfl)(s3:g7 [e3,e4] X.env=(false,eval e3 X.env)::g7 [e4] X.env:=by rfl)(s4:g7 [e4] X.env=(false,eval e4 X.env)::g7 [] X.env:=by rfl):y'A X [e0,e1,e2,e3,e4] (a9 t0 (a9 t1 (a9 t2 (a9 t3 (a9 t4 j5))))):=(E3 h0 (E3 h1 (E3 h2 (E3 h3 (E3 h4 Y4 s4) s3) s2) s1) s0)
end
end Y
local macro_rules | `(tactic| walk_at "sc") => `(tactic| exact ⟨rfl, rfl, rfl, by decide +kernel, rfl, by decide +kernel, by decide +kernel⟩)
namespace Y
open PySem PySem.Spec PyProof.Rows L2
section
variable {X:Cx}{e a b o:Expr}{es:List Expr}{te ta tb to:TE}{tr:TA}{pos p pos':Pos}{x:Str}
theorem v4(n:Nat)(hN:X.N.Nodup)(he:y'E X e te)(hi:X.N[n]? = some x:=by rfl)(hx:Loc X.env.scope x:=by first | exact Or.inl rfl | exact Or.inr rfl)(hs:a1r e (some (.Name x pos')) pos.line X.env=pure false:=by rfl)(hf:X.fn x=true\/X.env.scope.names.lookup x=some .local:=by first | exact .inl rfl | exact .inr rfl) :
  y'S X (.Assign [.Name x pos'] e pos) (D2 te (o5 n)):=b6G hN hi hx he hs hf
theorem F9(n:Nat)(hN:X.N.Nodup)(hi:X.N[n]? = some x:=by rfl)(hx:Loc X.env.scope x:=by first | exact Or.inl rfl | exact Or.inr rfl)(hf:X.fn x=true\/X.env.scope.names.lookup x=some .local:=by first | exact .inl rfl | exact .inr rfl):y'G X (.Name x pos) (o5 n):=b5c hN hi hx hf
theorem p5{k j:Nat}{ps:List Str}{sp:Sp}(C:C6 X.prog X.w X.K X.mg X.base k x ps sp)(hr:M5 j X.A)(ha:y'A X (e::es) tr)(hk:k<=j:=by decide)(hg:Gl X x:=by rfl)
  (hdb:(x == ("__debug__" : Str))=false:=by decide) (he:g7 (e::es) X.env=(false,eval e X.env)::g7 es X.env:=by rfl) (hpl:(U8 pos (g7 es X.env)).any (·.1)=false:=by rfl) :
  y'E X (.Call (.Name x p) (e::es) [] pos) (u9 sp [] E0 tr):=b6K C hr hk hg ha hdb he hpl
theorem b6N{k j:Nat}{C:Addr}{ps:List Str}{sp:Sp}(M:b2U X.prog X.w X.K X.mg X.base k x C ps sp)(hr:M5 j X.A)(ha:y'A X (e::es) tr)(hk:k+1<=j:=by decide)(hg:Gl X x:=by rfl)
  (hdb:(x == ("__debug__" : Str))=false:=by decide) (he:g7 (e::es) X.env=(false,eval e X.env)::g7 es X.env:=by rfl) (hpl:(U8 pos (g7 es X.env)).any (·.1)=false:=by rfl) :
  y'E X (.Call (.Name x p) (e::es) [] pos) (a8b C sp [] E0 tr):=b9a M hr hk hg ha hdb he hpl
theorem j8(ha:y'E X a ta)(hb:y'E X b tb)(hs:b1l b:=by exact fun _ _=>rfl):y'E X (.Subscript a b pos) (tOp qIx ta tb):=b9b c1R ha hb hs
theorem a4I{op:CmpOp}{r:R2}(ho:Q9 X (p9 op) r)(ha:y'E X a ta)(hb:y'E X b tb)(hm:M3 op b=false:=by exact a2a _):y'E X (.Compare a [op] [b] pos) (tOp r ta tb):=V3 ho ha hb hm
theorem C2{op:CmpOp}{r:R2}(ho:Q9 X (p9 op) r)(ha:y'E X a ta)(hb:y'E X b tb)(hm:M3 op b=false:=by exact a2a _):y'T X (.Compare a [op] [b] pos) (C1 (tOp r ta tb)):=W8 ho ha hb hm
end
end Y
namespace Y
open PySem PySem.Spec PyProof.Rows L2
section
variable {X:Cx}{e o i:Expr}{te to ti:TE}{t:TS}{pos p:Pos}{k:Nat}
theorem b3f:y'E X (.Dict [] [] pos) b3m:=⟨L2.b7Q⟩
theorem a9h(hc:X.calm=true):X2 X (.type "list") b3D:=⟨L2.b2Q hc⟩
end
end Y
namespace Y
open PySem PySem.Spec PyProof.Rows L2
theorem b0h{X:Cx}:X2 X (.builtin "isinstance") (b7C X.K):=⟨L2.b4n⟩
end Y
namespace Y
open PySem PySem.Spec PyProof.Rows L2
section
variable {X:Cx}{i o:Expr}{ti to:TE}{pos:Pos}{k:Nat}
end
end Y
namespace Y
open PySem PySem.Spec PyProof.Rows L2
section
variable {X:Cx}{k:Nat}
theorem b5e(hr:M5 k X.A):Q9 X (p9 .NotEq) b9A:=⟨L2.c0h hr.units0⟩
theorem b5g(hr:M5 k X.A):Q9 X (p9 .Eq) c2u:=⟨L2.c0m (a7m hr)⟩
theorem b5d(hr:M5 k X.A):Q9 X (p9 .NotEq) c2s:=⟨L2.c0g (a7m hr)⟩
end
end Y
namespace Y
open PySem PySem.Spec PyProof.Rows L2
section
variable {X:Cx}{e o i:Expr}{te to ti:TE}{t:TS}{pos p:Pos}{k:Nat}
theorem a9C{tg:Expr}{g:TG}{body:List Stmt}(hp:b1C (model X.prog X.w) X.A X.env X.xe)(hc:X.calm=true)(hl:y'E X e te)(hg:y'G X tg g)(hb:a7S X body t)
  (hs:∀x,K9 e X.env x=pure x:=by intro _;rfl):y'S X (.For tg e body [] pos) (b4v te g t):=⟨L2.b9K hp hc hl.h hg.h hb.h hs⟩
end
end Y
namespace RD
open PySem PySem.Spec L2
variable{C a b c d dx na p ra:Addr}{H H' H0 H1:Hp}{o:HO}{xs ys:List V}{i j m:Nat}{D:a6Z}{σ:St}{ta te:TE}{tt:TT}{Q:VK}{v w:V}{z:Str}{ks l:List Nat}{QD:Hp->Prop}{R:It->Hp->Prop}{M N:Nt}{ns:List Int}{as rs:List Addr}{Z:Addr->Prop}{Do:Nat->Bool}{kvs:List (Key×V)}{RC:Nat->List V}
def E1(b:Addr)(H H':Hp):Prop:=(∀a o,H a=some o->a≠b->H' a=some o)/\∀o,H b=some o->∃o',H' b=some o'
theorem E1.refl(b:Addr)(H:Hp):E1 b H H:=⟨fun _ _ h _=>h,fun o h=>⟨o,h⟩⟩
theorem E1.trans{H2:Hp}(x:E1 b H H1)(y:E1 b H1 H2):E1 b H H2:=
 ⟨fun a o h n=>y.1 a o (x.1 a o h n) n,fun o h=>let⟨o',h'⟩:=x.2 o h;y.2 o' h'⟩
theorem E1.upd(b:Addr)(H:Hp)(o:HO):E1 b H (upd H b o):=⟨fun a u h n=>by rw[c9 n];exact h,fun _ _=>⟨o,c6⟩⟩
theorem E1.new(h:H p=none):E1 b H (L2.upd H p o):=
 ⟨fun a u e _=>by rw[c9 (c7 e h)];exact e,fun u e=>⟨u,by rw[c9 (c7 e h)];exact e⟩⟩
theorem E1.of_same(s:o6 H H'):E1 b H H':=⟨fun a o h _=>s a o h,fun o h=>⟨o,s _ _ h⟩⟩
theorem v0(h:H p=none):o6 H (L2.upd H p o):=fun a u e=>by rw[c9 (c7 e h)];exact e
theorem E1.none(k:E1 b H H')(h:H' p=Option.none):H p=Option.none:=by
 cases e:H p with
 | none=>rfl
 | some o=>
  by_cases z:p=b
  ·subst z
   obtain⟨o',h'⟩:=k.2 o e
   rw[h]at h'
   cases h'
  ·rw[k.1 p o e z]at h
   cases h
theorem E1.tup{b a:Addr}{H H':Hp}{xs ys:List V}(k:E1 b H H')(hb:H b=some (.lst ys))(h:H a=some (.tup xs)):H' a=some (.tup xs):=
 k.1 a _ h (G0 h hb (by intro z;cases z))
structure Bag(H:Hp)(b c:Addr):Prop where
 ex:∃(i0 i1 i2:Int) (ns:List Int),H b=some (.lst [.int i0,.int i1,.int i2,.ref c])/\H c=some (.lst (ns.map V.int))/\0<=i0/\0<=i1/\i1<2147483647/\0<=i2/\∀x∈ns,0<=x
theorem Bag.lst{H:Hp}{b c:Addr}(h:Bag H b c):∃xs,H b=some (.lst xs):=by
 obtain⟨i0,i1,i2,ns,h,_⟩:=h.ex
 exact⟨_,h⟩
theorem Bag.same(h:Bag H b c)(s:o6 H H'):Bag H' b c:=by
 obtain⟨i0,i1,i2,ns,h1,h2,r⟩:=h.ex
 exact⟨i0,i1,i2,ns,s _ _ h1,s _ _ h2,r⟩
theorem Bag.new(h:Bag H b c)(n:H p=none):Bag (L2.upd H p o) b c:=h.same (v0 n)
theorem Bag.put(h:Bag H b c)(n1:p≠b)(n2:p≠c):Bag (L2.upd H p o) b c:=by
 obtain⟨i0,i1,i2,ns,h1,h2,r⟩:=h.ex
 exact⟨i0,i1,i2,ns,by rw[c9 n1.symm];exact h1,by rw[c9 n2.symm];exact h2,r⟩
theorem Bag.nb(h:Bag H b c)(n:H p=none):p≠b/\p≠c:=by
 obtain⟨i0,i1,i2,ns,h1,h2,r⟩:=h.ex
 exact⟨(c7 h1 n).symm,(c7 h2 n).symm⟩
theorem E1.put(k:E1 b H H')(n:H p=Option.none):E1 b H (L2.upd H' p o):=
 ⟨fun a u e z=>by rw[c9 (c7 e n)];exact k.1 a u e z,fun u e=>by
  obtain⟨o',h⟩:=k.2 u e
  exact⟨o',by rw[c9 (c7 e n)];exact h⟩⟩
theorem Q5{α:Type}(a:α)(r:List α):atI (a::r) 0=some a:=by
 have := @J5 α (a::r) 0 a rfl
 simpa using this
theorem a0o{α:Type}(a b:α)(r:List α):atI (a::b::r) 1=some b := @J5 α (a::b::r) 1 b rfl
theorem a6a{α:Type}(a b c:α)(r:List α):atI (a::b::c::r) 2=some c := @J5 α (a::b::c::r) 2 c rfl
theorem c5r{α:Type}(a b c d:α)(r:List α):atI (a::b::c::d::r) 3=some d := @J5 α (a::b::c::d::r) 3 d rfl
theorem a3a{α:Type}{xs:List α}{i:Int}(h0:0<=i)(h1:i<xs.length):∃v,atI xs i=some v/\xs[i.toNat]? = some v:=by
 have hl:i.toNat<xs.length:=by omega
 have e:xs[i.toNat]? = some (xs[i.toNat]'hl):=by simp[hl]
 refine⟨_,?_,e⟩
 have:=J5 e
 rwa [Int.toNat_of_nonneg h0]at this
section
variable {t u:TS}{tb tc to ti:TE}{tu:TT}{tr:TA}{QB:Bool->Hp->Prop}{QA:List V->Hp->Prop}{QO:Option Int->Hp->Prop}{x y:V}{i j:Int}{n:Nat}{r r':R2}{K:Fg}
theorem Q2(h:t { D with nx:=u D } σ H):u5 t u D σ H:=h
theorem a1y{P:St->Hp->Prop}(tail:∀σ H,P σ H->u D σ H)(main:∀nx:St->Hp->Prop,(∀σ H,P σ H->nx σ H)->t { D with nx:=nx } σ H):u5 t u D σ H:=main _ tail
theorem c1x{g:TG}(h:te σ H fun x H1=>g x σ H1 D.nx):D2 te g D σ H:=h
theorem a7C{QS:St->Hp->Prop}(h:QS (σ.set n (some v)) H):o5 n v σ H QS:=h
theorem c2e{QS:St->Hp->Prop}{ts:a9w}(h:to σ H fun o H1=>ti σ H1 fun i H2=>ts o i v H2 fun H3=>QS σ H3):b0O to ti ts v σ H QS:=h
theorem c1v(h:te σ H D.rt):F4 te D σ H:=h
theorem b7s(h:te σ H fun _ H1=>D.nx σ H1):a0O te D σ H:=h
theorem c4E(h:tt σ H fun b H1=>if b=true then t D σ H1 else u D σ H1):J3 tt t u D σ H:=h
theorem b7p(h:D.nx σ H):C5 D σ H:=h
theorem c1Y(h:te σ H fun x H'=>∃k,x=.bl k/\QB k H'):C1 te σ H QB:=h
theorem c4y(h:te σ H fun x H'=>∃k,x=.bl k/\QB k H'):tB te σ H QB:=h
theorem c4B(h:tt σ H fun c H1=>QB (!c) H1):a4J tt σ H QB:=h
theorem c4H(h:tt σ H fun c H1=>if c=true then tu σ H1 QB else QB false H1):a8d tt tu σ H QB:=h
theorem c5J(h:tt σ H fun c H1=>if c=true then QB true H1 else tu σ H1 QB):tOr tt tu σ H QB:=h
theorem c2h(h:ta σ H fun x H1=>∃c,x=.bl c/\if c=true then tb σ H1 Q else Q (.bl false) H1):a0a ta tb σ H Q:=h
theorem c4z(h:ta σ H fun x H1=>∃c,x=.bl c/\if c=true then Q (.bl true) H1 else tb σ H1 Q):b9i ta tb σ H Q:=h
theorem c2a(h:ta σ H fun x H1=>∃c,x=.bl c/\Q (.bl (!c)) H1):b1Q ta σ H Q:=h
theorem c4D(h:tt σ H fun c H1=>if c=true then ta σ H1 Q else tb σ H1 Q):tIf tt ta tb σ H Q:=h
theorem c4A(h:ta σ H fun x H1=>tb σ H1 fun y H2=>r x y H2 Q):tOp r ta tb σ H Q:=h
theorem b9v(h:ta σ H fun x H1=>tb σ H1 fun y H2=>r x y H2 fun z H3=>∃k,z=.bl k/\(if k=true then tc σ H3 fun w' H4=>r' y w' H4 Q else Q (.bl false) H3)):a3y r r' ta tb tc σ H Q:=h
theorem a4x(e:σ[n]? = some (some v))(h:Q v H):b5 n σ H Q:=⟨v,e,h⟩
theorem s_c(h:Q v H):tC v σ H Q:=h
theorem a4R(h:te σ H fun x H1=>tr σ H1 fun xs H2=>QA (x::xs) H2):a9 te tr σ H QA:=h
theorem b4y(h:QA [] H):j5 σ H QA:=h
theorem c2f{sp:Sp}{E:XK}(h:tr σ H fun vs H1=>sp (vs++[]) H1 Q E):u9 sp [] E tr σ H Q:=h
theorem c5K{f:List V->Hp->VK->Prop}(h:tr σ H fun vs H1=>f vs H1 Q):tCB f tr σ H Q:=h
def New(o:HO)(n:Nat)(H:Hp)(Q:VK):Prop:=n<=l7/\∀p,H p=none->Q (.ref p) (upd H p o)
theorem D5(hl:n<=100000)(h:∀p H',H p=none->H' p=some o->o6 H H'->Q (.ref p) H'):New o n H Q:=
 ⟨A9 hl (by rw[a2u];decide),fun p hp=>h p _ hp c6 (v0 hp)⟩
theorem c1u(h:tr σ H fun xs H1=>New (.tup xs) xs.length H1 Q):a0w tr σ H Q:=h
theorem c4C(h:tr σ H fun xs H1=>New (.lst xs) xs.length H1 Q):a1f tr σ H Q:=h
theorem c5I{f:V->Option Int->Option Int->Hp->VK->Prop}{tl th:TO}(h:te σ H fun x H1=>tl σ H1 fun l H2=>th σ H2 fun u H3=>f x l u H3 Q):tSl f te tl th σ H Q:=h
theorem c1Z(h:te σ H fun x H1=>∃i,x=.int i/\QO (some i) H1):a8a te σ H QO:=h
theorem b7o(h:QO none H):a2A σ H QO:=h
theorem b3v(h:QB true H):Q1 σ H QB:=h
theorem b3B{f:V->List V->Hp->VK->Prop}(h:to σ H fun x H1=>tyV K "list" x H1/\tr σ H1 fun xs H2=>f x xs H2 Q):tBM K "list" f to tr σ H Q:=h
theorem c2g{tget:V->V->Hp->VK->Prop}{tip:TIp}{tset:a9w}(h:to σ H fun o H1=>ti σ H1 fun i H2=>tget o i H2 fun x H3=>te σ H3 fun y H4=>tip x y H4 fun z H5=>tset o i z H5 fun H6=>D.nx σ H6):b4w to ti te tget tip tset D σ H:=h
theorem c4V(h:Q (.int (i+j)) H):a2P (.int i) (.int j) H Q:=h
theorem c2q{a b:Str}(hl:a.length+b.length<=l7)(h:Q (.str (a++b)) H):a2P (.str a) (.str b) H Q:=⟨hl,h⟩
theorem c2r(ha:H a=some (.lst xs))(hb:H b=some (.lst ys))(h:New (.lst (xs++ys)) (xs.length+ys.length) H Q):a2P (.ref a) (.ref b) H Q:=by
 unfold a2P
 simp only[ha,hb]
 exact h
theorem c2o{g:Int->Int->V}(h:Q (g i j) H):b2h g (.int i) (.int j) H Q:=h
theorem a1A{C:Int->Int->Prop}{g:Int->Int->V}(hc:C i j)(h:Q (g i j) H):q2I C g (.int i) (.int j) H Q:=⟨hc,h⟩
theorem c5P{f:Int->Int->Int}(h:Q (.int (f i j)) H):ipI f (.int i) (.int j) H Q:=⟨i,j,rfl,rfl,h⟩
theorem D9(hp:H p=some (.lst xs))(he:atI xs i=some v)(h:Q v H):qIx (.ref p) (.int i) H Q:=by
 unfold qIx
 simp only[hp]
 exact⟨v,he,h⟩
theorem z5(hp:H p=some (.tup xs))(he:atI xs i=some v)(h:Q v H):qIx (.ref p) (.int i) H Q:=by
 unfold qIx
 simp only[hp]
 exact⟨v,he,h⟩
theorem c4R{c:Nat}(hz:z.length<=l7)(he:atI z.cps.toList i=some c)(h:Q (.str ⟨#[c]⟩) H):qIx (.str z) (.int i) H Q:=⟨hz,c,he,h⟩
theorem a8p{QH:Hp->Prop}{k:Nat}(hp:H p=some (.lst xs))(he:ixN xs.length i=some k)(h:QH (upd H p (.lst (xs.set k v)))):a7u (.ref p) (.int i) v H QH:=by
 unfold a7u
 simp only[hp]
 exact⟨k,he,h⟩
theorem c4S(hp:H p=some (.lst xs))(h0:0<=i)(he:xs[i.toNat]? = some v)(h:Q v H):b5x (.ref p) (.int i) H Q:=by
 unfold b5x
 simp only[hp]
 exact⟨h0,v,he,h⟩
theorem M4(hp:H p=some (.lst xs))(h:Q (.int xs.length) H):T1 [.ref p] H Q:=by
 unfold T1
 simp only[hp]
 exact h
theorem a3B(hp:H p=some (.tup xs))(h:Q (.int xs.length) H):T1 [.ref p] H Q:=by
 unfold T1
 simp only[hp]
 exact h
theorem c2n(hz:z.length<=l7)(h:Q (.int z.length) H):T1 [.str z] H Q:=⟨hz,h⟩
theorem c4W(h:Q (.int (if i<0 then -i else i)) H):b7D [.int i] H Q:=h
theorem c5Q(hs:b0r x y=true)(h:Q (.bl (decide (x=y))) H):qEq x y H Q:=⟨_,if_pos hs,h⟩
theorem c5O(hs:b0r x y=true)(h:Q (.bl (!decide (x=y))) H):qNe x y H Q:=⟨_,if_pos hs,h⟩
theorem c0R(ha:H a=some (.lst xs))(hb:H b=some (.lst ys))(fx:xs.all E9=true)(fy:ys.all E9=true):eqO (.ref a) (.ref b) H=some (a0C xs ys):=by
 unfold eqO
 rw[if_neg (by intro z;cases z)]
 simp only[ha,hb]
 rw[if_pos ⟨fx,fy⟩]
theorem a4y(hp:H p=some (.tup xs))(hx:E9 x=true)(ha:xs.all E9=true)(h:Q (.bl (inV x xs)) H):qIn false x (.ref p) H Q:=by
 unfold qIn
 cases x <;> first | (simp only[hp];exact⟨hx,ha,h⟩) | cases hx
theorem a5I{l:Addr}(hp:H l=some (.lst xs))(hl:xs.length<l7)(h:Q .non (upd H l (.lst (xs++[y])))):a0F (.ref l) [y] H Q:=by
 unfold a0F
 simp only[hp]
 exact⟨hl,h⟩
theorem c1B{lo hi:Option Int}(ha:H a=some (.tup xs))(hw:¬(HT.sIx xs.length 0 lo=0/\HT.sIx xs.length xs.length hi=xs.length))(h:∀p H',H p=none->H' p=some (.tup (a5e xs lo hi))->o6 H H'->Q (.ref p) H'):qSl (.ref a) lo hi H Q:=by
 unfold qSl
 simp only[ha]
 exact⟨hw,fun p hp=>h p _ hp c6 (v0 hp)⟩
theorem c4O{lo hi:Option Int}(ha:H a=some (.lst xs))(h:∀p H',H p=none->H' p=some (.lst (a5e xs lo hi))->o6 H H'->Q (.ref p) H'):qSl (.ref a) lo hi H Q:=by
 unfold qSl
 simp only[ha]
 exact fun p hp=>h p _ hp c6 (v0 hp)
theorem a3C{s c:String}(e:a2z x H=some s)(hc:c∈a6P)(h:Q (.bl (b4b s c)) H):a4S [x,.ty c] H Q:=⟨s,e,hc,h⟩
end
section
variable {D:Addr}{K:Fg}
theorem a3N{lo:Int}{n:Nat}(Pv:Nat->List V->Hp->Prop)(h0:Pv 0 [] (upd H1 D (.lst [])))(hP:∀i ys H,Pv i ys H->H D=some (.lst ys))
  (step:∀i ys H2,i<n->Pv i ys H2->∀R:VK,(∀y H5,H5 D=some (.lst ys)->ys.length<l7->Pv (i+1) (ys++[y]) (upd H5 D (.lst (ys++[y])))->R y H5)->te (some (.int (lo+i))::σ) H2 R)
  (done:∀ys H2,Pv n ys H2->QD H2) :
  ∃W:Nat->Nat->List V->Hp->Prop,(∃m,W 0 m [] (upd H1 D (.lst [])))/\∀i m ys H2,W i m ys H2->H2 D=some (.lst ys) /\
   (((Itr lo n).stop i H2 /\ QD H2) \/ ((Itr lo n).go i H2 /\ ∀ x H3,(Itr lo n).yld i H2 x H3 -> Q1 (some x :: σ) H3 fun ok H4 => if ok = true then
     te (some x::σ) H4 (fun y H5=>H5 D=some (.lst ys)/\ys.length<l7/\∃m',m'<m/\W (i+1) m' (ys++[y]) (upd H5 D (.lst (ys++[y]))))
     else ∃m',m'<m/\W (i+1) m' ys H4)):=by
 refine⟨fun i m ys H=>m=n - i/\i<=n/\Pv i ys H,⟨n,rfl,L5 _,h0⟩,?_⟩
 rintro i m ys H2 ⟨rfl,hi,p⟩
 refine⟨hP i ys H2 p,?_⟩
 by_cases hlt:i<n
 ·refine .inr ⟨hlt,fun x H3 y=>?_⟩
  obtain⟨e,y⟩:=y
  subst e y
  refine b3v ?_
  rw[if_pos rfl]
  exact step i ys _ hlt p _ fun y H5 h1 h2 h3=>⟨h1,h2,n - (i+1),by omega,rfl,hlt,h3⟩
 ·have e:i=n:=by omega
  subst e
  exact .inl ⟨d9 _,done ys H2 p⟩
theorem P7(Pv:Nat->List V->Hp->Prop)(h0:Pv 0 [] (upd H1 D (.lst [])))(hP:∀i ys H,Pv i ys H->H D=some (.lst ys))(hl:∀i ys H,i<=xs.length->Pv i ys H->SqL K H a xs)
  (step:∀i x ys H2,xs[i]? = some x->Pv i ys H2->∀R:VK,(∀y H5,H5 D=some (.lst ys)->ys.length<l7->Pv (i+1) (ys++[y]) (upd H5 D (.lst (ys++[y])))->R y H5)->te (some x::σ) H2 R)
  (done:∀ys H2,Pv xs.length ys H2->QD H2) :
  ∃W:Nat->Nat->List V->Hp->Prop,(∃m,W 0 m [] (upd H1 D (.lst [])))/\∀i m ys H2,W i m ys H2->H2 D=some (.lst ys) /\
   (((Itl K a).stop i H2 /\ QD H2) \/ ((Itl K a).go i H2 /\ ∀ x H3,(Itl K a).yld i H2 x H3 -> Q1 (some x :: σ) H3 fun ok H4 => if ok = true then
     te (some x::σ) H4 (fun y H5=>H5 D=some (.lst ys)/\ys.length<l7/\∃m',m'<m/\W (i+1) m' (ys++[y]) (upd H5 D (.lst (ys++[y]))))
     else ∃m',m'<m/\W (i+1) m' ys H4)):=by
 refine⟨fun i m ys H=>m=xs.length - i/\i<=xs.length/\Pv i ys H,⟨xs.length,rfl,L5 _,h0⟩,?_⟩
 rintro i m ys H2 ⟨rfl,hi,p⟩
 refine⟨hP i ys H2 p,?_⟩
 have q:=hl i ys H2 hi p
 by_cases hlt:i<xs.length
 ·refine .inr ⟨⟨xs,xs[i],q,by simp[hlt]⟩,fun x H3 y=>?_⟩
  obtain⟨e,y⟩:=y
  subst e
  refine b3v ?_
  rw[if_pos rfl]
  exact step i x ys _ (y xs q) p _ fun y H5 h1 h2 h3=>⟨h1,h2,xs.length - (i+1),by omega,rfl,hlt,h3⟩
 ·have e:i=xs.length:=by omega
  subst e
  exact .inl ⟨⟨xs,q,d9 _⟩,done ys H2 p⟩
theorem S8{wi:TI}(h:wi σ H1 fun J H1=>∀D,H1 D=none->∃W:Nat->Nat->List V->Hp->Prop,
 (∃m,W 0 m [] (upd H1 D (.lst [])))/\∀i m ys H2,W i m ys H2->H2 D=some (.lst ys) /\
  ((J.stop i H2 /\ Q (.ref D) H2) \/ (J.go i H2 /\ ∀ x H3,J.yld i H2 x H3 -> tt (some x :: σ) H3 fun ok H4 => if ok = true then
    te (some x::σ) H4 (fun y H5=>H5 D=some (.lst ys)/\ys.length<l7/\∃m',m'<m/\W (i+1) m' (ys++[y]) (upd H5 D (.lst (ys++[y]))))
    else ∃m',m'<m/\W (i+1) m' ys H4))):S9 wi tt te σ H1 Q:=h
theorem a0l{ta:TA}(h:ta σ H1 fun vs H2=>∃j:Int,vs=[.int j] /\ -(2 ^ 62)<=j/\j<2 ^ 62/\R (Itr 0 j.toNat) H2):a0Q ta σ H1 R:=h
theorem S0(h:ta σ H1 fun x H2=>∃a,x=.ref a/\(∃xs,SqL K H2 a xs)/\R (Itl K a) H2):U0 K ta σ H1 R:=h
theorem Y6{wi:TI}{g:TG}{tb:TS}{D:a6Z}(h:wi σ H1 fun J H1=>∃W:Nat->Nat->St->Hp->Prop,(∃m,W 0 m σ H1)/\∀i m σ H,W i m σ H ->
 (J.stop i H/\D.nx σ H)\/(J.go i H/\∃N:St->Hp->Prop,(∀σ' H',N σ' H'->∃m',m'<m/\W (i+1) m' σ' H')/\∀x H',J.yld i H x H'->g x σ H' fun σ2 H2=>tb { D with nx:=N,ct:=N,bk:=D.nx } σ2 H2)):a1g wi g tb D σ H1:=h
end
def O1(H H':Hp):Prop:=∀a xs,H a=some (.tup xs)->H' a=some (.tup xs)
theorem O1.put(h:H p=some (.lst ys)):O1 H (upd H p o):=fun a xs e=>by
 rw[c9 (G0 e h (by intro z;cases z))];exact e
theorem o6.ts(s:o6 H H'):O1 H H':=fun a xs h=>s a _ h
theorem E1.ts(k:E1 b H H')(hB:Bag H b c):O1 H H':=fun a xs h=>by
 obtain⟨ys,hb⟩:=hB.lst
 exact k.tup hb h
def OpV(v:V):Prop:=(∃s,v=.str s)\/∃n:Int,v=.int n/\0<=n/\n<1000000000000
def c4b(H:Hp)(p:Addr):Prop:=∃k v1 v2,H p=some (.tup [.str k,v1,v2])/\OpV v1/\OpV v2/\k∈(["plus","minus","times","less","same"]:List Str)
inductive b0c(H:Hp):List V->Prop
 | set (n:Str) (p:Addr):c4b H p->b0c H [.str "set",.str n,.ref p]
 | copy (n:Str) (v:V):OpV v->b0c H [.str "copy",.str n,v]
 | take (n:Str):b0c H [.str "take",.str n]
 | tell (v:V):OpV v->b0c H [.str "tell",v]
 | ask (v:V):OpV v->b0c H [.str "ask",v]
 | skip:b0c H [.str "skip"]
structure c6e(H:Hp)(a:Addr):Prop where
 ex:∃ss:List Str,H a=some (.lst (ss.map V.str))/\ss≠[]/\ss.length<=8
theorem small{n:Nat}(h:n<=100000):n<=l7:=A9 h (by rw[a2u];decide)
theorem E8{n:Nat}(h:n<100000):n<l7:=v7 h (by rw[a2u];decide)
theorem A7{c:Bool}{A B:Prop}(hc:c=true)(h:A):if c=true then A else B:=by rw[if_pos hc];exact h
theorem o4{c:Bool}{A B:Prop}(hc:c=false)(h:B):if c=true then A else B:=by rw[hc];exact L2.c3C h
section
variable {t u:TS}{tb tc to ti:TE}{tu:TT}{tr:TA}{QB:Bool->Hp->Prop}{QA:List V->Hp->Prop}{x y:V}{i j:Int}{n:Nat}{K:Fg}
theorem a6A(h:∀p H',H p=none->H' p=some (.dK [])->o6 H H'->Q (.ref p) H'):a2C σ H Q:=fun p hp=>h p _ hp c6 (v0 hp)
theorem b2e(h:ti σ H fun y H1=>to σ H1 fun x H2=>∃a o,x=.ref a/\a1a H2 a y o/\Q (.bl o.isSome) H2):a8c ti to σ H Q:=h
theorem a3z(h:ti σ H fun y H1=>to σ H1 fun x H2=>∃a o,x=.ref a/\a1a H2 a y o/\Q (.bl (!o.isSome)) H2):a1h ti to σ H Q:=h
theorem a2K(h:te σ H fun v H1=>to σ H1 fun x H2=>ti σ H2 fun y H3=>∃a H4,x=.ref a/\a5i H3 a y v H4/\D.nx σ H4):a1c to ti te D σ H:=h
theorem a1b{f:Str}(h:ta σ H fun x H1=>∃a C dx fs v,x=.ref a/\H1 a=some (.ins C dx fs)/\Cls K C/\a1E K C f/\fs.lookup f=some v/\Q v H1):a2B K ta f σ H Q:=h
theorem b3x{f:Str}(h:te σ H fun y H1=>ta σ H1 fun x H2=>∃a C dx fs,x=.ref a/\H2 a=some (.ins C dx fs)/\Cls K C/\a1E K C f/\fs.length<1000/\D.nx σ (upd H2 a (.ins C dx (a1H f y fs)))):b5v K ta te f D σ H:=h
theorem c2b{m:Str}{sp:Sp}{E:XK}(h:ta σ H fun x H1=>∃a dx fs,x=.ref a/\H1 a=some (.ins C dx fs)/\fs.lookup m=none/\tr σ H1 fun vs H2=>sp (x::(vs++[])) H2 Q E):b1R C m sp [] E ta tr σ H Q:=h
theorem b7r{sp:Sp}{E:XK}(h:tr σ H fun vs H1=>∀x dx,H1 x=none->H1 dx=none->dx≠x ->
 sp (.ref x::(vs++[])) (upd (upd H1 dx (.own x)) x (.ins C dx [])) (fun v H2=>v=.non/\Q (.ref x) H2) E):a8b C sp [] E tr σ H Q:=h
theorem c4F{f:V->List V->Hp->VK->Prop}(h:to σ H fun x H1=>tyV K "list" x H1/\f x [] H1 Q):b9j K "list" f to σ H Q:=h
theorem a1I(h:H p=some (.lst xs)):tyV K "list" (.ref p) H:=.inl ⟨rfl,xs,SqL.of h⟩
theorem a7B{a b:Nat}{QS:St->Hp->Prop}(hp:SqT K H p [x,y])(h:QS ((σ.set a (some x)).set b (some y)) H):a8G K 2 (Y8 (o5 a) (Y8 (o5 b) a8H)) (.ref p) σ H QS:=
 ⟨p,_,rfl,hp,rfl,_,_,rfl,_,_,rfl,rfl,h⟩
theorem a4d(h:tr σ H fun vs H1=>∃a,vs=[.ref a]/\(∃xs,SqL K H1 a xs)/\R (Ite K a) H1):a5S K tr σ H R:=h
theorem c2c(h:tr σ H fun vs H1=>∃a b,vs=[.ref a,.ref b]/\(∃xs,SqL K H1 a xs)/\(∃xs,SqL K H1 b xs)/\R (Itz K a b) H1):c0L K tr σ H R:=h
theorem b0w(h:∃W:Nat->St->Hp->Prop,(∃m,W m σ H)/\∀m σ H,W m σ H ->
 tt σ H fun b H1=>if b=true then ∃N:St->Hp->Prop,(∀σ' H',N σ' H'->∃m',m'<m/\W m' σ' H')/\t { D with nx:=N,ct:=N,bk:=D.nx } σ H1 else D.nx σ H1):a6q tt t D σ H:=h
theorem a8h(h:te σ H fun v H1=>D.nx (σ.set n (some v)) H1):(fun D σ H=>te σ H fun v H1=>(D:a6Z).nx (σ.set n (some v)) H1:TS) D σ H:=h
theorem b0A{wi:TI}(h:wi σ H1 fun J H1=>∀D,H1 D=none->∃W:Nat->Nat->List V->Hp->Prop,
 (∃m,W 0 m [] (upd H1 D (.lst [])))/\∀i m ys H2,W i m ys H2->H2 D=some (.lst ys) /\
  ((J.stop i H2 /\ Q (.ref D) H2) \/ (J.go i H2 /\ ∀ x H3,J.yld i H2 x H3 -> ∃ a u v,x = .ref a /\ SqT K H3 a [u,v] /\ tt (some u :: some v :: σ) H3 fun ok H4 => if ok = true then
    te (some u::some v::σ) H4 (fun y H5=>H5 D=some (.lst ys)/\ys.length<l7/\∃m',m'<m/\W (i+1) m' (ys++[y]) (upd H5 D (.lst (ys++[y]))))
    else ∃m',m'<m/\W (i+1) m' ys H4))):a6r K wi tt te σ H1 Q:=h
theorem b4k{J:It}{D:Addr}(n:Nat)(Pv:Nat->List V->Hp->Prop)(h0:Pv 0 [] (upd H1 D (.lst [])))(hP:∀i ys H,Pv i ys H->H D=some (.lst ys))(stop:∀ys H,Pv n ys H->J.stop n H/\QD H)(go:∀i ys H,i<n->Pv i ys H->J.go i H)
  (step:∀i ys H2,i<n->Pv i ys H2->∀x H3,J.yld i H2 x H3->∃a u v,x=.ref a/\SqT K H3 a [u,v]/\∀(R:VK) (S:Hp->Prop),(∀y H5,H5 D=some (.lst ys)->ys.length<l7->Pv (i+1) (ys++[y]) (upd H5 D (.lst (ys++[y])))->R y H5)->(∀H4,Pv (i+1) ys H4->S H4) ->
   tt (some u::some v::σ) H3 fun ok H4=>if ok=true then te (some u::some v::σ) H4 R else S H4) :
  ∃W:Nat->Nat->List V->Hp->Prop,(∃m,W 0 m [] (upd H1 D (.lst [])))/\∀i m ys H2,W i m ys H2->H2 D=some (.lst ys) /\
   ((J.stop i H2 /\ QD H2) \/ (J.go i H2 /\ ∀ x H3,J.yld i H2 x H3 -> ∃ a u v,x = .ref a /\ SqT K H3 a [u,v] /\ tt (some u :: some v :: σ) H3 fun ok H4 => if ok = true then
     te (some u::some v::σ) H4 (fun y H5=>H5 D=some (.lst ys)/\ys.length<l7/\∃m',m'<m/\W (i+1) m' (ys++[y]) (upd H5 D (.lst (ys++[y]))))
     else ∃m',m'<m/\W (i+1) m' ys H4)):=by
 refine⟨fun i m ys H=>m=n - i/\i<=n/\Pv i ys H,⟨n,rfl,L5 _,h0⟩,?_⟩
 rintro i m ys H2 ⟨rfl,hi,p⟩
 refine⟨hP i ys H2 p,?_⟩
 by_cases hlt:i<n
 ·refine .inr ⟨go i ys H2 hlt p,fun x H3 hy=>?_⟩
  obtain⟨a,u,v,e,hs,st⟩:=step i ys H2 hlt p x H3 hy
  exact⟨a,u,v,e,hs,st _ _ (fun y H5 h1 h2 h3=>⟨h1,h2,n - (i+1),by omega,rfl,hlt,h3⟩) fun H4 h4=>⟨n - (i+1),by omega,rfl,hlt,h4⟩⟩
 ·have e:i=n:=by omega
  subst e
  exact .inl (stop ys H2 p)
theorem a9V{J:It}{g:TG}{tb:TS}(n:Nat)(Pv:Nat->St->Hp->Prop)(h0:Pv 0 σ H)(stop:∀σ H,Pv n σ H->J.stop n H/\D.nx σ H)(go:∀i σ H,i<n->Pv i σ H->J.go i H)
  (hs:∀i σ H,i<n->Pv i σ H->∀x H',J.yld i H x H'->g x σ H' fun σ2 H2=>tb { D with nx:=Pv (i+1),ct:=Pv (i+1),bk:=D.nx } σ2 H2) :
  ∃W:Nat->Nat->St->Hp->Prop,(∃m,W 0 m σ H)/\∀i m σ H,W i m σ H ->
   (J.stop i H/\D.nx σ H)\/(J.go i H/\∃N:St->Hp->Prop,(∀σ' H',N σ' H'->∃m',m'<m/\W (i+1) m' σ' H')/\∀x H',J.yld i H x H'->g x σ H' fun σ2 H2=>tb { D with nx:=N,ct:=N,bk:=D.nx } σ2 H2):=by
 refine⟨fun i m σ H=>m=n - i/\i<=n/\Pv i σ H,⟨n,rfl,L5 _,h0⟩,?_⟩
 rintro i m σ H ⟨rfl,hi,p⟩
 by_cases hlt:i<n
 ·exact .inr ⟨go i σ H hlt p,Pv (i+1),fun σ' H' p'=>⟨n - (i+1),by omega,rfl,hlt,p'⟩,fun x H' hy=>hs i σ H hlt p x H' hy⟩
 ·have e:i=n:=by omega
  subst e
  exact .inl (stop σ H p)
theorem c4Q(h:Q (.int (if j<i then j else i)) H):b7B [.int i,.int j] H Q:=h
theorem a7o(bs:List Bool):R1 (bs.map V.bl)=some bs:=by
 induction bs with
 | nil=>rfl
 | cons s r ih=>simp[R1,ih]
theorem c4T{l:Addr}{bs:List Bool}(hl:H l=some (.lst (bs.map V.bl)))(h:Q (.bl (bs.any id)) H):b3E [.ref l] H Q:=by
 unfold b3E
 simp only[hl]
 exact⟨bs,a7o bs,h⟩
theorem c4U{l:Addr}{bs:List Bool}(hl:H l=some (.lst (bs.map V.bl)))(h:Q (.bl (bs.all id)) H):b0C [.ref l] H Q:=by
 unfold b0C
 simp only[hl]
 exact⟨bs,a7o bs,h⟩
theorem b2g{l:Addr}{zs:List V}(hl:H l=some (.lst xs))(hb:H b=some (.lst zs))(hz:xs.length+zs.length<=l7)(h:Q .non (upd H l (.lst (xs++zs)))):a2O (.ref l) [.ref b] H Q:=by
 unfold a2O
 simp only[hl,hb]
 exact⟨hz,h⟩
theorem c4P{l:Addr}(hl:H l=some (.lst (xs++[y])))(h:Q y (upd H l (.lst xs))):b5w (.ref l) [] H Q:=by
 unfold b5w
 simp only[hl]
 refine⟨y,by simp,?_⟩
 simpa using h
theorem a5H(hp:H p=some (.lst ys))(h:∀l H',H l=none->H' l=some (.lst ys)->o6 H H'->Q (.ref l) H'):a3D [.ref p] H Q:=by
 unfold a3D
 simp only[hp]
 exact fun l hl=>h l _ hl c6 (v0 hl)
end
def IL(l:List Nat):List V:=l.map fun(n:Nat)=>V.int (n:Int)
theorem N6(l:List Nat):(IL l).length=l.length:=by simp[IL]
theorem b4U(l:List Nat):(IL l).all E9=true:=by
 rw[M8]
 intro x hx
 obtain⟨s,_,rfl⟩:=u8.mp hx
 rfl
def KS(ks:List Nat):List (Key×V):=ks.map fun(k:Nat)=>(Sum.inl (k:Int),V.bl true)
theorem b8M(ks:List Nat)(k:Nat):(U3 (KS ks) (Sum.inl (k:Int))).isSome=decide (k∈ks):=by
 induction ks with
 | nil=>rfl
 | cons a r ih=>
  by_cases e:a=k
  ·subst e
   rw[show KS (a::r)=(Sum.inl (a:Int),V.bl true)::KS r from rfl,a3w rfl]
   simp
  ·rw[show KS (a::r)=(Sum.inl (a:Int),V.bl true)::KS r from rfl,a2j (by intro z;have:=Sum.inl.inj z;exact e (by omega)),ih]
   have:(k∈a::r)↔k∈r:=by
    rw[c8]
    exact⟨fun h=>h.elim (fun z=>absurd z.symm e) id,.inr⟩
   simp[this]
def a3E(ks:List Nat)(k:Nat):List Nat:=if k∈ks then ks else ks++[k]
theorem c3V(ks:List Nat)(k:Nat):a0x (KS ks) (Sum.inl (k:Int)) (V.bl true)=KS (a3E ks k):=by
 unfold a0x a3E
 rw[a2k,b8M]
 by_cases h:k∈ks
 ·rw[if_pos (c7r h),if_pos h]
  unfold KS
  rw[V8]
  apply O9
  intro a _
  show(if(Sum.inl (a:Int):Key)=Sum.inl (k:Int)then ((Sum.inl (a:Int):Key),V.bl true)else ((Sum.inl (a:Int):Key),V.bl true))=_
  split <;> rfl
 ·rw[if_neg (by simpa using h),if_neg h]
  simp[KS]
theorem W6{k:Nat}:j∈a3E ks k↔j∈ks\/j=k:=by
 unfold a3E
 split
 ·rename_i h
  exact⟨.inl,fun q=>q.elim id fun z=>z ▸ h⟩
 ·simp
theorem a7D{k:Nat}(h:ks.Nodup):(a3E ks k).Nodup:=by
 unfold a3E
 split
 ·exact h
 ·rename_i hk
  rw[O5]
  exact⟨h,by simp,fun a ha b hb=>by rw[f6.mp hb];intro z;exact hk (z ▸ ha)⟩
theorem c3W(ks:List Nat):(KS ks).length=ks.length:=by simp[KS]
theorem a5P:∀(n:Nat) (ks:List Nat),ks.Nodup->(∀k∈ks,k<n)->ks.length<=n:=by
 intro n
 induction n with
 | zero=>
  intro ks _ h
  cases ks with
  | nil=>exact d9 _
  | cons a r=>exact absurd (h a D0) (Nat.not_lt_zero _)
 | succ n ih=>
  intro ks nd h
  by_cases hn:n∈ks
  ·have:=ih (ks.erase n) (nd.erase n) fun k hk=>by
    have h1:=(List.Nodup.mem_erase_iff nd).mp hk
    have:=h k h1.2
    have:=h1.1
    omega
   rw[a3n hn]at this
   omega
  ·have:=ih ks nd fun k hk=>by
    have:=h k hk
    have:k≠n:=fun z=>hn (z ▸ hk)
    omega
   omega
theorem a4g(h:H d=some (.dK (KS ks)))(k:Nat):∃o,a1a H d (.int (k:Int)) o/\o.isSome=decide (k∈ks):=⟨_,a1a.k (k:=Sum.inl (k:Int)) h,b8M ks k⟩
theorem b0S(h:H d=some (.dK (KS ks)))(hl:ks.length<100000)(k:Nat):a5i H d (.int (k:Int)) (.bl true) (upd H d (.dK (KS (a3E ks k)))):=by
 rw[<-c3V]
 exact a5i.k (k:=Sum.inl (k:Int)) h (E8 (by rw[c3W];exact hl))
end RD
namespace RD
variable{C a b c d dx na p ra:Addr}{H H' H0 H1:Hp}{o:HO}{xs ys:List V}{i j m:Nat}{D:a6Z}{σ:St}{ta te:TE}{tt:TT}{Q:VK}{v w:V}{z:Str}{ks l:List Nat}{QD:Hp->Prop}{R:It->Hp->Prop}{M N:Nt}{ns:List Int}{as rs:List Addr}{Z:Addr->Prop}{Do:Nat->Bool}{kvs:List (Key×V)}{RC:Nat->List V}
theorem b8h:∀(l m:List Nat),l.Nodup->(∀x∈l,x∈m)->l.length<=m.length
 | [],_,_,_=>L5 _
 | a::r,m,nd,h=>by
  have ha:=h a D0
  have:=b8h r (m.erase a) (L3.mp nd).2 fun x hx=>(b6x (show x≠a from fun z=>(L3.mp nd).1 (z ▸ hx))).mpr (h x (C3 _ hx))
  rw[a3n ha]at this
  have:=a4j ha
  rw[v9]
  omega
inductive Gd(N:Nt):Nat->Prop
 | stop {k:Nat}:N[k]? = some []->Gd N k
 | step {k t:Nat} {l:List Nat}:N[k]? = some l->t∈l->Gd N t->Gd N k
inductive Rc(N:Nt):Nat->Prop
 | zero:Rc N 0
 | step {k t:Nat} {l:List Nat}:Rc N k->N[k]? = some l->t∈l->Rc N t
structure a0s(N:Nt):Prop where
 pos:0<N.length
 le:N.length<=400
 two:∀l∈N,l.length<=2
 lt:∀l∈N,∀t∈l,t<N.length
 rc:∀k,k<N.length->Rc N k
 gd:∀k,k<N.length->Gd N k
def a1R(N:Nt)(G:List Nat):List (List Nat):=(y9 N.length).map fun k=>if k∈G then N.getD k [] else (N.length - 1)::(N.getD k []).drop 1
theorem a9R(N:Nt)(G:List Nat):(a1R N G).length=N.length:=by simp[a1R]
theorem a8z{G:List Nat}{k:Nat}(h:k<N.length):(a1R N G)[k]? = some (if k∈G then N.getD k [] else (N.length - 1)::(N.getD k []).drop 1):=by
 unfold a1R
 rw[b8,a6e h]
 rfl
theorem a5Q{G:List Nat}{k:Nat}(h:N[k]? = some l)(hk:k∈G):(a1R N G)[k]? = some l:=by
 have hl:=(k9.mp h).1
 rw[a8z hl,if_pos hk]
 simp[L0,h]
theorem a9Q{G:List Nat}{k:Nat}(h:N[k]? = some l)(hk:¬k∈G):(a1R N G)[k]? = some ((N.length - 1)::l.drop 1):=by
 have hl:=(k9.mp h).1
 rw[a8z hl,if_neg hk]
 simp[L0,h]
theorem c0P{G:List Nat}(hG:∀k∈G,Gd N k)(hl:N[N.length - 1]? = some [])(hm:N.length - 1∈G):∀k,k<N.length->Gd (a1R N G) k:=by
 have last:Gd (a1R N G) (N.length - 1):=.stop (a5Q hl hm)
 have out:∀k,k<N.length->¬k∈G->Gd (a1R N G) k:=fun k hk h=>.step (a9Q (l:=N[k]) (by simp) h) D0 last
 have go:∀k,Gd N k->Gd (a1R N G) k:=by
  intro k h
  induction h with
  | @stop k h=>
   by_cases hk:k∈G
   ·exact .stop (a5Q h hk)
   ·exact out k (k9.mp h).1 hk
  | @step k t l h ht _ ih=>
   by_cases hk:k∈G
   ·exact .step (a5Q h hk) ht ih
   ·exact out k (k9.mp h).1 hk
 intro k hk
 by_cases h:k∈G
 ·exact go k (hG k h)
 ·exact out k hk h
theorem b2w{G:List Nat}(hp:0<N.length)(hs:∀l∈N,l.length<=2/\∀t∈l,t<N.length)(hl:N[N.length - 1]? = some [])(hm:N.length - 1∈G):∀l∈a1R N G,l.length<=2/\∀t∈l,t<N.length:=by
 intro l hl'
 obtain⟨k,hk⟩:=E4.mp hl'
 have hkl:k<N.length:=by have:=(k9.mp hk).1;rwa [a9R]at this
 rw[a8z hkl]at hk
 have e:N.getD k []=N[k]:=by simp[L0,hkl]
 rw[e]at hk
 obtain⟨h1,h2⟩:=hs N[k] (C9 _)
 by_cases hg:k∈G
 ·rw[if_pos hg]at hk
  cases hk
  exact⟨h1,h2⟩
 ·rw[if_neg hg]at hk
  cases hk
  refine⟨?_,fun t ht=>?_⟩
  ·rw[v9,a9g];omega
  ·rcases c8.mp ht with z | z
   ·omega
   ·exact h2 t (List.drop_subset _ _ z)
def a4L(N:Nt)(O:List Nat):List (List Nat):=O.map fun k=>(N.getD k []).map fun t=>O.idxOf t
theorem b8r{O:List Nat}{t:Nat}(h:t∈O):O.idxOf t<O.length:=b2X.mpr h
theorem b0k{O:List Nat}{k:Nat}(hk:k∈O)(h:N[k]? = some l):(a4L N O)[O.idxOf k]? = some (l.map fun t=>O.idxOf t):=by
 unfold a4L
 have:O[O.idxOf k]? = some k:=by
  rw[d8 (b8r hk)]
  simp
 rw[b8,this]
 simp[L0,h]
theorem b4g{O:List Nat}(h0:0∈O)(hs:O.Pairwise (· <= ·)):O.idxOf 0=0:=by
 cases O with
 | nil=>cases h0
 | cons a r=>
  have:a=0:=by
   rcases c8.mp h0 with z | z
   ·exact z.symm
   ·have:=(List.pairwise_cons.mp hs).1 0 z
    omega
  subst this
  simp
theorem b5j{O:List Nat}(h0:0∈O)(hs:O.Pairwise (· <= ·))(hnd:O.Nodup)(hlt:∀k∈O,k<N.length)(hN:N.length<=400)(hcl:∀k∈O,∀l,N[k]? = some l->∀t∈l,t∈O)(hrc:∀k∈O,Rc N k)
  (hsm:∀l∈N,l.length<=2) (hgd:∀k,k<N.length->Gd N k):a0s (a4L N O):=by
 have hlen:(a4L N O).length=O.length:=by simp[a4L]
 have rc:∀k,Rc N k->k∈O/\Rc (a4L N O) (O.idxOf k):=by
  intro k h
  induction h with
  | zero=>
   refine⟨h0,?_⟩
   rw[b4g h0 hs]
   exact .zero
  | @step k t l _ hl ht ih=>
   obtain⟨i1,i2⟩:=ih
   exact⟨hcl k i1 l hl t ht,.step i2 (b0k i1 hl) (u8.mpr ⟨t,ht,rfl⟩)⟩
 have gd:∀k,Gd N k->k∈O->Gd (a4L N O) (O.idxOf k):=by
  intro k h
  induction h with
  | @stop k h=>
   intro hk
   exact .stop (by rw[b0k hk h];rfl)
  | @step k t l h ht _ ih=>
   intro hk
   exact .step (b0k hk h) (u8.mpr ⟨t,ht,rfl⟩) (ih (hcl k hk l h t ht))
 have at_:∀i,i<O.length->∃k∈O,O.idxOf k=i:=fun i hi=>⟨O[i],C9 _,hnd.idxOf_getElem i hi⟩
 have mem:∀l∈a4L N O,∃k∈O,∃l',N[k]? = some l'/\l=l'.map fun t=>O.idxOf t:=by
  intro l hl
  obtain⟨k,hk,rfl⟩:=u8.mp hl
  refine⟨k,hk,N[k]'(hlt k hk),by simp[hlt k hk],?_⟩
  simp[L0,hlt k hk]
 refine⟨?_,?_,fun l hl=>?_,fun l hl t ht=>?_,fun i hi=>?_,fun i hi=>?_⟩
 ·rw[hlen]
  exact a4j h0
 ·rw[hlen]
  exact A9 (a5P _ _ hnd hlt) hN
 ·obtain⟨k,hk,l',e,rfl⟩:=mem l hl
  rw[a8]
  exact hsm l' (T6 e)
 ·obtain⟨k,hk,l',e,rfl⟩:=mem l hl
  obtain⟨t',ht',rfl⟩:=u8.mp ht
  rw[hlen]
  exact b8r (hcl k hk l' e t' ht')
 ·rw[hlen]at hi
  obtain⟨k,hk,rfl⟩:=at_ i hi
  exact(rc k (hrc k hk)).2
 ·rw[hlen]at hi
  obtain⟨k,hk,rfl⟩:=at_ i hi
  exact gd k (hgd k (hlt k hk)) hk
end RD
namespace RD
open PySem PySem.Spec PyProof.Rows L2
variable{C a b c d dx na p ra:Addr}{H H' H0 H1:Hp}{o:HO}{xs ys:List V}{i j m:Nat}{D:a6Z}{σ:L2.St}{ta te:TE}{tt:TT}{Q:VK}{v w:V}{z:Str}{ks l:List Nat}{QD:Hp->Prop}{R:It->Hp->Prop}{M N:Nt}{ns:List Int}{as rs:List Addr}{Z:Addr->Prop}{Do:Nat->Bool}{kvs:List (Key×V)}{RC:Nat->List V}
structure Cn where
 G7:Addr
 a3d:Addr
 R6:Addr
structure a3Q(K:Fg)(c:Cn):Prop where
 J4:Cls K c.G7
 Z3:a1E K c.G7 "entries"
 L8:a1E K c.G7 "nexts"
 G9:a1E K c.G7 "rows"
 b1v:∀H,SqT K H c.a3d [.str "plus",.str "minus",.str "times",.str "less",.str "same"]
 a3c:∀H,SqT K H c.R6 [.int (-1),.int (0)]
 c1j:IsC K c.G7
def spD(n m:Nat)(t:TS):Sp:=fun vs H Q _=>vs.length=n/\t { nx:=fun _ H'=>Q .non H',rt:=Q } (vs.map some++u0 (m - vs.length) none) H
def c1t(K:Fg):TS:=F4 (a1f (a9 (tC (.int 0)) (a9 (tC (.int 1234567891)) (a9 (tC (.int 0)) (a9 (S9 (U0 K (tSl (c2m K) (b5 0) a2A (a8a (tC (.int 63))))) Q1 (tCB b7D (a9 (b5 0) j5))) j5)))))
def b0p(K:Fg):Sp:=spD 1 1 (c1t K)
def b7b(K:Fg):TS:=u5 (J3 (C1 (tOp qEq (tOp qIx (b5 0) (tC (.int 0))) (tC (.int 0)))) (u5 (D2 (tC (.int 12345)) (o5 2)) (u5 (J3 (C1 (tOp qLt (tOp qIx (b5 0) (tC (.int 2))) (tCB T1 (a9 (tOp qIx (b5 0) (tC (.int 3))) j5)))) (u5 (D2 (tOp qIx (tOp qIx (b5 0) (tC (.int 3))) (tOp qIx (b5 0) (tC (.int 2)))) (o5 3)) (u5 (b4w (b5 0) (tC (.int 2)) (tC (.int 1)) b5x (ipI fun i j=>i+j) a7u) (u5 (J3 (C1 (tOp qGe (b5 3) (tC (.int 1000000000000000000)))) (D2 (b5 3) (b0O (b5 0) (tC (.int 0)) a7u)) C5) (D2 (tOp a2P (tOp a9n (b5 3) (tC (.int 2147483647))) (tC (.int 1))) (o5 2))))) C5) (D2 (tOp a9n (tOp a2P (tOp b3C (tOp qIx (b5 0) (tC (.int 1))) (tC (.int 48271))) (b5 2)) (tC (.int 2147483647))) (b0O (b5 0) (tC (.int 1)) a7u)))) C5) (u5 (J3 (C1 (tOp qGt (tOp qIx (b5 0) (tC (.int 0))) (tC (.int 0)))) (u5 (D2 (tOp a9n (tOp qIx (b5 0) (tC (.int 0))) (b5 1)) (o5 4)) (u5 (D2 (tOp b9C (tOp qIx (b5 0) (tC (.int 0))) (b5 1)) (b0O (b5 0) (tC (.int 0)) a7u)) (F4 (b5 4)))) C5) (u5 (D2 (tOp a9n (tOp b3C (tOp qIx (b5 0) (tC (.int 1))) (tC (.int 39373))) (tC (.int 1000000007))) (o5 5)) (u5 (D2 (tOp a9n (tOp b3C (b5 5) (tC (.int 30011))) (tC (.int 998244353))) (o5 6)) (u5 (J3 (C1 (tOp qGt (b5 1) (tC (.int 1000000)))) (F4 (tOp a9n (tOp a2P (tOp b3C (b5 6) (tC (.int 1000000000))) (b5 5)) (b5 1))) C5) (F4 (tOp a9n (tOp b9C (b5 6) (tC (.int 3))) (b5 1)))))))
def K5(K:Fg):Sp:=spD 2 7 (b7b K)
def b7d(K:Fg):TS:=u5 (D2 (a1f (a9 (tC (.str "a")) (a9 (tC (.str "b1")) (a9 (tC (.str "set")) (a9 (tC (.str "k0")) (a9 (tC (.str "ask")) (a9 (tC (.str "k1")) (a9 (tC (.str "total")) (a9 (tC (.str "x2y3z4w5")) (a9 (tC (.str "k2")) (a9 (tC (.str "take")) j5))))))))))) (o5 1)) (u5 (D2 (u9 (K5 K) [] E0 (a9 (b5 0) (a9 (tC (.int 10)) j5))) (o5 2)) (F4 (S9 (a0Q (a9 (tOp a2P (tC (.int 2)) (u9 (K5 K) [] E0 (a9 (b5 0) (a9 (tC (.int 3)) j5)))) j5)) Q1 (tOp qIx (b5 2) (tOp a9n (tOp a2P (b5 3) (tOp b3C (tC (.int 3)) (b5 0))) (tC (.int 10)))))))
def a7z(K:Fg):Sp:=spD 1 3 (b7d K)
def c1r(K:Fg):TS:=u5 (D2 (a1f j5) (o5 2)) (u5 (a1g (a0Q (a9 (b5 1) j5)) (o5 3) (u5 (D2 (tCB b7B (a9 (tOp a2P (b5 3) (tC (.int 1))) (a9 (tOp b7A (b5 1) (tC (.int 1))) j5))) (o5 4)) (u5 (D2 (a1f (a9 (b5 4) (a9 (u9 (K5 K) [] E0 (a9 (b5 0) (a9 (b5 1) j5))) j5))) (o5 5)) (u5 (D2 (u9 (K5 K) [] E0 (a9 (b5 0) (a9 (tC (.int 8)) j5))) (o5 6)) (u5 (J3 (C1 (tOp qLt (b5 6) (tC (.int 3)))) (D2 (a1f (a9 (tOp qIx (b5 5) (tC (.int 1))) (a9 (b5 4) j5))) (o5 5)) C5) (u5 (J3 (C1 (tOp qEq (b5 6) (tC (.int 3)))) (D2 (a1f (a9 (tOp qIx (b5 5) (tC (.int 1))) (a9 (u9 (K5 K) [] E0 (a9 (b5 0) (a9 (b5 1) j5))) j5))) (o5 5)) C5) (u5 (J3 (tOr (a8d (C1 (tOp qGt (b5 6) (tC (.int 3)))) (C1 (tOp qLt (b5 6) (tC (.int 7))))) (C1 (tOp qEq (b5 1) (tC (.int 1))))) (D2 (a1f (a9 (b5 4) j5)) (o5 5)) C5) (u5 (J3 (a8d (C1 (tOp qEq (b5 6) (tC (.int 7)))) (C1 (tOp qGt (b5 1) (tC (.int 1))))) (D2 (a1f (a9 (tOp qIx (b5 5) (tC (.int 1))) j5)) (o5 5)) C5) (u5 (J3 (tOr (C1 (tOp qEq (b5 3) (tOp b7A (b5 1) (tC (.int 1))))) (a8d (C1 (tOp qEq (b5 6) (tC (.int 6)))) (C1 (tOp qEq (u9 (K5 K) [] E0 (a9 (b5 0) (a9 (tC (.int 4)) j5))) (tC (.int 0)))))) (D2 (a1f j5) (o5 5)) C5) (a0O (tBM K "list" a0F (b5 2) (a9 (b5 5) j5)))))))))))) (F4 (b5 2)))
def b0n(K:Fg):Sp:=spD 2 7 (c1r K)
def b1N(K:Fg):TS:=u5 (D2 a2C (o5 1)) (u5 (a1g (a0Q (a9 (tCB T1 (a9 (b5 0) j5)) j5)) (o5 2) (a1g (a0Q (a9 (tCB T1 (a9 (b5 0) j5)) j5)) (o5 3) (J3 (tOr (C1 (tOp qEq (tOp qIx (b5 0) (b5 3)) (a1f j5))) (tB (tCB b3E (a9 (S9 (U0 K (tOp qIx (b5 0) (b5 3))) Q1 (a8c (b5 0) (b5 2))) j5)))) (a1c (b5 1) (b5 3) (tC (.bl true))) C5))) (u5 (D2 (S9 (a0Q (a9 (tCB T1 (a9 (b5 0) j5)) j5)) Q1 (tIf (tB (a8c (b5 0) (b5 2))) (tOp qIx (b5 1) (b5 0)) (tOp a2P (a1f (a9 (tOp b7A (tCB T1 (a9 (b5 1) j5)) (tC (.int 1))) j5)) (tSl qSl (tOp qIx (b5 1) (b5 0)) (a8a (tC (.int 1))) a2A)))) (o5 0)) (u5 (D2 (b1S ((tC (.int 0),tC (.bl true))::[])) (o5 4)) (u5 (a1g (a0Q (a9 (tCB T1 (a9 (b5 0) j5)) j5)) (o5 2) (a1g (a0Q (a9 (tCB T1 (a9 (b5 0) j5)) j5)) (o5 3) (J3 (tB (a8c (b5 3) (b5 4))) (a1g (U0 K (tOp qIx (b5 0) (b5 3))) (o5 5) (a1c (b5 4) (b5 5) (tC (.bl true)))) C5))) (u5 (D2 (tCB a4f (a9 (tCB a6C (a9 (b5 4) j5)) j5)) (o5 6)) (F4 (S9 (U0 K (b5 6)) Q1 (S9 (U0 K (tOp qIx (b5 1) (b5 0))) Q1 (tBM K "list" a6D (b5 8) (a9 (b5 0) j5))))))))))
def a3Z(K:Fg):Sp:=spD 1 7 (b1N K)
def a9L(K:Fg):TS:=u5 (J3 (C1 (tOp qEq (u9 (K5 K) [] E0 (a9 (b5 0) (a9 (tC (.int 4)) j5))) (tC (.int 0)))) (u5 (D2 (a1f (a9 (tC (.int 0)) (a9 (tC (.int 1)) (a9 (tC (.int 999999999999)) (a9 (u9 (K5 K) [] E0 (a9 (b5 0) (a9 (tC (.int 1000000000000)) j5))) j5))))) (o5 2)) (F4 (tOp qIx (b5 2) (u9 (K5 K) [] E0 (a9 (b5 0) (a9 (tC (.int 4)) j5)))))) C5) (F4 (tOp qIx (b5 1) (u9 (K5 K) [] E0 (a9 (b5 0) (a9 (tCB T1 (a9 (b5 1) j5)) j5)))))
def W5(K:Fg):Sp:=spD 2 3 (a9L K)
def b7h(K:Fg):TS:=u5 (D2 (a1f (a9 (tC (.str "plus")) (a9 (tC (.str "minus")) (a9 (tC (.str "times")) (a9 (tC (.str "less")) (a9 (tC (.str "same")) j5)))))) (o5 2)) (F4 (a0w (a9 (tOp qIx (b5 2) (u9 (K5 K) [] E0 (a9 (b5 0) (a9 (tC (.int 5)) j5)))) (a9 (u9 (W5 K) [] E0 (a9 (b5 0) (a9 (b5 1) j5))) (a9 (u9 (W5 K) [] E0 (a9 (b5 0) (a9 (b5 1) j5))) j5)))))
def a7A(K:Fg):Sp:=spD 2 3 (b7h K)
def c1q(K:Fg):TS:=u5 (J3 (tB (b5 3)) (F4 (a0w (a9 (tC (.str "ask")) (a9 (u9 (W5 K) [] E0 (a9 (b5 0) (a9 (b5 1) j5))) j5)))) C5) (u5 (D2 (u9 (K5 K) [] E0 (a9 (b5 0) (a9 (tC (.int 9)) j5))) (o5 4)) (u5 (D2 (tOp qIx (b5 1) (u9 (K5 K) [] E0 (a9 (b5 0) (a9 (tCB T1 (a9 (b5 1) j5)) j5)))) (o5 5)) (u5 (J3 (C1 (tOp qLt (b5 4) (tC (.int 4)))) (F4 (a0w (a9 (tC (.str "set")) (a9 (b5 5) (a9 (tOp qIx (b5 2) (u9 (K5 K) [] E0 (a9 (b5 0) (a9 (tCB T1 (a9 (b5 2) j5)) j5)))) j5))))) C5) (u5 (J3 (C1 (tOp qLt (b5 4) (tC (.int 7)))) (F4 (a0w (a9 (tC (.str "copy")) (a9 (b5 5) (a9 (u9 (W5 K) [] E0 (a9 (b5 0) (a9 (b5 1) j5))) j5))))) C5) (u5 (J3 (C1 (tOp qEq (b5 4) (tC (.int 7)))) (F4 (tOp qIx (a1f (a9 (a0w (a9 (tC (.str "take")) (a9 (b5 5) j5))) (a9 (a0w (a9 (tC (.str "tell")) (a9 (u9 (W5 K) [] E0 (a9 (b5 0) (a9 (b5 1) j5))) j5))) j5))) (u9 (K5 K) [] E0 (a9 (b5 0) (a9 (tC (.int 2)) j5))))) C5) (F4 (a0w (a9 (tC (.str "skip")) j5))))))))
def b0m(K:Fg):Sp:=spD 4 6 (c1q K)
def b7e(K:Fg):TS:=u5 (D2 (u9 (a7z K) [] E0 (a9 (b5 0) j5)) (o5 1)) (u5 (D2 (tOp a2P (tC (.int 1)) (u9 (K5 K) [] E0 (a9 (b5 0) (a9 (tC (.int 9)) j5)))) (o5 2)) (u5 (D2 (tOp a2P (tC (.int 1)) (u9 (K5 K) [] E0 (a9 (b5 0) (a9 (tC (.int 5)) j5)))) (o5 3)) (u5 (J3 (C1 (tOp qEq (u9 (K5 K) [] E0 (a9 (b5 0) (a9 (tC (.int 8)) j5))) (tC (.int 7)))) (u5 (D2 (tOp a2P (tC (.int 15)) (u9 (K5 K) [] E0 (a9 (b5 0) (a9 (tC (.int 10)) j5)))) (o5 2)) (D2 (tOp a2P (tC (.int 1)) (u9 (K5 K) [] E0 (a9 (b5 0) (a9 (tC (.int 3)) j5)))) (o5 3))) C5) (u5 (D2 (u9 (a3Z K) [] E0 (a9 (u9 (b0n K) [] E0 (a9 (b5 0) (a9 (b5 2) j5))) j5)) (o5 4)) (u5 (D2 (S9 (a0Q (a9 (b5 3) j5)) Q1 (u9 (a7A K) [] E0 (a9 (b5 1) (a9 (b5 2) j5)))) (o5 5)) (u5 (fun D σ H=>(S9 (U0 K (b5 4)) Q1 (u9 (b0m K) [] E0 (a9 (b5 1) (a9 (b5 2) (a9 (b5 6) (a9 (tOp qEq (tCB T1 (a9 (b5 0) j5)) (tC (.int 2))) j5)))))) σ H fun v H1=>D.nx (σ.set 6 (some v)) H1) (F4 (a0w (a9 (b5 6) (a9 (b5 4) j5))))))))))
def a5x(K:Fg):Sp:=spD 1 7 (b7e K)
def a3x(K:Fg):TS:=u5 (J3 (tOr (a4J (tB (tCB a4S (a9 (b5 0) (a9 (tC (.ty "list")) j5))))) (C1 (tOp qLt (tCB T1 (a9 (b5 0) j5)) (b5 2)))) (fun _ _ _=>False) C5) (J3 (C1 (tOp qGt (tCB T1 (a9 (b5 0) j5)) (tC (.int 400)))) (fun _ _ _=>False) C5)
def Y9(K:Fg):Sp:=spD 3 3 (a3x K)
def a6p(K:Fg):TS:=u5 (J3 (tOr (a4J (tB (tCB a4S (a9 (b5 0) (a9 (tC (.ty "str")) j5))))) (a4J (C1 (a3y qLe qLe (tC (.int 1)) (tCB T1 (a9 (b5 0) j5)) (tC (.int 8)))))) (F4 (tC (.bl false))) C5) (F4 (a0a (tOp (qIn false) (tOp qIx (b5 0) (tC (.int 0))) (tC (.str "abcdefghijklmnopqrstuvwxyz"))) (tCB b0C (a9 (S9 (c0M (b5 0)) Q1 (tOp (qIn false) (b5 0) (tOp a2P (tC (.str "abcdefghijklmnopqrstuvwxyz")) (tC (.str "0123456789"))))) j5))))
def U4(K:Fg):Sp:=spD 1 1 (a6p K)
def b3k(K:Fg):TS:=F4 (a0a (tCB a4S (a9 (b5 0) (a9 (tC (.ty "int")) j5))) (b1Q (tCB a4S (a9 (b5 0) (a9 (tC (.ty "bool")) j5)))))
def a0P(K:Fg):Sp:=spD 1 1 (b3k K)
def a7Y(K:Fg):TS:=F4 (a0a (u9 (a0P K) [] E0 (a9 (b5 0) j5)) (a3y qLe qLt (tC (.int 0)) (b5 0) (tC (.int 1000000000000))))
def a1N(K:Fg):Sp:=spD 1 1 (a7Y K)
def a5r(K:Fg):TS:=F4 (b9i (u9 (U4 K) [] E0 (a9 (b5 0) j5)) (u9 (a1N K) [] E0 (a9 (b5 0) j5)))
def R8(K:Fg):Sp:=spD 1 1 (a5r K)
def a9M(K:Fg)(c:Cn):TS:=u5 (J3 (tOr (a4J (tB (tCB a4S (a9 (b5 0) (a9 (tC (.ty "tuple")) j5))))) (C1 (tOp qNe (tCB T1 (a9 (b5 0) j5)) (tC (.int 3))))) (F4 (tC (.bl false))) C5) (F4 (a0a (tOp (c2t K) (tOp qIx (b5 0) (tC (.int 0))) (tC (.ref c.a3d))) (a0a (u9 (R8 K) [] E0 (a9 (tOp qIx (b5 0) (tC (.int 1))) j5)) (u9 (R8 K) [] E0 (a9 (tOp qIx (b5 0) (tC (.int 2))) j5)))))
def a2F(K:Fg)(c:Cn):Sp:=spD 1 1 (a9M K c)
def b1O(K:Fg)(c:Cn):TS:=u5 (J3 (tOr (a4J (tB (tCB a4S (a9 (b5 0) (a9 (tC (.ty "tuple")) j5))))) (C1 (tOp qEq (tCB T1 (a9 (b5 0) j5)) (tC (.int 0))))) (F4 (tC (.bl false))) C5) (u5 (D2 (tOp qIx (b5 0) (tC (.int 0))) (o5 1)) (u5 (D2 (tSl qSl (b5 0) (a8a (tC (.int 1))) a2A) (o5 2)) (u5 (J3 (C1 (tOp qEq (b5 1) (tC (.str "set")))) (F4 (a0a (tOp qEq (tCB T1 (a9 (b5 2) j5)) (tC (.int 2))) (a0a (u9 (U4 K) [] E0 (a9 (tOp qIx (b5 2) (tC (.int 0))) j5)) (u9 (a2F K c) [] E0 (a9 (tOp qIx (b5 2) (tC (.int 1))) j5))))) C5) (u5 (J3 (C1 (tOp qEq (b5 1) (tC (.str "copy")))) (F4 (a0a (tOp qEq (tCB T1 (a9 (b5 2) j5)) (tC (.int 2))) (a0a (u9 (U4 K) [] E0 (a9 (tOp qIx (b5 2) (tC (.int 0))) j5)) (u9 (R8 K) [] E0 (a9 (tOp qIx (b5 2) (tC (.int 1))) j5))))) C5) (u5 (J3 (C1 (tOp qEq (b5 1) (tC (.str "take")))) (F4 (a0a (tOp qEq (tCB T1 (a9 (b5 2) j5)) (tC (.int 1))) (u9 (U4 K) [] E0 (a9 (tOp qIx (b5 2) (tC (.int 0))) j5)))) C5) (u5 (J3 (C1 (tOp (qIn false) (b5 1) (a0w (a9 (tC (.str "tell")) (a9 (tC (.str "ask")) j5))))) (F4 (a0a (tOp qEq (tCB T1 (a9 (b5 2) j5)) (tC (.int 1))) (u9 (R8 K) [] E0 (a9 (tOp qIx (b5 2) (tC (.int 0))) j5)))) C5) (F4 (a0a (tOp qEq (b5 1) (tC (.str "skip"))) (tOp qEq (tCB T1 (a9 (b5 2) j5)) (tC (.int 0)))))))))))
def a4a(K:Fg)(c:Cn):Sp:=spD 1 3 (b1O K c)
def a5t(K:Fg):TS:=a1g (a5S K (a9 (b5 0) j5)) (a8G K 2 (Y8 (o5 1) (Y8 (o5 2) (a8H)))) (J3 (a4J (tB (b5 2))) (fun _ _ _=>False) C5)
def Y5(K:Fg):Sp:=spD 1 3 (a5t K)
def a7Z(K:Fg):TS:=F4 (a0a (u9 (a0P K) [] E0 (a9 (b5 0) j5)) (a3y qLe qLt (tC (.int 0)) (b5 0) (b5 1)))
def a1O(K:Fg):Sp:=spD 2 2 (a7Z K)
def a7h(K:Fg):TS:=u5 (J3 (a4J (tB (tCB a4S (a9 (b5 1) (a9 (tC (.ty "list")) j5))))) (F4 (tC (.bl false))) C5) (u5 (D2 (tIf (C1 (tOp qEq (tOp qIx (b5 0) (tC (.int 0))) (tC (.str "ask")))) (a0w (a9 (tC (.int 2)) j5)) (a0w (a9 (tC (.int 0)) (a9 (tC (.int 1)) j5)))) (o5 3)) (F4 (a0a (tOp (qIn false) (tCB T1 (a9 (b5 1) j5)) (b5 3)) (tCB b0C (a9 (S9 (U0 K (b5 1)) Q1 (u9 (a1O K) [] E0 (a9 (b5 0) (a9 (b5 3) j5)))) j5)))))
def a1k(K:Fg):Sp:=spD 3 4 (a7h K)
def a4v(K:Fg):TS:=u5 (J3 (tOr (a4J (tB (tCB a4S (a9 (b5 1) (a9 (tC (.ty "list")) j5))))) (C1 (tOp qNe (tCB T1 (a9 (b5 1) j5)) (tCB T1 (a9 (b5 0) j5))))) (fun _ _ _=>False) C5) (a0O (u9 (Y5 K) [] E0 (a9 (a6r K (c0L K (a9 (b5 0) (a9 (b5 1) j5))) Q1 (u9 (a1k K) [] E0 (a9 (b5 0) (a9 (b5 1) (a9 (tCB T1 (a9 (b5 2) j5)) j5))))) j5)))
def a0j(K:Fg):Sp:=spD 2 2 (a4v K)
def a9J(K:Fg):TS:=u5 (D2 a2C (o5 2)) (u5 (D2 (tCB a3D (a9 (b5 0) j5)) (o5 3)) (u5 (a6q (C1 (tOp qGt (tCB T1 (a9 (b5 3) j5)) (tC (.int 0)))) (u5 (D2 (b9j K "list" b5w (b5 3)) (o5 4)) (J3 (tB (a1h (b5 4) (b5 2))) (u5 (a1c (b5 2) (b5 4) (tC (.bl true))) (a0O (tBM K "list" a2O (b5 3) (a9 (tOp qIx (b5 1) (b5 4)) j5)))) C5))) (F4 (b5 2))))
def a1w(K:Fg):Sp:=spD 2 5 (a9J K)
def b1L(K:Fg):TS:=u5 (fun D σ H=>(S9 (U0 K (b5 0)) Q1 (a1f j5)) σ H fun v H1=>D.nx (σ.set 1 (some v)) H1) (u5 (a1g (a5S K (a9 (b5 0) j5)) (a8G K 2 (Y8 (o5 2) (Y8 (o5 3) (a8H)))) (a1g (U0 K (b5 3)) (o5 4) (a0O (tBM K "list" a0F (tOp qIx (b5 1) (b5 4)) (a9 (b5 2) j5))))) (F4 (b5 1)))
def a3X(K:Fg):Sp:=spD 1 5 (b1L K)
def a7U(K:Fg):TS:=F4 (a6r K (a5S K (a9 (b5 0) j5)) (C1 (tOp qEq (tCB T1 (a9 (b5 1) j5)) (tC (.int 0)))) (b5 0))
def a1J(K:Fg):Sp:=spD 1 1 (a7U K)
def a5s(K:Fg):TS:=u5 (D2 (u9 (a1w K) [] E0 (a9 (a1f (a9 (tC (.int 0)) j5)) (a9 (b5 0) j5))) (o5 1)) (u5 (D2 (u9 (a1w K) [] E0 (a9 (u9 (a1J K) [] E0 (a9 (b5 0) j5)) (a9 (u9 (a3X K) [] E0 (a9 (b5 0) j5)) j5))) (o5 2)) (a1g (a0Q (a9 (tCB T1 (a9 (b5 0) j5)) j5)) (o5 3) (J3 (tOr (tB (a1h (b5 3) (b5 1))) (tB (a1h (b5 3) (b5 2)))) (fun _ _ _=>False) C5)))
def a0D(K:Fg):Sp:=spD 1 4 (a5s K)
def a7V(K:Fg)(c:Cn):TS:=u5 (D2 (a1f (a9 (tC (.ref c.R6)) j5)) (o5 1)) (u5 (a1g (a5S K (a9 (b5 0) j5)) (a8G K 2 (Y8 (o5 2) (Y8 (o5 3) (a8H)))) (a0O (tBM K "list" a2O (b5 1) (a9 (S9 (a0Q (a9 (tCB T1 (a9 (b5 3) j5)) j5)) Q1 (a0w (a9 (b5 3) (a9 (b5 0) j5)))) j5)))) (F4 (b5 1)))
def a1K(K:Fg)(c:Cn):Sp:=spD 1 4 (a7V K c)
def a3h(K:Fg)(c:Cn):TS:=u5 (J3 (C1 (tOp (c2v K) (b5 1) (tC (.ref c.R6)))) (F4 (tC (.int 0))) C5) (F4 (tOp qIx (tOp qIx (a2B K (b5 0) "nexts") (tOp qIx (b5 1) (tC (.int 0)))) (tOp qIx (b5 1) (tC (.int 1)))))
def X5(K:Fg)(c:Cn):Sp:=spD 2 2 (a3h K c)
def a7i(K:Fg)(c:Cn):TS:=u5 (a0O (u9 (Y9 K) [] E0 (a9 (b5 1) (a9 (tC (.int 0)) (a9 (tC (.int 1)) j5))))) (u5 (a0O (u9 (Y5 K) [] E0 (a9 (S9 (U0 K (b5 1)) Q1 (u9 (a4a K c) [] E0 (a9 (b5 0) j5))) j5))) (u5 (a0O (u9 (a0j K) [] E0 (a9 (b5 1) (a9 (b5 2) j5)))) (u5 (a0O (u9 (a0D K) [] E0 (a9 (b5 2) j5))) (u5 (b5v K (b5 0) (tCB a3D (a9 (b5 1) j5)) "rows") (u5 (b5v K (b5 0) (S9 (U0 K (b5 2)) Q1 (tCB a3D (a9 (b5 0) j5))) "nexts") (u5 (b5v K (b5 0) (S9 (U0 K (b5 1)) Q1 (a1f j5)) "entries") (a1g (U0 K (u9 (a1K K c) [] E0 (a9 (a2B K (b5 0) "nexts") j5))) (o5 3) (a0O (tBM K "list" a0F (tOp qIx (a2B K (b5 0) "entries") (b1R c.G7 "leads_to" (X5 K c) [] E0 (b5 0) (a9 (b5 3) j5))) (a9 (b5 3) j5))))))))))
def a0k(K:Fg)(c:Cn):Sp:=spD 3 4 (a7i K c)
def b7f(K:Fg)(c:Cn):TS:=F4 (a8b c.G7 (a0k K c) [] E0 (a9 (tCB a3D (a9 (b5 0) j5)) (a9 (S9 (U0 K (b5 1)) Q1 (tCB a3D (a9 (b5 0) j5))) j5)))
def a5y(K:Fg)(c:Cn):Sp:=spD 2 2 (b7f K c)
def a7g(K:Fg):TS:=u5 (D2 b3m (o5 1)) (u5 (a1g (U0 K (a2B K (b5 0) "rows")) (o5 2) (J3 (a8d (C1 (tOp qEq (tOp qIx (b5 2) (tC (.int 0))) (tC (.str "copy")))) (C1 (tOp qNe (tOp qIx (b5 2) (tC (.int 1))) (tOp qIx (b5 2) (tC (.int 2)))))) (a1c (b5 1) (b5 2) (tC (.bl true))) C5)) (F4 (tCB b3D (a9 (b5 1) j5))))
def a1j(K:Fg):Sp:=spD 1 3 (a7g K)
def b1M(K:Fg):TS:=F4 (tIf (C1 (tOp (qIn false) (tOp qIx (b5 0) (tC (.int 0))) (a0w (a9 (tC (.str "set")) (a9 (tC (.str "copy")) (a9 (tC (.str "take")) j5)))))) (tOp qIx (b5 0) (tC (.int 1))) (tC .non))
def a3Y(K:Fg):Sp:=spD 1 1 (b1M K)
def a9K(K:Fg):TS:=a1g (a5S K (a9 (tOp qIx (a2B K (b5 0) "nexts") (b5 1)) j5)) (a8G K 2 (Y8 (o5 4) (Y8 (o5 5) (a8H)))) (J3 (tB (a1h (b5 5) (b5 2))) (u5 (a1c (b5 2) (b5 5) (a0w (a9 (b5 1) (a9 (b5 4) j5)))) (a0O (tBM K "list" a0F (b5 3) (a9 (b5 5) j5)))) C5)
def a1x(K:Fg):Sp:=spD 4 6 (a9K K)
def a3f(K:Fg)(c:Cn):TS:=u5 (D2 (b1S ((tC (.int 0),tC (.ref c.R6))::[])) (o5 3)) (u5 (D2 (a1f (a9 (tC (.int 0)) j5)) (o5 4)) (u5 (a1g (a0Q (a9 (tCB T1 (a9 (a2B K (b5 0) "rows") j5)) j5)) (o5 5) (J3 (tB (tOp qIx (b5 2) (b5 5))) (a0O (u9 (a1x K) [] E0 (a9 (b5 0) (a9 (b5 5) (a9 (b5 3) (a9 (b5 4) j5)))))) C5)) (u5 (D2 (tC (.int 0)) (o5 6)) (u5 (a6q (C1 (tOp qLt (b5 6) (tCB T1 (a9 (b5 4) j5)))) (u5 (D2 (tOp qIx (b5 4) (b5 6)) (o5 5)) (u5 (b9k 6 (tC (.int 1)) (ipI fun i j=>i+j)) (J3 (a4J (tB (tOp qIx (b5 1) (b5 5)))) (a0O (u9 (a1x K) [] E0 (a9 (b5 0) (a9 (b5 5) (a9 (b5 3) (a9 (b5 4) j5)))))) C5)))) (F4 (b5 3))))))
def X3(K:Fg)(c:Cn):Sp:=spD 3 7 (a3f K c)
def a2l(K:Fg)(c:Cn):TS:=u5 (fun D σ H=>(S9 (U0 K (a2B K (b5 0) "rows")) Q1 (tOp c2u (b5 0) (b5 2))) σ H fun v H1=>D.nx (σ.set 2 (some v)) H1) (u5 (fun D σ H=>(S9 (U0 K (a2B K (b5 0) "rows")) Q1 (a0a (tOp c2s (b5 0) (b5 2)) (tOp (qIn false) (u9 (a3Y K) [] E0 (a9 (b5 0) j5)) (tSl qSl (b5 2) (a8a (tC (.int 1))) a2A)))) σ H fun v H1=>D.nx (σ.set 3 (some v)) H1) (F4 (u9 (X3 K c) [] E0 (a9 (b5 0) (a9 (b5 2) (a9 (b5 3) j5))))))
def V6(K:Fg)(c:Cn):Sp:=spD 2 4 (a2l K c)
def a2m(K:Fg)(c:Cn):TS:=u5 (fun D σ H=>(S9 (U0 K (a2B K (b5 0) "rows")) Q1 a2C) σ H fun v H1=>D.nx (σ.set 1 (some v)) H1) (u5 (a1g (U0 K (u9 (a1j K) [] E0 (a9 (b5 0) j5))) (o5 2) (u5 (D2 (u9 (V6 K c) [] E0 (a9 (b5 0) (a9 (b5 2) j5))) (o5 3)) (a1g (a0Q (a9 (tCB T1 (a9 (a2B K (b5 0) "rows") j5)) j5)) (o5 4) (J3 (tB (a1h (b5 4) (b5 3))) (a1c (tOp qIx (b5 1) (b5 4)) (tOp qIx (b5 2) (tC (.int 1))) (tOp qIx (b5 2) (tC (.int 2)))) C5)))) (F4 (b5 1)))
def V7(K:Fg)(c:Cn):Sp:=spD 1 5 (a2m K c)
def a3g(K:Fg):TS:=u5 (J3 (C1 (tOp qEq (tOp qIx (b5 0) (tC (.int 0))) (tC (.str "set")))) (u5 (D2 (tOp qIx (b5 0) (tC (.int 2))) (o5 2)) (F4 (a0w (a9 (tC (.str "set")) (a9 (tOp qIx (b5 0) (tC (.int 1))) (a9 (a0w (a9 (tOp qIx (b5 2) (tC (.int 0))) (a9 (a4K (b5 1) (tOp qIx (b5 2) (tC (.int 1))) (tOp qIx (b5 2) (tC (.int 1)))) (a9 (a4K (b5 1) (tOp qIx (b5 2) (tC (.int 2))) (tOp qIx (b5 2) (tC (.int 2)))) j5)))) j5)))))) C5) (u5 (J3 (C1 (tOp qEq (tOp qIx (b5 0) (tC (.int 0))) (tC (.str "copy")))) (F4 (a0w (a9 (tC (.str "copy")) (a9 (tOp qIx (b5 0) (tC (.int 1))) (a9 (a4K (b5 1) (tOp qIx (b5 0) (tC (.int 2))) (tOp qIx (b5 0) (tC (.int 2)))) j5))))) C5) (u5 (J3 (C1 (tOp (qIn false) (tOp qIx (b5 0) (tC (.int 0))) (a0w (a9 (tC (.str "tell")) (a9 (tC (.str "ask")) j5))))) (F4 (a0w (a9 (tOp qIx (b5 0) (tC (.int 0))) (a9 (a4K (b5 1) (tOp qIx (b5 0) (tC (.int 1))) (tOp qIx (b5 0) (tC (.int 1)))) j5)))) C5) (F4 (b5 0))))
def X4(K:Fg):Sp:=spD 2 3 (a3g K)
def a7f(K:Fg)(c:Cn):TS:=u5 (D2 (u9 (V7 K c) [] E0 (a9 (b5 0) j5)) (o5 1)) (F4 (a8b c.G7 (a0k K c) [] E0 (a9 (a6r K (a5S K (a9 (a2B K (b5 0) "rows") j5)) Q1 (u9 (X4 K) [] E0 (a9 (b5 1) (a9 (tOp qIx (b5 3) (b5 0)) j5)))) (a9 (a2B K (b5 0) "nexts") j5))))
def a1i(K:Fg)(c:Cn):Sp:=spD 1 2 (a7f K c)
def b1P(K:Fg):TS:=u5 (D2 (tC .non) (o5 2)) (u5 (J3 (C1 (tOp (qIn false) (tOp qIx (b5 0) (tC (.int 0))) (a1f (a9 (tC (.str "set")) (a9 (tC (.str "copy")) (a9 (tC (.str "take")) j5)))))) (D2 (tOp qIx (b5 0) (tC (.int 1))) (o5 2)) C5) (u5 (D2 a2C (o5 3)) (u5 (b4v (b5 1) (o5 4) (J3 (a8d (C1 (tOp qNe (b5 4) (b5 2))) (C1 (tOp qNe (a5u (b5 1) (b5 4)) (b5 2)))) (a1c (b5 3) (b5 4) (a5u (b5 1) (b5 4))) C5)) (u5 (J3 (a8d (C1 (tOp qEq (tOp qIx (b5 0) (tC (.int 0))) (tC (.str "copy")))) (C1 (tOp qNe (tOp qIx (b5 0) (tC (.int 2))) (b5 2)))) (a1c (b5 3) (b5 2) (tOp qIx (b5 0) (tC (.int 2)))) C5) (F4 (b5 3))))))
def a4b(K:Fg):Sp:=spD 2 5 (b1P K)
def b7i(K:Fg):TS:=u5 (D2 a2C (o5 2)) (u5 (b4v (b5 0) (o5 3) (J3 (a8d (tB (a8c (b5 3) (b5 1))) (C1 (tOp qEq (a5u (b5 0) (b5 3)) (a5u (b5 1) (b5 3))))) (a1c (b5 2) (b5 3) (a5u (b5 0) (b5 3))) C5)) (F4 (b5 2)))
def a5z(K:Fg):Sp:=spD 2 4 (b7i K)
def a7W(K:Fg):TS:=u5 (fun D σ H=>(S9 (U0 K (b5 0)) Q1 (tC .non)) σ H fun v H1=>D.nx (σ.set 2 (some v)) H1) (u5 (D2 a2C (b0O (b5 2) (tC (.int 0)) a7u)) (u5 (D2 (tC (.bl true)) (o5 3)) (u5 (a6q (tB (b5 3)) (u5 (D2 (tC (.bl false)) (o5 3)) (a1g (a0Q (a9 (tCB T1 (a9 (b5 0) j5)) j5)) (o5 4) (J3 (C1 (tOp a8q (tOp qIx (b5 2) (b5 4)) (tC .non))) (u5 (D2 (u9 (a4b K) [] E0 (a9 (tOp qIx (b5 0) (b5 4)) (a9 (tOp qIx (b5 2) (b5 4)) j5))) (o5 5)) (a1g (U0 K (tOp qIx (b5 1) (b5 4))) (o5 6) (u5 (D2 (b5 5) (o5 7)) (u5 (J3 (C1 (tOp a8q (tOp qIx (b5 2) (b5 6)) (tC .non))) (D2 (u9 (a5z K) [] E0 (a9 (tOp qIx (b5 2) (b5 6)) (a9 (b5 5) j5))) (o5 7)) C5) (J3 (C1 (tOp b9A (b5 7) (tOp qIx (b5 2) (b5 6)))) (u5 (D2 (b5 7) (b0O (b5 2) (b5 6) a7u)) (D2 (tC (.bl true)) (o5 3))) C5))))) C5)))) (F4 (b5 2)))))
def a1L(K:Fg):Sp:=spD 2 8 (a7W K)
def b7c(K:Fg):TS:=u5 (J3 (a8d (tB (tCB a4S (a9 (b5 1) (a9 (tC (.ty "str")) j5)))) (tB (a8c (b5 1) (b5 0)))) (F4 (a5u (b5 0) (b5 1))) C5) (F4 (b5 1))
def a2E(K:Fg):Sp:=spD 2 2 (b7c K)
def a7X(K:Fg):TS:=u5 (J3 (C1 (tOp qEq (tOp qIx (b5 0) (tC (.int 0))) (tC (.str "set")))) (u5 (D2 (tOp qIx (b5 0) (tC (.int 2))) (a8G K 3 (Y8 (o5 2) (Y8 (o5 3) (Y8 (o5 4) (a8H)))))) (F4 (a0w (a9 (tC (.str "set")) (a9 (tOp qIx (b5 0) (tC (.int 1))) (a9 (a0w (a9 (b5 2) (a9 (u9 (a2E K) [] E0 (a9 (b5 1) (a9 (b5 3) j5))) (a9 (u9 (a2E K) [] E0 (a9 (b5 1) (a9 (b5 4) j5))) j5)))) j5)))))) C5) (u5 (J3 (C1 (tOp qEq (tOp qIx (b5 0) (tC (.int 0))) (tC (.str "copy")))) (F4 (a0w (a9 (tC (.str "copy")) (a9 (tOp qIx (b5 0) (tC (.int 1))) (a9 (u9 (a2E K) [] E0 (a9 (b5 1) (a9 (tOp qIx (b5 0) (tC (.int 2))) j5))) j5))))) C5) (u5 (J3 (tOr (C1 (tOp qEq (tOp qIx (b5 0) (tC (.int 0))) (tC (.str "tell")))) (C1 (tOp qEq (tOp qIx (b5 0) (tC (.int 0))) (tC (.str "ask"))))) (F4 (a0w (a9 (tOp qIx (b5 0) (tC (.int 0))) (a9 (u9 (a2E K) [] E0 (a9 (b5 1) (a9 (tOp qIx (b5 0) (tC (.int 1))) j5))) j5)))) C5) (F4 (b5 0))))
def a1M(K:Fg):Sp:=spD 2 5 (a7X K)
def c1s(K:Fg):TS:=u5 (D2 (u9 (a1L K) [] E0 (a9 (b5 0) (a9 (b5 1) j5))) (o5 2)) (F4 (S9 (a0Q (a9 (tCB T1 (a9 (b5 0) j5)) j5)) Q1 (u9 (a1M K) [] E0 (a9 (tOp qIx (b5 1) (b5 0)) (a9 (tOp qIx (b5 3) (b5 0)) j5)))))
def b0o(K:Fg):Sp:=spD 2 3 (c1s K)
def b4u(K:Fg)(c:Cn):TS:=u5 (D2 (u9 (a1i K c) [] E0 (a9 (b5 0) j5)) (o5 3)) (u5 (J3 (tOr (a4J (tB (tCB (b7C K) (a9 (b5 3) (a9 (tC (.ref c.G7)) j5))))) (tOr (C1 (tOp (b9z K) (a2B K (b5 0) "rows") (b5 1))) (C1 (tOp (b9z K) (a2B K (b5 0) "nexts") (b5 2))))) (F4 (tC (.bl false))) C5) (F4 (a0a (tOp (b9B K) (a2B K (b5 3) "rows") (u9 (b0o K) [] E0 (a9 (b5 1) (a9 (b5 2) j5)))) (tOp (b9B K) (a2B K (b5 3) "nexts") (b5 2)))))
def a2n(K:Fg)(c:Cn):Sp:=spD 3 4 (b4u K c)
def b7g(K:Fg)(c:Cn):TS:=u5 (D2 (u9 (b0p K) [] E0 (a9 (b5 0) j5)) (o5 1)) (u5 (D2 (u9 (a5x K) [] E0 (a9 (b5 1) j5)) (a8G K 2 (Y8 (o5 2) (Y8 (o5 3) (a8H))))) (u5 (D2 (u9 (a5x K) [] E0 (a9 (b5 1) j5)) (a8G K 2 (Y8 (o5 4) (Y8 (o5 5) (a8H))))) (u5 (D2 (u9 (a5y K c) [] E0 (a9 (b5 2) (a9 (b5 3) j5))) (o5 6)) (u5 (D2 (u9 (a5y K c) [] E0 (a9 (b5 4) (a9 (b5 5) j5))) (o5 7)) (u5 (J3 (tOr (a4J (tB (u9 (a2n K c) [] E0 (a9 (b5 6) (a9 (b5 2) (a9 (b5 3) j5)))))) (a4J (tB (u9 (a2n K c) [] E0 (a9 (b5 7) (a9 (b5 4) (a9 (b5 5) j5))))))) (F4 (tC (.bl false))) C5) (F4 (u9 (a2n K c) [] E0 (a9 (b5 6) (a9 (b5 2) (a9 (b5 3) j5))))))))))
def a8e(K:Fg):Sp:=fun vs H Q _=>vs.length=1/\∀c,a3Q K c->b7g K c { nx:=fun _ H'=>Q .non H',rt:=Q } (vs.map some++u0 (8 - vs.length) none) H
end RD
local macro_rules | `(tactic| walk_at "st") => `(tactic| (with_reducible first
 | refine RD.c1x ?_ | refine RD.a7C ?_ | refine RD.c2e ?_ | refine RD.c1v ?_ | refine RD.b7s ?_ | refine RD.c4E ?_ | refine RD.b7p ?_ | refine RD.c1Y ?_ | refine RD.c4y ?_ | refine RD.c4B ?_ | refine RD.c4H ?_ | refine RD.c5J ?_ | refine RD.c2h ?_ | refine RD.c4z ?_ | refine RD.c2a ?_ | refine RD.c4D ?_ | refine RD.c4A ?_ | refine RD.b9v ?_ | refine RD.s_un ?_ | refine RD.s_neg ?_ | refine RD.s_c ?_ | refine RD.a4R ?_ | refine RD.b4y ?_ | refine RD.c2f ?_ | refine RD.c5K ?_ | refine RD.c1u ?_ | refine RD.c4C ?_ | refine RD.c5I ?_ | refine RD.c1Z ?_ | refine RD.b7o ?_ | refine RD.s_rev ?_ | refine RD.b3v ?_ | refine RD.c2g ?_ | refine RD.s_bmS ?_
 | refine RD.a4x (by with_unfolding_all rfl) ?_ | refine Exists.intro _ (And.intro (Eq.refl (L2.V.bl _)) ?_) | refine Exists.intro _ (And.intro (Eq.refl (L2.V.int _)) ?_)
 | refine RD.c4V ?_ | refine RD.c2o ?_ | refine RD.c5P ?_ | refine RD.c4W ?_ | refine RD.c5Q rfl ?_ | refine RD.c5O rfl ?_))
local macro_rules | `(tactic| walk_at "ev") => `(tactic| repeat walk_at "st")
local macro_rules | `(tactic| walk_at "go") => `(tactic| repeat (first | with_reducible refine RD.Q2 ?_ | walk_at "st"))
local macro_rules | `(tactic| ext) => `(tactic| walk_at "ev")
local macro_rules | `(tactic| exists $t:term) => `(tactic| (refine $t; walk_at "ev"))
local macro_rules | `(tactic| specialize $t:term) => `(tactic| (with_reducible refine $t; walk_at "ev"))
local macro_rules | `(tactic| exact_mod_cast $t:term) => `(tactic| with_reducible refine $t)
local macro_rules | `(tactic| nofun) => `(tactic| (with_reducible refine RD.Q2 ?_; walk_at "ev"))
namespace RD
open PySem PySem.Spec L2
variable{C a b c d dx na p ra:Addr}{H H' H0 H1:Hp}{o:HO}{xs ys:List V}{i j m:Nat}{D:a6Z}{σ:St}{ta te:TE}{tt:TT}{Q:VK}{v w:V}{z:Str}{ks l:List Nat}{QD:Hp->Prop}{R:It->Hp->Prop}{M N:Nt}{ns:List Int}{as rs:List Addr}{Z:Addr->Prop}{Do:Nat->Bool}{kvs:List (Key×V)}{RC:Nat->List V}
section
variable {D:Addr}
theorem c2d(h:ta σ H fun v H2=>∃x,v=.str x/\R (Its x) H2):c0M ta σ H R:=h
theorem b8B{x:Str}(Pv:Nat->List V->Hp->Prop)(h0:Pv 0 [] (upd H1 D (.lst [])))(hP:∀i ys H,Pv i ys H->H D=some (.lst ys))
  (step:∀i c ys H2,x.cps[i]? = some c->Pv i ys H2->∀(R:VK) (R':Hp->Prop),(∀y H5,H5 D=some (.lst ys)->ys.length<l7->Pv (i+1) (ys++[y]) (upd H5 D (.lst (ys++[y])))->R y H5)->(∀H4,Pv (i+1) ys H4->R' H4) ->
   tt (some (.str ⟨#[c]⟩)::σ) H2 fun ok H4=>if ok=true then te (some (.str ⟨#[c]⟩)::σ) H4 R else R' H4)
  (done:∀ys H2,Pv x.length ys H2->QD H2) :
  ∃W:Nat->Nat->List V->Hp->Prop,(∃m,W 0 m [] (upd H1 D (.lst [])))/\∀i m ys H2,W i m ys H2->H2 D=some (.lst ys) /\
   (((Its x).stop i H2 /\ QD H2) \/ ((Its x).go i H2 /\ ∀ v H3,(Its x).yld i H2 v H3 -> tt (some v :: σ) H3 fun ok H4 => if ok = true then
     te (some v::σ) H4 (fun y H5=>H5 D=some (.lst ys)/\ys.length<l7/\∃m',m'<m/\W (i+1) m' (ys++[y]) (upd H5 D (.lst (ys++[y]))))
     else ∃m',m'<m/\W (i+1) m' ys H4)):=by
 refine⟨fun i m ys H=>m=x.length - i/\i<=x.length/\Pv i ys H,⟨x.length,rfl,L5 _,h0⟩,?_⟩
 rintro i m ys H2 ⟨rfl,hi,p⟩
 refine⟨hP i ys H2 p,?_⟩
 by_cases hlt:i<x.length
 ·refine .inr ⟨hlt,fun v H3 y=>?_⟩
  obtain⟨e,c,hc,ev⟩:=y
  subst e ev
  exact step i c ys _ hc p _ _ (fun y H5 h1 h2 h3=>⟨h1,h2,x.length - (i+1),by omega,rfl,hlt,h3⟩) fun H4 h=>⟨x.length - (i+1),by omega,rfl,hlt,h⟩
 ·have e:i=x.length:=by omega
  subst e
  exact .inl ⟨d9 _,done ys H2 p⟩
end
def sgn(S:Str)(c:Nat):Bool := !(Builtin.Str.occurrences S ⟨#[c]⟩ 0 S.length 1).isEmpty
theorem c1C{S:Str}{c:Nat}(h:Q (.bl (sgn S c)) H):qIn false (.str ⟨#[c]⟩) (.str S) H Q:=h
abbrev LET:Str := "abcdefghijklmnopqrstuvwxyz"
abbrev SGN:Str := "abcdefghijklmnopqrstuvwxyz0123456789"
theorem c1T:LET++("0123456789" : Str)=SGN:=by decide +kernel
def a4z(z:Str):Bool:=decide (1<=z.length)&&decide (z.length<=8)&&(match z.cps[0]? with | some c=>sgn LET c | none=>false)&&z.cps.toList.all (sgn SGN)
theorem b2A{K:Fg}{E:XK}(hz:z.length<=100)(k:∀H',o6 H H'->Q (.bl (a4z z)) H'):U4 K [.str z] H Q E:=by
 refine⟨rfl,?_⟩
 unfold a6p
 have hz':=small (show z.length<=100000 by omega)
 nofun
 exists a3C (s := "str") rfl (by decide) ?_
 exists o4 (by decide) ?_
 exists c2n hz' ?_
 by_cases h1:1<=z.length
 case neg=>
  exists o4 (c7q (by omega)) ?_
  exists A7 rfl ?_
  have e:a4z z=false:=by unfold a4z;rw[c7q h1];simp
  rw[<-e]
  exact k H (o6.refl _)
 exists A7 (c7r (by omega)) ?_
 by_cases h8:z.length<=8
 case neg=>
  rw[c7q (show ¬((z.length:Int)<=8) by omega)]
  exists A7 rfl ?_
  have e:a4z z=false:=by unfold a4z;rw[c7q h8];simp
  rw[<-e]
  exact k H (o6.refl _)
 rw[c7r (show(z.length:Int)<=8 by omega)]
 exists o4 rfl ?_
 have hl:z.cps.toList.length=z.length:=Z7
 obtain⟨c0,hc0,hc1⟩:=a3a (xs:=z.cps.toList) (i:=0) (by decide) (by omega)
 have hc2:z.cps[0]? = some c0:=by rw[<-L7];exact hc1
 exists c4R hz' hc0 ?_
 have en:a4z z=(sgn LET c0&&z.cps.toList.all (sgn SGN)):=by
  unfold a4z
  rw[c7r h1,c7r h8,hc2]
  simp
 refine c1C (S:=LET) ?_
 refine⟨_,rfl,?_⟩
 cases hs:sgn LET c0 with
 | false=>
  refine c3C ?_
  have e:a4z z=false:=by rw[en,hs];rfl
  rw[<-e]
  exact k H (o6.refl _)
 | true=>
  exists b2z ?_
  specialize S8 (c2d ?_)
  refine⟨z,rfl,fun D hD=>?_⟩
  refine b8B (fun i ys H2=>ys=(z.cps.toList.take i).map (fun c=>V.bl (sgn SGN c))/\H2=upd H D (.lst ys)) ⟨by simp,rfl⟩ ?_ ?_ ?_
  ·rintro i ys _ ⟨_,rfl⟩
   exact c6
  ·rintro i c ys _ hc ⟨rfl,rfl⟩ R R' hR hR'
   have hc':z.cps.toList[i]? = some c:=by rw[L7];exact hc
   ext
   exists b2z ?_
   refine c2q (small (by decide +kernel)) ?_
   have e:(("abcdefghijklmnopqrstuvwxyz" : Str)++("0123456789" : Str))=SGN:=c1T
   rw[e]
   refine c1C (S:=SGN) ?_
   refine hR (.bl (sgn SGN c)) _ c6 (E8 ?_) ⟨?_,?_⟩
   ·rw[a8,J8];omega
   ·rw[E6,hc'];simp
   ·rw[a7y]
  ·rintro ys _ ⟨rfl,rfl⟩
   ext
   have eb:R1 ((z.cps.toList.take z.length).map (fun c=>V.bl (sgn SGN c)))=some ((z.cps.toList.take z.length).map (sgn SGN)):=by
    generalize z.cps.toList.take z.length=l
    induction l with
    | nil=>rfl
    | cons a r ih=>simp[R1,ih]
   have ea:((z.cps.toList.take z.length).map (sgn SGN)).all id=a4z z:=by
    rw[en,hs,b2Y,a0H (by omega),List.all_map]
    rfl
   refine(show b0C [.ref D] _ _ from ?_)
   unfold b0C
   simp only[c6]
   refine⟨_,eb,?_⟩
   rw[ea]
   exact k _ (v0 hD)
def NmS(s:Str):Prop:=a4z s=true/\s.length<=8
def OpN(v:V):Prop:=(∃s,v=.str s/\NmS s)\/∃n:Int,v=.int n/\0<=n/\n<1000000000000
theorem OpN.flat{v:V}(h:OpN v):E9 v=true:=by
 rcases h with ⟨s,rfl,_⟩ | ⟨n,rfl,_⟩ <;> rfl
abbrev b8N:List Str:=["plus","minus","times","less","same"]
def a4E(H:Hp)(p:Addr):Prop:=∃k v1 v2,H p=some (.tup [.str k,v1,v2])/\OpN v1/\OpN v2/\k∈b8N
theorem a4E.ts(h:a4E H p)(t:O1 H H'):a4E H' p:=by
 obtain⟨k,v1,v2,h,a,b,c⟩:=h
 exact⟨k,v1,v2,t _ _ h,a,b,c⟩
inductive a3P(H:Hp):List V->Prop
 | set (n:Str) (p:Addr):NmS n->a4E H p->a3P H [.str "set",.str n,.ref p]
 | copy (n:Str) (v:V):NmS n->OpN v->a3P H [.str "copy",.str n,v]
 | take (n:Str):NmS n->a3P H [.str "take",.str n]
 | tell (v:V):OpN v->a3P H [.str "tell",v]
 | ask (v:V):OpN v->a3P H [.str "ask",v]
 | skip:a3P H [.str "skip"]
theorem a3P.ts(h:a3P H xs)(t:O1 H H'):a3P H' xs:=by
 cases h with
 | set n p a d=>exact .set n p a (d.ts t)
 | copy n v a o=>exact .copy n v a o
 | take n a=>exact .take n a
 | tell v o=>exact .tell v o
 | ask v o=>exact .ask v o
 | skip=>exact .skip
def a5h(H:Hp)(v:V)(ask:Bool):Prop:=∃p xs,v=.ref p/\H p=some (.tup xs)/\a3P H xs/\(∃k r,xs=.str k::r/\decide ((k:Str) = "ask")=ask)
theorem a5h.ts{a:Bool}(h:a5h H v a)(t:O1 H H'):a5h H' v a:=by
 obtain⟨p,xs,rfl,h,r,q⟩:=h
 exact⟨p,xs,rfl,t _ _ h,r.ts t,q⟩
theorem c3F{n:Int}(k:Q (.bl true) H) :
  F4 (a0a (tCB a4S (a9 (b5 0) (a9 (tC (.ty "int")) j5))) (b1Q (tCB a4S (a9 (b5 0) (a9 (tC (.ty "bool")) j5))))) { nx:=fun _ H'=>Q .non H',rt:=Q } [some (.int n)] H:=by
 ext
 exists a3C (s := "int") rfl (by decide) ?_
 exists A7 (by decide) ?_
 exists a3C (s := "int") rfl (by decide) ?_
 exact k
theorem a5R{K:Fg}{n:Int}{E:XK}(k:Q (.bl true) H):a0P K [.int n] H Q E:=⟨rfl,c3F k⟩
theorem b0K{K:Fg}{n:Int}{E:XK}(h0:0<=n)(h1:n<1000000000000)(k:Q (.bl true) H):a1N K [.int n] H Q E:=by
 refine⟨rfl,?_⟩
 unfold a7Y
 ext
 refine a5R ?_
 exists ⟨_,rfl,b2z ?_⟩
 exists A7 (c7r h0) ?_
 show Q (.bl (decide (n<1000000000000))) H
 rw[c7r h1]
 exact k
theorem b0L{K:Fg}{n m:Int}{E:XK}(h0:0<=n)(h1:n<m)(k:Q (.bl true) H):a1O K [.int n,.int m] H Q E:=by
 refine⟨rfl,?_⟩
 unfold a7Z
 ext
 refine a5R ?_
 exists ⟨_,rfl,b2z ?_⟩
 exists A7 (c7r h0) ?_
 show Q (.bl (decide (n<m))) H
 rw[c7r h1]
 exact k
theorem a2T{K:Fg}{E:XK}(h:NmS z)(k:∀H',o6 H H'->Q (.bl true) H'):U4 K [.str z] H Q E:=by
 refine b2A (by have:=h.2;omega) fun H' s=>?_
 rw[h.1]
 exact k H' s
theorem b2B{K:Fg}{n:Int}{E:XK}(k:Q (.bl false) H):U4 K [.int n] H Q E:=by
 refine⟨rfl,?_⟩
 unfold a6p
 nofun
 exists a3C (s := "int") rfl (by decide) ?_
 refine A7 (by decide) ?_
 exists A7 rfl ?_
 exact k
theorem Y7{K:Fg}{E:XK}(h:OpN v)(k:∀H',o6 H H'->Q (.bl true) H'):R8 K [v] H Q E:=by
 refine⟨rfl,?_⟩
 unfold a5r
 ext
 rcases h with ⟨s,rfl,hs⟩ | ⟨n,rfl,h0,h1⟩
 ·refine a2T hs fun G s=>?_
  exact⟨_,rfl,b2z (k G s)⟩
 ·refine b2B ?_
  exists ⟨_,rfl,c3C ?_⟩
  exact b0K h0 h1 (k H (o6.refl _))
theorem b8q{k:Str}(h:k∈b8N):inV (.str k) [.str "plus",.str "minus",.str "times",.str "less",.str "same"]=true:=by
 simp only[b8N,c8,j7,or_false]at h
 rcases h with rfl | rfl | rfl | rfl | rfl <;> decide +kernel
theorem b4a{K:Fg}{c:Cn}{E:XK}(ck:a3Q K c)(h:a4E H p)(k:∀H',o6 H H'->Q (.bl true) H'):a2F K c [.ref p] H Q E:=by
 obtain⟨kd,v1,v2,hp,o1,o2,hk⟩:=h
 refine⟨rfl,?_⟩
 unfold a9M
 nofun
 exists a3C (s := "tuple") (by simp only[a2z,hp]) (by decide) ?_
 exists o4 (by decide) ?_
 exists a3B hp ?_
 exists o4 (by simp) ?_
 exists z5 hp (Q5 _ _) ?_
 refine⟨_,_,rfl,ck.b1v H,rfl,rfl,?_⟩
 exists ⟨_,rfl,A7 (b8q hk) ?_⟩
 exists z5 hp (a0o _ _ _) ?_
 refine Y7 o1 fun G1 s1=>?_
 exists ⟨_,rfl,b2z ?_⟩
 exists z5 (s1 _ _ hp) (a6a _ _ _ _) ?_
 exact Y7 o2 fun G2 s2=>k G2 (s1.trans s2)
theorem c3M(a:V)(r:List V):a5e (a::r) (some 1) none=r:=by
 unfold a5e
 have e:HT.sIx (a::r).length 0 (some 1)=1:=by
  have:=HT.b0B (a::r).length 0 1
  rw[show((1:Nat):Int)=1 from rfl]at this
  rw[this,v9]
  omega
 rw[e]
 show List.take ((a::r).length - 1) r=r
 rw[a0H (by simp)]
theorem b2p(a:V)(r:List V):¬(HT.sIx (a::r).length 0 (some 1)=0/\HT.sIx (a::r).length (a::r).length none=(a::r).length):=by
 intro h
 have e:HT.sIx (a::r).length 0 (some 1)=1:=by
  have:=HT.b0B (a::r).length 0 1
  rw[show((1:Nat):Int)=1 from rfl]at this
  rw[this,v9]
  omega
 omega
theorem b5R{K:Fg}{c:Cn}{a:Bool}{E:XK}(ck:a3Q K c)(h:a5h H v a)(k:∀H',o6 H H'->Q (.bl true) H'):a4a K c [v] H Q E:=by
 obtain⟨p,xs,rfl,hp,hr,kd,r,rfl,_⟩:=h
 refine⟨rfl,?_⟩
 unfold b1O
 nofun
 exists a3C (s := "tuple") (by simp only[a2z,hp]) (by decide) ?_
 exists o4 (by decide) ?_
 exists a3B hp ?_
 exists o4 (c7q (by intro z;have:=V.int.inj z;rw[v9]at this;omega)) ?_
 nofun
 exists z5 hp (Q5 _ _) ?_
 nofun
 refine c1B hp (b2p _ _) fun q G hq e s=>?_
 rw[c3M]at e
 ext
 have hr:=hr.ts (o6.ts s)
 cases hr with
 | set n d hn hd=>
  nofun
  exists A7 (by decide) ?_
  exists a3B e ?_
  exists A7 (by simp) ?_
  exists z5 e (Q5 _ _) ?_
  refine a2T hn fun G1 s1=>?_
  exists ⟨_,rfl,b2z ?_⟩
  exists z5 (s1 _ _ e) (a0o _ _ _) ?_
  exact b4a ck (hd.ts (o6.ts s1)) fun G2 s2=>k G2 ((s.trans s1).trans s2)
 | copy n v hn ho=>
  nofun
  exists o4 (by decide) ?_
  nofun
  exists A7 (by decide) ?_
  exists a3B e ?_
  exists A7 (by simp) ?_
  exists z5 e (Q5 _ _) ?_
  refine a2T hn fun G1 s1=>?_
  exists ⟨_,rfl,b2z ?_⟩
  exists z5 (s1 _ _ e) (a0o _ _ _) ?_
  exact Y7 ho fun G2 s2=>k G2 ((s.trans s1).trans s2)
 | take n hn=>
  nofun
  exists o4 (by decide) ?_
  nofun
  exists o4 (by decide) ?_
  nofun
  exists A7 (by decide) ?_
  exists a3B e ?_
  exists A7 (by simp) ?_
  exists z5 e (Q5 _ _) ?_
  exact a2T hn fun G1 s1=>k G1 (s.trans s1)
 | tell v ho=>
  nofun
  exists o4 (by decide) ?_
  nofun
  exists o4 (by decide) ?_
  nofun
  exists o4 (by decide) ?_
  nofun
  refine D5 (by simp) fun q2 G2 hq2 e2 s2=>?_
  exists a4y e2 rfl rfl ?_
  exists A7 (by decide +kernel) ?_
  exists a3B (s2 _ _ e) ?_
  exists A7 (by simp) ?_
  exists z5 (s2 _ _ e) (Q5 _ _) ?_
  exact Y7 ho fun G1 s1=>k G1 ((s.trans s2).trans s1)
 | ask v ho=>
  nofun
  exists o4 (by decide) ?_
  nofun
  exists o4 (by decide) ?_
  nofun
  exists o4 (by decide) ?_
  nofun
  refine D5 (by simp) fun q2 G2 hq2 e2 s2=>?_
  exists a4y e2 rfl rfl ?_
  exists A7 (by decide +kernel) ?_
  exists a3B (s2 _ _ e) ?_
  exists A7 (by simp) ?_
  exists z5 (s2 _ _ e) (Q5 _ _) ?_
  exact Y7 ho fun G1 s1=>k G1 ((s.trans s2).trans s1)
 | skip=>
  nofun
  exists o4 (by decide) ?_
  nofun
  exists o4 (by decide) ?_
  nofun
  exists o4 (by decide) ?_
  nofun
  refine D5 (by simp) fun q2 G2 hq2 e2 s2=>?_
  exists a4y e2 rfl rfl ?_
  exists o4 (by decide +kernel) ?_
  exists A7 (by decide) ?_
  exists a3B (s2 _ _ e) ?_
  have e0:decide (V.int ((([]:List V).length:Nat):Int)=V.int 0)=true:=by decide
  rw[e0]
  exact k G2 (s.trans s2)
theorem ix0{α:Type}(a b c d:α):ixN [a,b,c,d].length 0=some 0:=by
 show ixN 4 0=some 0
 decide
theorem ix1{α:Type}(a b c d:α):ixN [a,b,c,d].length 1=some 1:=by
 show ixN 4 1=some 1
 decide
theorem ix2{α:Type}(a b c d:α):ixN [a,b,c,d].length 2=some 2:=by
 show ixN 4 2=some 2
 decide
structure a8Z(H:Hp)(b:Addr)(i0 i1 i2:Int)(c:Addr)(ns:List Int):Prop where
 hb:H b=some (.lst [.int i0,.int i1,.int i2,.ref c])
 hc:H c=some (.lst (ns.map V.int))
 p0:0<=i0
 p1:0<=i1
 p1':i1<2147483647
 p2:0<=i2
 pn:∀x∈ns,0<=x
theorem a8Z.bag{i0 i1 i2:Int}(h:a8Z H b i0 i1 i2 c ns):Bag H b c:=⟨i0,i1,i2,ns,h.hb,h.hc,h.p0,h.p1,h.p1',h.p2,h.pn⟩
theorem Bag.parts(h:Bag H b c):∃i0 i1 i2 ns,a8Z H b i0 i1 i2 c ns:=by
 obtain⟨i0,i1,i2,ns,h1,h2,h3,h4,h5,h6,h7⟩:=h.ex
 exact⟨i0,i1,i2,ns,h1,h2,h3,h4,h5,h6,h7⟩
theorem a8Z.ne{i0 i1 i2:Int}(h:a8Z H b i0 i1 i2 c ns):c≠b:=G0 h.hc h.hb (by
  intro z
  have z:=HO.lst.inj z
  cases ns with
  | nil=>cases z
  | cons a r=>cases r with
   | nil=>cases z
   | cons a2 r=>cases r with
    | nil=>cases z
    | cons a3 r=>cases r with
     | nil=>cases z
     | cons a4 r=>simp at z)
theorem a8Z.put{i0 i1 i2 j0 j1 j2:Int}(h:a8Z H b i0 i1 i2 c ns)(q0:0<=j0)(q1:0<=j1)(q1':j1<2147483647)(q2:0<=j2) :
  a8Z (upd H b (.lst [.int j0,.int j1,.int j2,.ref c])) b j0 j1 j2 c ns:=⟨c6,by rw[c9 h.ne];exact h.hc,q0,q1,q1',q2,h.pn⟩
theorem N3{K:Fg}{many:Int}{E:XK}(hB:Bag H b c)(h0:0<many)(h1:many<2 ^ 64)
  (k:∀n H',0<=n->n<many->Bag H' b c->E1 b H H'->Q (.int n) H'):K5 K [.ref b,.int many] H Q E:=by
 obtain⟨i0,i1,i2,ns,B⟩:=hB.parts
 refine⟨rfl,?_⟩
 unfold b7b
 refine a1y (P:=fun σ H1=>∃x2 x3 j0 j1 j2,σ=[some (.ref b),some (.int many),x2,x3,none,none,none]/\a8Z H1 b j0 j1 j2 c ns/\E1 b H H1) ?_ ?_
 ·-- the second part
  rintro _ H1 ⟨x2,x3,j0,j1,j2,rfl,B1,k1⟩
  refine a1y (P:=fun σ H2=>H2=H1/\σ=[some (.ref b),some (.int many),x2,x3,none,none,none]) ?_ ?_
  ·rintro _ _ ⟨rfl,rfl⟩
   walk_at "go"
   refine D9 B1.hb (a0o _ _ _) ?_
   walk_at "go"
   refine a1A (.inr (by omega)) ?_
   walk_at "go"
   refine a1A (by omega) ?_
   walk_at "go"
   have g1:=T7 (j1 * 39373) (show(1000000007:Int)≠0 by decide)
   have g2:=R5 (j1 * 39373) (show(0:Int)<1000000007 by decide)
   refine a1A (.inr (by omega)) ?_
   walk_at "go"
   refine a1A (by omega) ?_
   walk_at "go"
   have g3:=T7 (j1 * 39373 % 1000000007 * 30011) (show(998244353:Int)≠0 by decide)
   have g4:=R5 (j1 * 39373 % 1000000007 * 30011) (show(0:Int)<998244353 by decide)
   refine a0Y (fun _=>?_) (fun _=>?_)
   ·walk_at "go"
    refine a1A (.inr (by omega)) ?_
    walk_at "go"
    refine a1A h0 ?_
    exact k _ _ (T7 _ (by omega)) (R5 _ h0) B1.bag k1
   ·walk_at "go"
    refine a1A (by omega) ?_
    walk_at "go"
    refine a1A h0 ?_
    exact k _ _ (T7 _ (by omega)) (R5 _ h0) B1.bag k1
  ·intro nx hnx
   walk_at "go"
   refine D9 B1.hb (Q5 _ _) ?_
   walk_at "go"
   refine a0Y (fun _=>?_) (fun _=>?_)
   ·walk_at "go"
    refine D9 B1.hb (Q5 _ _) ?_
    walk_at "go"
    refine a1A h0 ?_
    walk_at "go"
    refine D9 B1.hb (Q5 _ _) ?_
    walk_at "go"
    refine a1A ⟨h0,h1⟩ ?_
    walk_at "go"
    refine a8p B1.hb (ix0 _ _ _ _) ?_
    walk_at "go"
    refine k _ _ (T7 _ (by omega)) (R5 _ h0) (B1.put (Int.ediv_nonneg B1.p0 (by omega)) B1.p1 B1.p1' B1.p2).bag (k1.trans (E1.upd _ _ _))
   ·walk_at "go"
    exact hnx _ _ ⟨rfl,rfl⟩
 ·intro nx hnx
  walk_at "go"
  refine D9 B.hb (Q5 _ _) ?_
  walk_at "go"
  refine a0Y (fun e=>?_) (fun _=>?_)
  ·have e:i0=0:=by simpa using e
   subst e
   nofun
   exact_mod_cast a1y (P:=fun σ H1=>∃m x3 j0 j2,σ=[some (.ref b),some (.int many),some (.int m),x3,none,none,none]/\a8Z H1 b j0 i1 j2 c ns/\E1 b H H1/\0<=m) ?_ ?_
   ·rintro _ H1 ⟨m,x3,j0,j2,rfl,B1,k1,hm⟩
    walk_at "go"
    refine D9 B1.hb (a0o _ _ _) ?_
    walk_at "go"
    refine a1A (.inr (by omega)) ?_
    walk_at "go"
    refine a1A (by omega) ?_
    walk_at "go"
    refine a8p B1.hb (ix1 _ _ _ _) ?_
    have g1:=T7 (i1 * 48271+m) (show(2147483647:Int)≠0 by decide)
    have g2:=R5 (i1 * 48271+m) (show(0:Int)<2147483647 by decide)
    exact hnx _ _ ⟨_,x3,j0,_,j2,rfl,B1.put B1.p0 g1 g2 B1.p2,k1.trans (E1.upd _ _ _)⟩
   ·intro nx2 hnx2
    walk_at "go"
    refine D9 B.hb (a6a _ _ _ _) ?_
    walk_at "go"
    refine D9 B.hb (c5r _ _ _ _ _) ?_
    walk_at "go"
    refine M4 B.hc ?_
    walk_at "go"
    refine a0Y (fun e=>?_) (fun _=>?_)
    ·have e:i2<(ns.length:Int):=by simpa using e
     obtain⟨v,ev,ev2⟩:=a3a (xs:=ns.map V.int) B.p2 (by simpa using e)
     obtain⟨z,ez,rfl⟩:∃z,ns[i2.toNat]? = some z/\v=V.int z:=by
      rw[b8]at ev2
      cases q:ns[i2.toNat]? with
      | none=>rw[q]at ev2;cases ev2
      | some z=>rw[q]at ev2;exact⟨z,rfl,(Option.some.inj ev2).symm⟩
     have hz:0<=z:=B.pn z (mI ez)
     walk_at "go"
     refine D9 B.hb (c5r _ _ _ _ _) ?_
     walk_at "go"
     refine D9 B.hb (a6a _ _ _ _) ?_
     walk_at "go"
     refine D9 B.hc ev ?_
     walk_at "go"
     exists c4S B.hb (by decide) rfl ?_
     refine a8p B.hb (ix2 _ _ _ _) ?_
     have B2:=B.put (j0:=0) (j1:=i1) (j2:=i2+1) (Int.le_refl _) B.p1 B.p1' (by have:=B.p2;omega)
     exact_mod_cast a1y (P:=fun σ H1=>∃j0,σ=[some (.ref b),some (.int many),some (.int 12345),some (.int z),none,none,none]/\a8Z H1 b j0 i1 (i2+1) c ns/\E1 b H H1) ?_ ?_
     ·rintro _ H1 ⟨j0,rfl,B1,k1⟩
      walk_at "go"
      refine a1A (by omega) ?_
      walk_at "go"
      have g1:=T7 z (show(2147483647:Int)≠0 by decide)
      exact hnx2 _ _ ⟨_,_,j0,_,rfl,B1,k1,by omega⟩
     ·intro nx3 hnx3
      walk_at "go"
      refine a0Y (fun _=>?_) (fun _=>?_)
      ·walk_at "go"
       refine a8p B2.hb (ix0 _ _ _ _) ?_
       refine hnx3 _ _ ⟨z,rfl,?_,(E1.upd _ _ _).trans (E1.upd _ _ _)⟩
       exact B2.put hz B.p1 B.p1' (by have:=B.p2;omega)
      ·walk_at "go"
       exact hnx3 _ _ ⟨0,rfl,B2,E1.upd _ _ _⟩
    ·walk_at "go"
     exact hnx2 _ _ ⟨_,_,0,i2,rfl,B,E1.refl _ _,by decide⟩
  ·walk_at "go"
   exact hnx _ _ ⟨_,_,i0,i1,i2,rfl,B,E1.refl _ _⟩
theorem c3O{K:Fg}{E:XK}(hS:SqL K H a (ns.map V.int))(hl:ns.length<=63)
  (k:∀b c H',Bag H' b c->o6 H H'->H b=none->Q (.ref b) H'):b0p K [.ref a] H Q E:=by
 refine⟨rfl,?_⟩
 unfold c1t
 walk_at "go"
 exact_mod_cast S8 (S0 ?_)
 walk_at "go"
 refine⟨a,_,rfl,hS,fun p hp=>⟨p,rfl,⟨_,SqL.of c6⟩,fun D hD=>?_⟩⟩
 have hcut:a5e (ns.map V.int) none (some 63)=ns.map V.int:=by
  unfold a5e
  have e:HT.sIx (ns.map V.int).length 0 none=0:=rfl
  have e2:HT.sIx (ns.map V.int).length (ns.map V.int).length (some 63)=ns.length:=by
   have:=HT.b0B (ns.map V.int).length (ns.map V.int).length 63
   rw[a8]at this ⊢
   rw[show((63:Nat):Int)=63 from rfl]at this
   rw[this];omega
  rw[e,e2,List.drop_zero,Nat.sub_zero,a0H (by simp)]
 rw[hcut]at hD ⊢
 have s1:o6 H (upd H p (.lst (ns.map V.int))):=v0 hp
 refine P7 (xs:=ns.map V.int) (fun i ys H2=>ys=(ns.take i).map (fun x=>V.int (if x<0 then -x else x))/\H2=upd (upd H p (.lst (ns.map V.int))) D (.lst ys)) ⟨by simp,rfl⟩ ?_ ?_ ?_ ?_
 ·rintro i ys _ ⟨_,rfl⟩
  exact c6
 ·rintro i ys _ _ ⟨_,rfl⟩
  refine SqL.of ?_
  rw[c9 (c7 c6 hD),c6]
 ·rintro i x ys _ hx ⟨rfl,rfl⟩ R hR
  rw[b8]at hx
  cases e:ns[i]? with
  | none=>rw[e]at hx;cases hx
  | some z=>
   rw[e]at hx
   cases hx
   ext
   refine hR _ _ c6 (E8 ?_) ⟨?_,?_⟩
   ·rw[a8,J8];omega
   ·rw[E6,e];simp
   ·rw[a7y]
 ·rintro ys _ ⟨rfl,rfl⟩
  ext
  refine D5 (by simp) fun b H4 hb hb4 s4=>?_
  rw[a8,a0H (d9 _)]at hb s4
  refine k b D _ ⟨0,1234567891,0,ns.map (fun x=>if x<0 then -x else x),hb4,?_,by decide,by decide,by decide,by decide,?_⟩ ?_ ?_
  ·rw[s4 D _ c6,V8];rfl
  ·intro x hx
   obtain⟨y,_,rfl⟩:=u8.mp hx
   split <;> omega
  ·exact(s1.trans (v0 hD)).trans s4
  ·exact(s1.trans (v0 hD)).free hb
structure b1m(H:Hp)(a:Addr):Prop where
 ex:∃ss:List Str,H a=some (.lst (ss.map V.str))/\ss≠[]/\ss.length<=8/\∀s∈ss,NmS s
theorem b1m.kept(h:b1m H a)(hB:Bag H b c)(k:E1 b H H'):b1m H' a/\a≠b:=by
 obtain⟨ss,h1,h2,h3,h4⟩:=h.ex
 obtain⟨i0,i1,i2,ns,hb,_⟩:=hB.ex
 have ne:a≠b:=G0 h1 hb (by
  intro z
  have z:=HO.lst.inj z
  cases ss with
  | nil=>exact h2 rfl
  | cons s r=>cases z)
 exact⟨⟨ss,k.1 a _ h1 ne,h2,h3,h4⟩,ne⟩
structure c6d(H:Hp)(a:Addr):Prop where
 ex:∃ps:List Addr,H a=some (.lst (ps.map V.ref))/\ps≠[]/\ps.length<=8/\∀p∈ps,a4E H p
theorem a4e(hB:Bag H b c)(h:H a=some (.lst (as.map V.ref))):a≠b:=by
 obtain⟨i0,i1,i2,ns,hb,_⟩:=hB.ex
 refine G0 h hb ?_
 intro z
 have z:=HO.lst.inj z
 cases as with
 | nil=>cases z
 | cons s r=>cases z
theorem b1W(hB:Bag H b c)(h:H a=some (.lst xs))(hl:xs.length<=3):a≠b:=by
 obtain⟨i0,i1,i2,ns,hb,_⟩:=hB.ex
 refine G0 h hb ?_
 intro z
 have z:=HO.lst.inj z
 rw[z]at hl
 simp at hl
structure C8(H:Hp)(a:Addr)(N:Nt):Prop where
 ex:∃as:List Addr,H a=some (.lst (as.map V.ref))/\as.length=N.length/\∀(i:Nat) x l,as[i]? = some x->N[i]? = some l->H x=some (.lst (IL l))
theorem C8.same(h:C8 H a N)(k:o6 H H'):C8 H' a N:=by
 obtain⟨as,h1,h2,h3⟩:=h.ex
 exact⟨as,k a _ h1,h2,fun i x l e1 e2=>k _ _ (h3 i x l e1 e2)⟩
theorem C8.kept(h:C8 H a N)(hB:Bag H b c)(hN:∀l∈N,l.length<=2)(k:E1 b H H'):C8 H' a N:=by
 obtain⟨as,h1,h2,h3⟩:=h.ex
 refine⟨as,k.1 a _ h1 (a4e hB h1),h2,fun i x l e1 e2=>?_⟩
 have q:=h3 i x l e1 e2
 refine k.1 _ _ q (b1W hB q ?_)
 rw[N6]
 have:=hN l (mI e2)
 omega
theorem C8.at(h:C8 H a N){k:Nat}(e:N[k]? = some l):∃(xs:List V) (x:Addr),H a=some (.lst xs)/\atI xs (k:Int)=some (.ref x)/\H x=some (.lst (IL l))/\xs.length=N.length:=by
 obtain⟨as,h1,h2,h3⟩:=h.ex
 have hk:k<as.length:=by rw[h2];exact(gI e)
 have e1:as[k]? = some as[k]:=by simp
 refine⟨_,as[k],h1,?_,h3 k _ l e1 e,by rw[a8,h2]⟩
 exact J5 (by rw[b8,e1];rfl)
theorem C8.len(h:C8 H a N):∃xs,H a=some (.lst xs)/\xs.length=N.length:=by
 obtain⟨as,h1,h2,h3⟩:=h.ex
 exact⟨_,h1,by rw[a8,h2]⟩
theorem c1J{t:Nat}(e:l[j]? = some t):atI (IL l) (j:Int)=some (.int (t:Int)):=J5 (by unfold IL;rw[b8,e];rfl)
theorem b3o{α:Type}(l:List α):l=[]\/∃r a,l=r++[a]:=by
 cases h:l.reverse with
 | nil=>left;simpa using h
 | cons a r=>
  right
  refine⟨r.reverse,a,?_⟩
  have:=congrArg List.reverse h
  simpa using this
structure a9x(H0 H:Hp)(b c D:Addr)(m:Nat)(as:List Addr)(N:Nt):Prop where
 bag:Bag H b c
 kept:E1 b H0 H
 hD:H D=some (.lst (as.map V.ref))
 nb:D≠b
 nc:D≠c
 len:as.length=N.length
 at_:∀(i:Nat) x l,as[i]? = some x->N[i]? = some l->H x=some (.lst (IL l))/\x≠D/\x≠b
 small:∀l∈N,l.length<=2/\∀t∈l,t<m
theorem a9x.next{D:Addr}(h:a9x H0 H b c D m as N)(B:Bag H' b c)(k:E1 b H H'):a9x H0 H' b c D m as N:=
 ⟨B,h.kept.trans k,k.1 _ _ h.hD h.nb,h.nb,h.nc,h.len,fun i x l e1 e2=>let⟨q1,q2,q3⟩:=h.at_ i x l e1 e2; ⟨k.1 _ _ q1 q3,q2,q3⟩,h.small⟩
structure a6c(H:Hp)(b D q:Addr)(m:Nat)(l:List Nat):Prop where
 h:H q=some (.lst (IL l))
 nD:q≠D
 nb:q≠b
 len:l.length<=2
 lt:∀t∈l,t<m
theorem a6c.next{D q:Addr}(h:a6c H b D q m l)(k:E1 b H H'):a6c H' b D q m l:=⟨k.1 _ _ h.h h.nb,h.nD,h.nb,h.len,h.lt⟩
theorem Y1{α:Type}{xs:List α}{x y:α}(h:(xs++[x])[i]? = some y):(i<xs.length/\xs[i]? = some y)\/(i=xs.length/\y=x):=by
 by_cases hi:i<xs.length
 ·left
  rw[v8 hi]at h
  exact⟨hi,h⟩
 ·right
  rw[F2 (by omega)]at h
  have:i - xs.length=0:=by
   have:=(gI h)
   simp at this
   omega
  rw[this]at h
  simp at h
  exact⟨by omega,h.symm⟩
theorem b2G{a b:Int}:decide (V.int a=V.int b)=decide (a=b):=by
 by_cases h:a=b
 ·subst h;simp
 ·rw[c7q h,c7q (fun z=>h (V.int.inj z))]
theorem c3o{K:Fg}{E:XK}(hB:Bag H b c)(m0:0<m)(m1:m<=24)
  (k:∀a N H',C8 H' a N->N.length=m->(∀l∈N,l.length<=2/\∀t∈l,t<m)->N[m - 1]? = some []->Bag H' b c->E1 b H H'->Q (.ref a) H'):b0n K [.ref b,.int (m:Int)] H Q E:=by
 refine⟨rfl,?_⟩
 unfold c1r
 nofun
 exists D5 (by simp) fun D H1 hD e1 s1=>?_
 obtain⟨nb,nc⟩:=hB.nb hD
 have B1:=hB.same s1
 exact_mod_cast Q2 ?_
 specialize Y6 (a0l ?_)
 refine⟨m,rfl,by omega,by omega,?_⟩
 rw[u4]
 refine X7 (fun i σ H2=>∃x3 x4 x5 x6 as N,σ=[some (.ref b),some (.int (m:Int)),some (.ref D),x3,x4,x5,x6]/\a9x H H2 b c D m as N/\N.length=i/\(i=m->N[m - 1]? = some [])) ?_ ?_ ?_
 ·exact⟨_,_,_,_,[],[],rfl,⟨B1,E1.of_same s1,e1,nb,nc,rfl,fun i x l e=>by simp at e,fun l h=>by simp at h⟩,rfl,fun z=>by omega⟩
 ·rintro i _ H2 hi ⟨x3,x4,x5,x6,as,N,rfl,I2,hlen,_⟩
  ext
  rw[U1]
  nofun
  exists c4Q ?_
  obtain⟨r,hr,hrm⟩:∃r:Nat,(if(m:Int) - 1<(i:Int)+1 then (m:Int) - 1 else (i:Int)+1)=(r:Int)/\r<m:=by
   by_cases h:(m:Int) - 1<(i:Int)+1
   ·exact⟨m - 1,by rw[if_pos h];omega,by omega⟩
   ·exact⟨i+1,by rw[if_neg h];omega,by omega⟩
  rw[hr]
  nofun
  refine N3 I2.bag (by omega) (by omega) fun j H3 j0 j1 B3 k3=>?_
  obtain⟨j,rfl⟩:=O7 j0
  ext
  exists D5 (by simp) fun q H4 hq e4 s4=>?_
  have I3:=I2.next B3 k3
  have I4:=I3.next (B3.same s4) (E1.of_same s4)
  have S4:a6c H4 b D q m [r,j]:=⟨e4,(c7 I3.hD hq).symm,(B3.nb hq).1,by simp,fun t ht=>by
   simp only[c8,j7,or_false]at ht
   rcases ht with rfl | rfl
   ·exact hrm
   ·omega⟩
  nofun
  exists N3 I4.bag (by decide) (by decide) fun w H5 w0 w1 B5 k5=>?_
  have I5:=I4.next B5 k5
  have S5:=S4.next k5
  exact_mod_cast a1y (P:=fun σ H6=>∃q l,σ=[some (.ref b),some (.int (m:Int)),some (.ref D),some (.int (i:Int)),some (.int (r:Int)),some (.ref q),some (.int w)]/\a9x H H6 b c D m as N/\a6c H6 b D q m l/\l.length=2) ?_ ?_
  rotate_left
  ·intro nx hnx
   ext
   refine a0Y (fun _=>?_) (fun _=>?_)
   ·ext
    exists D9 S5.h (a0o _ _ _) ?_
    refine D5 (by simp) fun q6 H6 hq6 e6 s6=>?_
    exact hnx _ _ ⟨q6,[j,r],rfl,I5.next (B5.same s6) (E1.of_same s6),⟨e6,(c7 I5.hD hq6).symm,(B5.nb hq6).1,by simp,fun t ht=>by
     simp only[c8,j7,or_false]at ht
     rcases ht with rfl | rfl
     ·exact S5.lt _ (by simp)
     ·exact S5.lt _ (by simp)⟩,rfl⟩
   ·ext
    exact hnx _ _ ⟨q,[r,j],rfl,I5,S5,rfl⟩
  rintro _ H6 ⟨q,l,rfl,I6,S6,hl6⟩
  obtain⟨l0,l1,rfl⟩:∃l0 l1,l=[l0,l1]:=by
   match l,hl6 with
   | [a,b],_=>exact⟨a,b,rfl⟩
  exact_mod_cast a1y (P:=fun σ H6=>∃q l,σ=[some (.ref b),some (.int (m:Int)),some (.ref D),some (.int (i:Int)),some (.int (r:Int)),some (.ref q),some (.int w)]/\a9x H H6 b c D m as N/\a6c H6 b D q m l/\l.length=2) ?_ ?_
  rotate_left
  ·intro nx hnx
   ext
   refine a0Y (fun _=>?_) (fun _=>?_)
   ·ext
    exists D9 S6.h (a0o _ _ _) ?_
    refine N3 I6.bag (by omega) (by omega) fun j2 H7 z0 z1 B7 k7=>?_
    obtain⟨j2,rfl⟩:=O7 z0
    ext
    have I7:=I6.next B7 k7
    refine D5 (by simp) fun q8 H8 hq8 e8 s8=>?_
    exact hnx _ _ ⟨q8,[l1,j2],rfl,I7.next (B7.same s8) (E1.of_same s8),⟨e8,(c7 I7.hD hq8).symm,(B7.nb hq8).1,by simp,fun t ht=>by
     simp only[c8,j7,or_false]at ht
     rcases ht with rfl | rfl
     ·exact S6.lt _ (by simp)
     ·omega⟩,rfl⟩
   ·ext
    exact hnx _ _ ⟨q,_,rfl,I6,S6,rfl⟩
  clear S6 I6 l0 l1 hl6 S5 I5 S4 I4 I3 B3 k3 B5 k5 s4 e4 hq
  rintro _ H6 ⟨q,l,rfl,I6,S6,hl6⟩
  obtain⟨l0,l1,rfl⟩:∃l0 l1,l=[l0,l1]:=by
   match l,hl6 with
   | [a,b],_=>exact⟨a,b,rfl⟩
  exact_mod_cast a1y (P:=fun σ H6=>∃q l,σ=[some (.ref b),some (.int (m:Int)),some (.ref D),some (.int (i:Int)),some (.int (r:Int)),some (.ref q),some (.int w)]/\a9x H H6 b c D m as N/\a6c H6 b D q m l/\(w=7->1<m->l.length=2)) ?_ ?_
  rotate_left
  ·intro nx hnx
   have one:∀H7,H7=H6->((w=7/\1<m)->False)->New (.lst [V.int (r:Int)]) 1 H7 fun v H1=>nx [some (.ref b),some (.int (m:Int)),some (.ref D),some (.int (i:Int)),some (.int (r:Int)),some v,some (.int w)] H1:=by
    rintro _ rfl hw
    refine D5 (by simp) fun q8 H8 hq8 e8 s8=>?_
    exact hnx _ _ ⟨q8,[r],rfl,I6.next (I6.bag.same s8) (E1.of_same s8),⟨e8,(c7 I6.hD hq8).symm,(I6.bag.nb hq8).1,by simp,fun t ht=>by rw[f6.mp ht];exact hrm⟩,fun h1 h2=>(hw ⟨h1,h2⟩).elim⟩
   ext
   refine a0Y (fun a3=>?_) (fun a3=>?_)
   ·ext
    refine a0Y (fun a7=>?_) (fun a7=>?_)
    ·exists A7 rfl ?_
     exact one _ rfl fun⟨z,_⟩=>by have:=of_decide_eq_true a7;omega
    ·ext
     refine a0Y (fun a1=>?_) (fun a1=>?_)
     ·ext
      rw[b2G]at a1
      exact one _ rfl fun⟨_,z⟩=>by have:=of_decide_eq_true a1;omega
     ·ext
      exact hnx _ _ ⟨q,_,rfl,I6,S6,fun _ _=>rfl⟩
   ·ext
    exists o4 rfl ?_
    refine a0Y (fun a1=>?_) (fun a1=>?_)
    ·ext
     rw[b2G]at a1
     exact one _ rfl fun⟨_,z⟩=>by have:=of_decide_eq_true a1;omega
    ·ext
     exact hnx _ _ ⟨q,_,rfl,I6,S6,fun _ _=>rfl⟩
  clear S6 I6 l0 l1 hl6
  rintro _ H6 ⟨q,l,rfl,I6,S6,hl6⟩
  exact_mod_cast a1y (P:=fun σ H6=>∃q l,σ=[some (.ref b),some (.int (m:Int)),some (.ref D),some (.int (i:Int)),some (.int (r:Int)),some (.ref q),some (.int w)]/\a9x H H6 b c D m as N/\a6c H6 b D q m l) ?_ ?_
  rotate_left
  ·intro nx hnx
   ext
   refine a0Y (fun a7=>?_) (fun a7=>?_)
   ·ext
    refine a0Y (fun a1=>?_) (fun a1=>?_)
    ·rw[b2G]at a7
     have a7:=of_decide_eq_true a7
     have a1:=of_decide_eq_true a1
     have hl:=hl6 a7 (by omega)
     obtain⟨l0,l1,rfl⟩:∃l0 l1,l=[l0,l1]:=by
      match l,hl with
      | [a,b],_=>exact⟨a,b,rfl⟩
     ext
     exists D9 S6.h (a0o _ _ _) ?_
     refine D5 (by simp) fun q8 H8 hq8 e8 s8=>?_
     exact hnx _ _ ⟨q8,[l1],rfl,I6.next (I6.bag.same s8) (E1.of_same s8),⟨e8,(c7 I6.hD hq8).symm,(I6.bag.nb hq8).1,by simp,fun t ht=>by rw[f6.mp ht];exact S6.lt _ (by simp)⟩⟩
    ·ext
     exact hnx _ _ ⟨q,_,rfl,I6,S6⟩
   ·exists o4 rfl ?_
    exact hnx _ _ ⟨q,_,rfl,I6,S6⟩
  clear S6 I6 hl6 l
  rintro _ H6 ⟨q,l,rfl,I6,S6⟩
  exact_mod_cast a1y (P:=fun σ H6=>∃q l,σ=[some (.ref b),some (.int (m:Int)),some (.ref D),some (.int (i:Int)),some (.int (r:Int)),some (.ref q),some (.int w)]/\a9x H H6 b c D m as N/\a6c H6 b D q m l/\(i+1=m->l=[])) ?_ ?_
  rotate_left
  ·intro nx hnx
   have none:∀H7,a9x H H7 b c D m as N->New (.lst []) 0 H7 fun v H1=>nx [some (.ref b),some (.int (m:Int)),some (.ref D),some (.int (i:Int)),some (.int (r:Int)),some v,some (.int w)] H1:=by
    intro H7 I7
    refine D5 (by simp) fun q8 H8 hq8 e8 s8=>?_
    exact hnx _ _ ⟨q8,[],rfl,I7.next (I7.bag.same s8) (E1.of_same s8),⟨e8,(c7 I7.hD hq8).symm,(I7.bag.nb hq8).1,by simp,fun t ht=>by simp at ht⟩,fun _=>rfl⟩
   ext
   refine a0Y (fun a1=>?_) (fun a1=>?_)
   ·exists A7 rfl ?_
    exact none _ I6
   ·rw[b2G]at a1
    have a1:¬((i:Int)=(m:Int) - 1):=fun z=>a1 (c7r z)
    ext
    refine a0Y (fun a6=>?_) (fun a6=>?_)
    ·ext
     exists N3 I6.bag (by decide) (by decide) fun z H7 z0 z1 B7 k7=>?_
     refine a0Y (fun a0=>?_) (fun a0=>?_)
     ·ext
      exact none _ (I6.next B7 k7)
     ·ext
      exact hnx _ _ ⟨q,l,rfl,I6.next B7 k7,S6.next k7,fun z=>by omega⟩
    ·exists o4 rfl ?_
     exact hnx _ _ ⟨q,l,rfl,I6,S6,fun z=>by omega⟩
  clear S6 I6 l
  rintro _ H6 ⟨q,l,rfl,I6,S6,hlast⟩
  ext
  specialize b3B ?_
  exists ⟨a1I I6.hD,?_⟩
  refine a5I I6.hD (E8 (by rw[a8,I6.len];omega)) ?_
  have nqc:D≠c:=I6.nc
  refine⟨_,_,_,_,as++[q],N++[l],rfl,⟨I6.bag.put I6.nb nqc,I6.kept.put hD,by rw[c6];simp,I6.nb,I6.nc,by simp[I6.len],?_,?_⟩,by simp[hlen],?_⟩
  ·intro i' x' l' e1' e2'
   rcases Y1 e1' with ⟨hi1,f1⟩ | ⟨hi1,f1⟩
   ·rcases Y1 e2' with ⟨hi2,f2⟩ | ⟨hi2,f2⟩
    ·obtain⟨g1,g2,g3⟩:=I6.at_ i' x' l' f1 f2
     exact⟨by rw[c9 g2];exact g1,g2,g3⟩
    ·have:=I6.len;omega
   ·rcases Y1 e2' with ⟨hi2,f2⟩ | ⟨hi2,f2⟩
    ·have:=I6.len;omega
    ·subst f1 f2
     exact⟨by rw[c9 S6.nD];exact S6.h,S6.nD,S6.nb⟩
  ·intro l' hl'
   rcases o8.mp hl' with z | z
   ·exact I6.small l' z
   ·rw[f6.mp z];exact⟨S6.len,S6.lt⟩
  ·intro z
   rw[hlast z]
   have:m - 1=N.length:=by omega
   rw[this];simp
 ·rintro _ H2 ⟨x3,x4,x5,x6,as,N,rfl,I2,hlen,hlast⟩
  ext
  exact k D N H2 ⟨as,I2.hD,I2.len,fun i x l e1 e2=>(I2.at_ i x l e1 e2).1⟩ hlen I2.small (hlast rfl) I2.bag I2.kept
theorem c5p(xs:List V):a5e xs (some 1) none=xs.drop 1:=by
 cases xs with
 | nil=>rfl
 | cons a r=>rw[c3M];rfl
theorem c1h(l:List Nat)(n:Nat):(IL l).drop n=IL (l.drop n):=by unfold IL;rw[List.map_drop]
theorem b4f(xs:List V):a0C xs []=decide (xs.length=0):=by
 unfold a0C
 rw[show min xs.length ([]:List V).length=0 by simp]
 simp only[List.range_zero,b4V,b2Y,a4s]
 by_cases h:xs.length=0
 ·rw[h];rfl
 ·rw[c7q h]
  simpa using h
theorem c3P{G:List Nat}(h:(l.map fun t=>decide (t∈G)).any id=true):∃t∈l,t∈G:=by
 obtain⟨x,hx,e⟩:=a1d.mp h
 obtain⟨t,ht,rfl⟩:=u8.mp hx
 exact⟨t,ht,of_decide_eq_true e⟩
theorem b4J{α:Type}(l:List Nat)(f:Nat->α)(i:Nat){t:Nat}(e:l[i]? = some t):(l.take (i+1)).map f=(l.take i).map f++[f t]:=by
 rw[E6,e];simp
structure a3k(H0 H:Hp)(d:Addr)(N:Nt)(G:List Nat):Prop where
 same:o6 H0 H
 hd:H d=some (.dK (KS G))
 nd:G.Nodup
 lt:∀k∈G,k<N.length
 gd:∀k∈G,Gd N k
theorem a3k.next{G:List Nat}(h:a3k H0 H d N G)(s:o6 H H'):a3k H0 H' d N G:=⟨h.same.trans s,s _ _ h.hd,h.nd,h.lt,h.gd⟩
theorem a3k.put{G:List Nat}(h:a3k H0 H d N G)(n:H0 d=none){k:Nat}(hk:k<N.length)(g:Gd N k):a3k H0 (upd H d (.dK (KS (a3E G k)))) d N (a3E G k):=
 ⟨fun b o e=>by rw[c9 (c7 e n)];exact h.same b o e,c6,a7D h.nd,fun j hj=>(W6.mp hj).elim (h.lt j) fun z=>z ▸ hk,fun j hj=>(W6.mp hj).elim (h.gd j) fun z=>z ▸ g⟩
theorem c0N{K:Fg}{x2 x4 x5 x6:Option V}{G:List Nat}(n0:H0 d=none)(hn:C8 H a N)(hN:N.length<=24)(hl:N[i]? = some l)(hl2:l.length<=2)(hG:a3k H0 H d N G)
  (k:∀H' G',a3k H0 H' d N G'->(∀j∈G,j∈G')->(l=[]->i∈G')->C8 H' a N->D.nx [some (.ref a),some (.ref d),x2,some (.int (i:Int)),x4,x5,x6] H') :
  J3 (tOr (C1 (tOp qEq (tOp qIx (b5 0) (b5 3)) (a1f (j5)))) (tB (tCB b3E (a9 (S9 (U0 K (tOp qIx (b5 0) (b5 3))) (Q1) (a8c (b5 0) (b5 2))) (j5))))) (a1c (b5 1) (b5 3) (tC (.bl true))) (C5) D
   [some (.ref a),some (.ref d),x2,some (.int (i:Int)),x4,x5,x6] H:=by
 have hi:i<N.length:=(gI hl)
 have hGl:G.length<100000:=by
  have:=a5P _ _ hG.nd hG.lt
  omega
 have put:∀H1,C8 H1 a N->a3k H0 H1 d N G->a≠d->(∀x,H1 x=some (.dK (KS G))->True)->Gd N i->a1c (b5 1) (b5 3) (tC (.bl true)) D [some (.ref a),some (.ref d),x2,some (.int (i:Int)),x4,x5,x6] H1:=by
  intro H1 n1 g1 nad _ gd
  specialize a2K ?_
  refine⟨d,_,rfl,b0S g1.hd hGl i,?_⟩
  refine k _ (a3E G i) (g1.put n0 hi gd) (fun j hj=>W6.mpr (.inl hj)) (fun _=>W6.mpr (.inr rfl)) ?_
  obtain⟨as,q1,q2,q3⟩:=n1.ex
  refine⟨as,by rw[c9 nad];exact q1,q2,fun j x l' e1 e2=>?_⟩
  have q:=q3 j x l' e1 e2
  rw[c9 (G0 q g1.hd (by intro z;cases z))]
  exact q
 obtain⟨xs,x,h1,h2,h3,_⟩:=hn.at hl
 have nad:a≠d:=G0 h1 hG.hd (by intro z;cases z)
 ext
 exists D9 h1 h2 ?_
 refine D5 (by simp) fun p H1 hp e1 s1=>?_
 refine⟨_,c0R (s1 _ _ h3) e1 (b4U l) rfl,?_⟩
 rw[b4f,N6]
 ext
 by_cases hz:l=[]
 ·refine A7 (c7r (by rw[hz];rfl)) ?_
  refine A7 rfl ?_
  exact put H1 (hn.same s1) (hG.next s1) nad (fun _ _=>trivial) (.stop (hz ▸ hl))
 exists o4 (c7q fun z=>hz (List.length_eq_zero_iff.mp z)) ?_
 specialize S8 (S0 ?_)
 refine D9 (s1 _ _ h1) h2 ?_
 refine⟨x,rfl,⟨_,SqL.of (s1 _ _ h3)⟩,fun E hE=>?_⟩
 have G1:=hG.next s1
 refine P7 (xs:=IL l) (fun j ys H2=>ys=(l.take j).map (fun t=>V.bl (decide (t∈G)))/\H2 E=some (.lst ys)/\o6 H1 H2) ⟨by simp,c6,v0 hE⟩ ?_ ?_ ?_ ?_
 ·rintro j ys H2 ⟨_,h,_⟩
  exact h
 ·rintro j ys H2 _ ⟨_,_,s2⟩
  exact SqL.of (s2 _ _ (s1 _ _ h3))
 ·rintro j y ys H2 hy ⟨rfl,hE2,s2⟩ R hR
  have hy:(l.map fun(n:Nat)=>V.int (n:Int))[j]? = some y:=hy
  rw[b8]at hy
  cases ht:l[j]? with
  | none=>rw[ht]at hy;cases hy
  | some t=>
   rw[ht]at hy
   cases hy
   have hj:=(gI ht)
   specialize b2e ?_
   obtain⟨o,g1,g2⟩:=a4g (s2 _ _ G1.hd) t
   refine⟨d,o,rfl,g1,?_⟩
   rw[g2]
   refine hR _ _ hE2 (E8 ?_) ⟨?_,c6,fun b o e=>?_⟩
   ·rw[a8,J8]
    omega
   ·rw[b4J l _ j ht]
   ·rw[c9 (c7 e hE)];exact s2 b o e
 ·rintro ys H2 ⟨rfl,hE2,s2⟩
  rw[N6,M7]at hE2
  have he:l.map (fun t=>V.bl (decide (t∈G)))=(l.map fun t=>decide (t∈G)).map V.bl:=by rw[V8];rfl
  rw[he]at hE2
  ext
  exists c4T hE2 ?_
  refine a0Y (fun c=>?_) (fun c=>?_)
  ·obtain⟨t,t1,t2⟩:=c3P c
   exact put H2 ((hn.same s1).same s2) (G1.next s2) nad (fun _ _=>trivial) (.step hl t1 (hG.gd t t2))
  ·ext
   exact k H2 G (G1.next s2) (fun j hj=>hj) (fun z=>(hz z).elim) ((hn.same s1).same s2)
structure b1k(H0 H:Hp)(d:Addr)(N:Nt)(S:List Nat):Prop where
 same:o6 H0 H
 hd:H d=some (.dK (KS S))
 nd:S.Nodup
 lt:∀k∈S,k<N.length
 rc:∀k∈S,Rc N k
 zero:0∈S
theorem b1k.put{S:List Nat}(h:b1k H0 H d N S)(n:H0 d=none){k:Nat}(hk:k<N.length)(g:Rc N k):b1k H0 (upd H d (.dK (KS (a3E S k)))) d N (a3E S k):=
 ⟨fun b o e=>by rw[c9 (c7 e n)];exact h.same b o e,c6,a7D h.nd,fun j hj=>(W6.mp hj).elim (h.lt j) fun z=>z ▸ hk,fun j hj=>(W6.mp hj).elim (h.rc j) fun z=>z ▸ g,W6.mpr (.inl h.zero)⟩
def a5j(N:Nt)(S:List Nat):Prop:=∀k∈S,∀l,N[k]? = some l->∀t∈l,t∈S
theorem b9E{S:List Nat}{k:Nat}(h:k∈S):a3E S k=S:=by unfold a3E;rw[if_pos h]
theorem C8.dput{ks:List (Key×V)}(h:C8 H a N)(hd:H d=some (.dK ks)):C8 (upd H d o) a N:=by
 obtain⟨as,q1,q2,q3⟩:=h.ex
 exact⟨as,by rw[c9 (G0 q1 hd (by intro z;cases z))];exact q1,q2,fun j x l e1 e2=>by
  have q:=q3 j x l e1 e2
  rw[c9 (G0 q hd (by intro z;cases z))];exact q⟩
theorem b7y{K:Fg}{x1 x2 x5 x6:Option V}{S:List Nat}(n0:H0 d=none)(hn:C8 H a N)(hN:N.length<=24)(hl:N[i]? = some l)(hlt:∀t∈l,t<N.length)(hS:b1k H0 H d N S)
  (k:∀H' S' x5,b1k H0 H' d N S'->(∀j∈S,j∈S')->(i∈S->∀t∈l,t∈S')->(a5j N S->S'=S)->C8 H' a N->D.nx [some (.ref a),x1,x2,some (.int (i:Int)),some (.ref d),x5,x6] H') :
  J3 (tB (a8c (b5 3) (b5 4))) (a1g (U0 K (tOp qIx (b5 0) (b5 3))) (o5 5) (a1c (b5 4) (b5 5) (tC (.bl true)))) (C5) D [some (.ref a),x1,x2,some (.int (i:Int)),some (.ref d),x5,x6] H:=by
 ext
 specialize b2e ?_
 obtain⟨o,g1,g2⟩:=a4g hS.hd i
 refine⟨d,o,rfl,g1,?_⟩
 rw[g2]
 ext
 refine a0Y (fun c=>?_) (fun c=>?_)
 ·have hi:i∈S:=of_decide_eq_true c
  obtain⟨xs,x,h1,h2,h3,_⟩:=hn.at hl
  specialize Y6 (S0 ?_)
  refine D9 h1 h2 ?_
  refine⟨x,rfl,⟨_,SqL.of h3⟩,a2q (xs:=IL l) (fun j σ H2=>∃S' x5,σ=[some (.ref a),x1,x2,some (.int (i:Int)),some (.ref d),x5,x6]/\b1k H0 H2 d N S'/\(∀j∈S,j∈S')/\(∀t∈l.take j,t∈S')/\(a5j N S->S'=S)/\C8 H2 a N/\H2 x=some (.lst (IL l))) ?_ ?_ ?_ ?_⟩
  ·exact⟨S,x5,rfl,hS,fun _ h=>h,by simp,fun _=>rfl,hn,h3⟩
  ·rintro j σ H2 _ ⟨_,_,_,_,_,_,_,_,h⟩
   exact SqL.of h
  ·rintro j y _ H2 hy ⟨S',x5,rfl,I2,i1,i2,i3,n2,hx2⟩
   have hy:(l.map fun(n:Nat)=>V.int (n:Int))[j]? = some y:=hy
   rw[b8]at hy
   cases ht:l[j]? with
   | none=>rw[ht]at hy;cases hy
   | some t=>
    rw[ht]at hy
    cases hy
    have tm:=mI ht
    ext
    specialize a2K ?_
    refine⟨d,_,rfl,b0S I2.hd (by have:=a5P _ _ I2.nd I2.lt;omega) t,?_⟩
    refine⟨a3E S' t,_,rfl,I2.put n0 (hlt t tm) (.step (hS.rc i hi) hl tm),fun j hj=>W6.mpr (.inl (i1 j hj)),fun z hz=>?_,fun hc=>?_,n2.dput I2.hd,?_⟩
    ·rw[E6,ht]at hz
     rcases o8.mp hz with q | q
     ·exact W6.mpr (.inl (i2 z q))
     ·exact W6.mpr (.inr (by simpa using q))
    ·rw[i3 hc]
     exact b9E (hc i hi l hl t tm)
    ·rw[c9 (G0 hx2 I2.hd (by intro z;cases z))];exact hx2
  ·rintro _ H2 ⟨S',x5,rfl,I2,i1,i2,i3,n2,hx2⟩
   refine k H2 S' x5 I2 i1 (fun _ t ht=>i2 t ?_) i3 n2
   rw[N6,M7];exact ht
 ·ext
  exact k H S x5 hS (fun _ h=>h) (fun h=>(c (c7r h)).elim) (fun _=>rfl) hn
theorem b2t{ms:List Int}{S:List Nat}(h:ms.Perm (S.map fun(n:Nat)=>(n:Int))):∃O:List Nat,O.Perm S/\ms=O.map fun(n:Nat)=>(n:Int):=by
 refine⟨ms.map b4W,?_,?_⟩
 ·have:=h.map b4W
  rw[V8]at this
  have e:(b4W ∘ fun(n:Nat)=>(n:Int))=id:=by funext n;simp
  rw[e,b6y]at this
  exact this
 ·rw[V8]
  have:∀x∈ms,((fun(n:Nat)=>(n:Int)) ∘ b4W) x=id x:=by
   intro x hx
   obtain⟨n,_,rfl⟩:=u8.mp (h.subset hx)
   simp
  rw[O9 this,b6y]
theorem b3n{O:List Nat}(h:(O.map fun(n:Nat)=>(n:Int)).Pairwise (· <= ·)):O.Pairwise (· <= ·):=by
 rw[List.pairwise_map]at h
 exact h.imp fun q=>by omega
theorem b8s(O:List Nat)(t:Nat):(O.map fun(n:Nat)=>(n:Int)).idxOf (t:Int)=O.idxOf t:=by
 induction O with
 | nil=>rfl
 | cons a r ih=>
  rw[F3,c4e,c4e]
  by_cases e:a=t
  ·subst e;simp
  ·have:((a:Int) == (t:Int))=false:=by simp;omega
   have e2:(a == t)=false:=by simpa using e
   rw[this,e2,ih]
theorem F1(h:i<N.length):N[i]? = some N[i]:=by simp
theorem b5M{K:Fg}{E:XK}(hn:C8 H a N)(hp:0<N.length)(hN:N.length<=24)(hs:∀l∈N,l.length<=2/\∀t∈l,t<N.length)(hl:N[N.length - 1]? = some [])
  (k:∀a' N' H',C8 H' a' N'->a0s N'->N'.length<=24->o6 H H'->Q (.ref a') H'):a3Z K [.ref a] H Q E:=by
 refine⟨rfl,?_⟩
 unfold b1N
 nofun
 exists a6A fun d H1 hd e1 s1=>?_
 have n1:=hn.same s1
 obtain⟨xs0,hx0,lx0⟩:=hn.len
 exact_mod_cast a1y (P:=fun σ H2=>∃x2 x3 G,σ=[some (.ref a),some (.ref d),x2,x3,none,none,none]/\a3k H H2 d N G/\N.length - 1∈G/\C8 H2 a N) ?_ ?_
 rotate_left
 ·intro nx hnx
  specialize Y6 (a0l ?_)
  refine M4 (s1 _ _ hx0) ?_
  refine⟨N.length,by rw[lx0],by omega,by omega,?_⟩
  rw[u4]
  refine X7 (fun i σ H2=>∃x2 x3 G,σ=[some (.ref a),some (.ref d),x2,x3,none,none,none]/\a3k H H2 d N G/\(0<i->N.length - 1∈G)/\C8 H2 a N) ?_ ?_ ?_
  ·exact⟨_,_,[],rfl,⟨s1,e1,by simp,by simp,by simp⟩,by omega,n1⟩
  ·rintro i _ H2 hi ⟨x2,x3,G,rfl,I2,g2,n2⟩
   ext
   obtain⟨xs2,hx2,lx2⟩:=n2.len
   specialize Y6 (a0l ?_)
   refine M4 hx2 ?_
   refine⟨N.length,by rw[lx2],by omega,by omega,?_⟩
   rw[u4]
   refine X7 (fun j σ H3=>∃x3 G,σ=[some (.ref a),some (.ref d),some (.int (0+(i:Int))),x3,none,none,none]/\a3k H H3 d N G/\(j=N.length->N.length - 1∈G)/\C8 H3 a N) ?_ ?_ ?_
   ·exact⟨_,G,rfl,I2,by omega,n2⟩
   ·rintro j _ H3 hj ⟨x3,G3,rfl,I3,g3,n3⟩
    exact_mod_cast a7C ?_
    rw[U1 (j:Int)]
    refine c0N hd n3 hN (F1 hj) (hs _ (C9 _)).1 I3 fun H4 G4 I4 sub4 h4 n4=>?_
    refine⟨_,G4,rfl,I4,fun z=>?_,n4⟩
    have e:N.length - 1=j:=by omega
    rw[e]at hl ⊢
    refine h4 ?_
    rw[F1 hj]at hl
    exact Option.some.inj hl
   ·rintro _ H3 ⟨x3,G3,rfl,I3,g3,n3⟩
    exact⟨_,_,G3,rfl,I3,fun _=>g3 rfl,n3⟩
  ·rintro _ H2 ⟨x2,x3,G,rfl,I2,g2,n2⟩
   exact hnx _ _ ⟨x2,x3,G,rfl,I2,g2 hp,n2⟩
 rintro _ H2 ⟨x2,x3,G,rfl,I2,hlast,n2⟩
 nofun
 exact_mod_cast S8 (a0l ?_)
 obtain⟨xs2,hx2,lx2⟩:=n2.len
 ext
 refine M4 hx2 ?_
 refine⟨N.length,by rw[lx2],by omega,by omega,fun A hA=>?_⟩
 rw[u4]
 refine a3N (fun i ys H3=>∃as:List Addr,ys=as.map V.ref/\as.length=i/\(∀(j:Nat) x l,as[j]? = some x->(a1R N G)[j]? = some l->H3 x=some (.lst (IL l))/\x≠A)/\H3 A=some (.lst ys)/\o6 H2 H3) ?_ ?_ ?_ ?_
 ·exact⟨[],rfl,rfl,by simp,c6,v0 hA⟩
 ·rintro i ys H3 ⟨_,_,_,_,h,_⟩
  exact h
 ·rintro i ys H3 hi ⟨as,rfl,la,at3,hA3,s3⟩ R hR
  rw[U1]
  obtain⟨ys0,x,f1,f2,f3,f4⟩:=(n2.same s3).at (F1 hi)
  have more:∀q H4,o6 H3 H4->(∀l,(a1R N G)[i]? = some l->H4 q=some (.lst (IL l)))->q≠A->R (.ref q) H4:=by
   intro q H4 s4 hq nq
   refine hR _ _ (s4 _ _ hA3) (E8 (by rw[a8];omega)) ⟨as++[q],by simp,by simp[la],?_,c6,fun b o e=>?_⟩
   ·intro j y l' h1 h2
    rcases Y1 h1 with ⟨_,g1⟩ | ⟨hj,g1⟩
    ·obtain⟨g2,g3⟩:=at3 j y l' g1 h2
     exact⟨by rw[c9 g3];exact s4 _ _ g2,g3⟩
    ·rw[hj,la]at h2
     subst g1
     exact⟨by rw[c9 nq];exact hq l' h2,nq⟩
   ·rw[c9 (c7 e hA)]
    exact s4 _ _ (s3 _ _ e)
  ext
  specialize b2e ?_
  obtain⟨o,g1,g2⟩:=a4g (s3 _ _ I2.hd) i
  refine⟨d,o,rfl,g1,?_⟩
  rw[g2]
  ext
  refine a0Y (fun c=>?_) (fun c=>?_)
  ·ext
   refine D9 f1 f2 ?_
   refine more x H3 (o6.refl _) (fun l hl'=>?_) ?_
   ·rw[a5Q (F1 hi) (of_decide_eq_true c)]at hl'
    cases hl'
    exact f3
   ·refine(c7 (H:=H2) (a:=x) (b:=A) (o:=.lst (IL N[i])) ?_ hA)
    obtain⟨ys1,x',f1',f2',f3',_⟩:=n2.at (F1 hi)
    have e1:=s3 _ _ f1'
    rw[f1]at e1
    cases e1
    rw[f2]at f2'
    cases f2'
    exact f3'
  ·ext
   exists M4 f1 ?_
   exists D5 (by simp) fun p1 H4 hp1 e4 s4=>?_
   exists D9 (s4 _ _ f1) f2 ?_
   refine c4O (s4 _ _ f3) fun p2 H5 hp2 e5 s5=>?_
   rw[c5p,c1h]at e5
   have hl2:=(hs _ (C9 (l:=N) (h:=hi))).1
   refine c2r (s5 _ _ e4) e5 (D5 (by simp[N6];omega) fun p3 H6 hp3 e6 s6=>?_)
   refine more p3 H6 ((s4.trans s5).trans s6) (fun l hl'=>?_) ?_
   ·rw[a9Q (F1 hi) (fun z=>c (c7r z))]at hl'
    cases hl'
    rw[e6,f4]
    have:((N.length:Int) - 1)=((N.length - 1:Nat):Int):=by omega
    rw[this]
    rfl
   ·exact(c7 ((s4.trans s5) _ _ hA3) hp3).symm
 rintro ys H3 ⟨as,rfl,la,at3,hA3,s3⟩
 obtain⟨N2,hN2⟩:∃N2,N2=a1R N G:=⟨_,rfl⟩
 have len2:N2.length=N.length:=by rw[hN2,a9R]
 have n3:C8 H3 A N2:=⟨as,hA3,by rw[len2,la],fun i x l h1 h2=>(at3 i x l h1 (hN2 ▸ h2)).1⟩
 have small2:∀l∈N2,l.length<=2/\∀t∈l,t<N2.length:=by
  rw[len2,hN2]
  exact b2w hp hs hl hlast
 have gd2:∀k,k<N2.length->Gd N2 k:=by
  rw[len2,hN2]
  exact c0P I2.gd hl hlast
 have s03:o6 H H3:=I2.same.trans s3
 clear at3 hN2 la
 ext
 nofun
 intro r hr
 refine⟨c6,[(Sum.inl 0,V.bl true)],rfl,by simp,?_⟩
 have e4:(upd (upd H3 r (.dK [])) r (.dK (a5b [] [(Sum.inl 0,V.bl true)])))=upd H3 r (.dK (KS [0])):=by
  rw[a7y];rfl
 rw[e4]
 ext
 obtain⟨H4,hH4⟩:∃H4,H4=upd H3 r (.dK (KS [0])):=⟨_,rfl⟩
 rw[<-hH4]
 have s4:o6 H3 H4:=hH4 ▸ v0 hr
 have er:H4 r=some (.dK (KS [0])):=hH4 ▸ c6
 have n4:=n3.same s4
 clear hH4 e4
 have hp2:0<N2.length:=by omega
 exact_mod_cast a1y (P:=fun σ H5=>∃x2 x3 x5 S,σ=[some (.ref A),some (.ref d),x2,x3,some (.ref r),x5,none]/\b1k H3 H5 r N2 S/\a5j N2 S/\C8 H5 A N2) ?_ ?_
 rotate_left
 ·intro nx hnx
  obtain⟨ys4,hy4,ly4⟩:=n4.len
  specialize Y6 (a0l ?_)
  refine M4 hy4 ?_
  refine⟨N2.length,by rw[ly4],by omega,by omega,?_⟩
  rw[u4]
  refine X7 (fun i σ H5=>∃x2 x3 x5 S,σ=[some (.ref A),some (.ref d),x2,x3,some (.ref r),x5,none]/\b1k H3 H5 r N2 S/\(a5j N2 S\/i+1<=S.length)/\C8 H5 A N2) ?_ ?_ ?_
  ·exact⟨_,_,_,[0],rfl,⟨s4,er,by simp,by simpa using hp2,by simpa using Rc.zero,by simp⟩,.inr (by simp),n4⟩
  ·rintro i _ H5 hi ⟨x2,x3,x5,S,rfl,I5,g5,n5⟩
   ext
   obtain⟨ys5,hy5,ly5⟩:=n5.len
   specialize Y6 (a0l ?_)
   refine M4 hy5 ?_
   refine⟨N2.length,by rw[ly5],by omega,by omega,?_⟩
   rw[u4]
   refine X7 (fun j σ H6=>∃x3 x5 S',σ=[some (.ref A),some (.ref d),some (.int (0+(i:Int))),x3,some (.ref r),x5,none]/\b1k H3 H6 r N2 S'/\(∀k∈S,k∈S')/\(∀k∈S,k<j->∀l,N2[k]? = some l->∀t∈l,t∈S')/\(a5j N2 S->S'=S)/\C8 H6 A N2) ?_ ?_ ?_
   ·exact⟨_,_,S,rfl,I5,fun _ h=>h,by omega,fun _=>rfl,n5⟩
   ·rintro j _ H6 hj ⟨x3,x5,S',rfl,I6,b1,b2,b3,n6⟩
    exact_mod_cast a7C ?_
    rw[U1 (j:Int)]
    refine b7y hr n6 (by omega) (F1 hj) (small2 _ (C9 _)).2 I6 fun H7 S7 x5 I7 c1 c2 c3 n7=>?_
    refine⟨_,x5,S7,rfl,I7,fun k hk=>c1 k (b1 k hk),fun k hk hkj l hl' t ht=>?_,fun hc=>?_,n7⟩
    ·by_cases e:k=j
     ·subst e
      rw[F1 hj]at hl'
      cases hl'
      exact c2 (b1 k hk) t ht
     ·exact c1 t (b2 k hk (by omega) l hl' t ht)
    ·have:=b3 hc
     rw[this]at c3
     exact c3 hc
   ·rintro _ H6 ⟨x3,x5,S',rfl,I6,b1,b2,b3,n6⟩
    refine⟨_,x3,x5,S',rfl,I6,?_,n6⟩
    rcases g5 with hc | hc
    ·exact .inl (by rw[b3 hc];exact hc)
    ·by_cases hcl:a5j N2 S
     ·exact .inl (by rw[b3 hcl];exact hcl)
     ·right
      obtain⟨t,t1,t2⟩:∃t,t∈S'/\¬t∈S:=by
       refine Classical.byContradiction fun hno=>hcl fun k hk l hl' t ht=>?_
       refine Classical.byContradiction fun hts=>hno ⟨t,b2 k hk (I5.lt k hk) l hl' t ht,hts⟩
      have:(t::S).length<=S'.length:=by
       have nd:(t::S).Nodup:=L3.mpr ⟨t2,I5.nd⟩
       have sub:∀k∈t::S,k∈S':=fun k hk=>(c8.mp hk).elim (fun z=>z ▸ t1) (b1 k)
       exact b8h _ _ nd sub
      rw[v9]at this
      omega
  ·rintro _ H5 ⟨x2,x3,x5,S,rfl,I5,g5,n5⟩
   refine hnx _ _ ⟨x2,x3,x5,S,rfl,I5,g5.elim id fun h=>?_,n5⟩
   have:=a5P _ _ I5.nd I5.lt
   omega
 rintro _ H5 ⟨y2,y3,y5,S,rfl,I5,hcl,n5⟩
 have hSl:=a5P _ _ I5.nd I5.lt
 nofun
 have ek:(KS S).map (fun kv=>kV kv.1)=(S.map fun(n:Nat)=>(n:Int)).map V.int:=by
  unfold KS;rw[V8,V8];rfl
 have ld:a6C [.ref r] H5=fun Q=>∀l,H5 l=none->Q (.ref l) (upd H5 l (.lst ((KS S).map fun kv=>kV kv.1))):=by
  unfold a6C
  simp only[I5.hd]
 rw[ld]
 intro p6 hp6
 rw[ek]
 obtain⟨H6,hH6⟩:∃H6,H6=upd H5 p6 (.lst ((S.map fun(n:Nat)=>(n:Int)).map V.int)):=⟨_,rfl⟩
 rw[<-hH6]
 have s6:o6 H5 H6:=hH6 ▸ v0 hp6
 have e6:H6 p6=some (.lst ((S.map fun(n:Nat)=>(n:Int)).map V.int)):=hH6 ▸ c6
 clear hH6 ld
 ext
 have so:a4f [.ref p6] H6=fun Q=>∃ns,a0Z ((S.map fun(n:Nat)=>(n:Int)).map V.int)=some ns/\ns.length<64/\∀(p:Addr) (ms:List Int),ms.Perm ns->ms.Pairwise (· <= ·)->H6 p=none->Q (.ref p) (upd H6 p (.lst (ms.map V.int))):=by
  unfold a4f
  simp only[e6]
 rw[so]
 refine⟨_,a8E _,by rw[a8];omega,fun p7 ms hperm hsort hp7=>?_⟩
 obtain⟨O,hO,rfl⟩:=b2t hperm
 have hsO:=b3n hsort
 have ndO:O.Nodup:=hO.nodup_iff.mpr I5.nd
 have memO:∀k,k∈O↔k∈S:=fun k=>hO.mem_iff
 obtain⟨H7,hH7⟩:∃H7,H7=upd H6 p7 (.lst ((O.map fun(n:Nat)=>(n:Int)).map V.int)):=⟨_,rfl⟩
 rw[<-hH7]
 have s7:o6 H6 H7:=hH7 ▸ v0 hp7
 have e7:H7 p7=some (.lst ((O.map fun(n:Nat)=>(n:Int)).map V.int)):=hH7 ▸ c6
 clear hH7 so
 have hOl:O.length<=24:=by rw[hO.length_eq];omega
 ext
 have n7:=(n5.same s6).same s7
 have s07:o6 H H7:=((s03.trans I5.same).trans s6).trans s7
 have valid:a0s (a4L N2 O):=b5j ((memO 0).mpr I5.zero) hsO ndO (fun k hk=>I5.lt k ((memO k).mp hk)) (by omega) (fun k hk l hl' t ht=>(memO t).mpr (hcl k ((memO k).mp hk) l hl' t ht)) (fun k hk=>I5.rc k ((memO k).mp hk))
  (fun l hl'=>(small2 l hl').1) gd2
 specialize S8 (S0 ?_)
 refine⟨p7,rfl,⟨_,SqL.of e7⟩,fun B hB=>?_⟩
 refine P7 (xs:=(O.map fun(n:Nat)=>(n:Int)).map V.int) (fun i ys H8=>∃bs:List Addr,ys=bs.map V.ref/\bs.length=i/\(∀(j:Nat) x l,bs[j]? = some x->(a4L N2 O)[j]? = some l->H8 x=some (.lst (IL l))/\x≠B)/\H8 B=some (.lst ys)/\o6 H7 H8) ?_ ?_ ?_ ?_ ?_
 ·exact⟨[],rfl,rfl,by simp,c6,v0 hB⟩
 ·rintro i ys H8 ⟨_,_,_,_,h,_⟩
  exact h
 ·rintro i ys H8 _ ⟨_,_,_,_,_,s8⟩
  exact SqL.of (s8 _ _ e7)
 ·rintro i x ys H8 hx ⟨bs,rfl,lb,at8,hB8,s8⟩ R hR
  rw[b8,b8]at hx
  cases ho:O[i]? with
  | none=>rw[ho]at hx;cases hx
  | some kk=>
   rw[ho]at hx
   cases hx
   have hko:=mI ho
   have hks:=(memO kk).mp hko
   have hkl:=I5.lt kk hks
   obtain⟨ys8,x8,f1,f2,f3,_⟩:=(n7.same s8).at (F1 hkl)
   obtain⟨l8,hl8⟩:∃l8,l8=N2[kk]:=⟨_,rfl⟩
   rw[<-hl8]at f3
   have hN8:N2[kk]? = some l8:=by rw[hl8];exact F1 hkl
   specialize S8 (S0 ?_)
   refine D9 f1 f2 ?_
   refine⟨x8,rfl,⟨_,SqL.of f3⟩,fun C hC=>?_⟩
   refine P7 (xs:=IL l8) (fun j zs H9=>zs=IL ((l8.take j).map fun t=>O.idxOf t)/\H9 C=some (.lst zs)/\o6 H8 H9) ⟨rfl,c6,v0 hC⟩ ?_ ?_ ?_ ?_
   ·rintro j zs H9 ⟨_,h,_⟩
    exact h
   ·rintro j zs H9 _ ⟨_,_,s9⟩
    exact SqL.of (s9 _ _ f3)
   ·rintro j y zs H9 hy ⟨rfl,hC9,s9⟩ R' hR'
    have hy:(l8.map fun(n:Nat)=>V.int (n:Int))[j]? = some y:=hy
    rw[b8]at hy
    cases ht:l8[j]? with
    | none=>rw[ht]at hy;cases hy
    | some t=>
     rw[ht]at hy
     cases hy
     have htO:t∈O:=(memO t).mpr (hcl kk hks l8 hN8 t (mI ht))
     specialize b3B ?_
     have e9:H9 p7=_:=s9 _ _ (s8 _ _ e7)
     exists ⟨a1I e9,?_⟩
     have ix:a6D (.ref p7) [.int (t:Int)] H9=fun Q=>∃ns,a0Z ((O.map fun(n:Nat)=>(n:Int)).map V.int)=some ns/\ns.length<10000/\(t:Int)∈ns/\Q (.int (ns.idxOf (t:Int):Nat)) H9:=by
      unfold a6D
      simp only[e9]
     rw[ix]
     refine⟨_,a8E _,by rw[a8];omega,u8.mpr ⟨t,htO,rfl⟩,?_⟩
     rw[b8s]
     have hl2:=(small2 l8 (mI hN8)).1
     refine hR' _ _ hC9 (E8 ?_) ⟨?_,c6,fun b o e=>?_⟩
     ·rw[N6,a8,J8];omega
     ·unfold IL
      rw[b4J l8 (fun t=>O.idxOf t) j ht]
      simp
     ·rw[c9 (c7 e hC)];exact s9 _ _ e
   ·rintro zs H9 ⟨rfl,hC9,s9⟩
    rw[N6,M7]at hC9
    refine hR _ _ (s9 _ _ hB8) (E8 (by rw[a8];have:=(gI ho);omega)) ⟨bs++[C],by simp,by simp[lb],?_,c6,fun b o e=>?_⟩
    ·have nCB:C≠B:=(c7 hB8 hC).symm
     intro j y l' h1 h2
     rcases Y1 h1 with ⟨_,g1⟩ | ⟨hj,g1⟩
     ·obtain⟨g2,g3⟩:=at8 j y l' g1 h2
      exact⟨by rw[c9 g3];exact s9 _ _ g2,g3⟩
     ·rw[hj,lb]at h2
      subst g1
      refine⟨?_,nCB⟩
      rw[c9 nCB,hC9]
      have h2':(a4L N2 O)[i]? = some (l8.map fun t=>O.idxOf t):=by
       unfold a4L
       rw[b8,ho]
       simp[L0,hN8]
      rw[h2']at h2
      cases h2
      rfl
    ·rw[c9 (c7 e hB)]
     exact s9 _ _ (s8 _ _ e)
 ·rintro ys H8 ⟨bs,rfl,lb,at8,hB8,s8⟩
  rw[a8,a8]at lb
  have hlen:(a4L N2 O).length=O.length:=by simp[a4L]
  exact k B (a4L N2 O) H8 ⟨bs,hB8,by rw[lb,hlen],fun i x l h1 h2=>(at8 i x l h1 h2).1⟩ valid (by rw[hlen];exact hOl) (s07.trans s8)
structure N5(H:Hp)(a:Addr)(N:Nt):Prop where
 ex:∃rs:List Addr,H a=some (.lst (rs.map V.ref))/\rs.length=N.length/\∀(i:Nat) x l,rs[i]? = some x->N[i]? = some l->a5h H (.ref x) (l.length == 2)
theorem N5.same(h:N5 H a N)(k:o6 H H'):N5 H' a N:=by
 obtain⟨rs,h1,h2,h3⟩:=h.ex
 exact⟨rs,k a _ h1,h2,fun i x l e1 e2=>(h3 i x l e1 e2).ts (o6.ts k)⟩
theorem N5.kept(h:N5 H a N)(hB:Bag H b c)(k:E1 b H H'):N5 H' a N:=by
 obtain⟨rs,h1,h2,h3⟩:=h.ex
 exact⟨rs,k.1 a _ h1 (a4e hB h1),h2,fun i x l e1 e2=>(h3 i x l e1 e2).ts (E1.ts k hB)⟩
def OpP(PL:List Str)(v:V):Prop:=∀s,v=.str s->s∈PL
def a7p(H:Hp)(PL:List Str)(p:Addr):Prop:=∃k a b,H p=some (.tup [.str k,a,b])/\OpP PL a/\OpP PL b
def b8I(H:Hp)(PL:List Str)(p:Addr):Prop:=∃xs,H p=some (.tup xs)/\∀v∈xs.drop 1,OpP PL v/\∀q,v=.ref q->a7p H PL q
structure Pl(H:Hp)(a:Addr)(PL:List Str):Prop where
 h:H a=some (.lst (PL.map V.str))
 pos:0<PL.length
 le:PL.length<=4
 nm:∀s∈PL,NmS s
section
variable {K:Fg}{PL:List Str}{E:XK}
theorem a7p.ts(h:a7p H PL p)(t:O1 H H'):a7p H' PL p:=let⟨k,a,b,h1,h2⟩:=h; ⟨k,a,b,t _ _ h1,h2⟩
theorem b8I.ts(h:b8I H PL p)(t:O1 H H'):b8I H' PL p:=let⟨xs,h1,h2⟩:=h; ⟨xs,t _ _ h1,fun v hv=>⟨(h2 v hv).1,fun q e=>((h2 v hv).2 q e).ts t⟩⟩
theorem Pl.n(h:Pl H a PL):b1m H a:=⟨PL,h.h,b8W.mp h.pos,by have:=h.le;omega,h.nm⟩
theorem Pl.kept(h:Pl H a PL)(hB:Bag H b c)(k:E1 b H H'):Pl H' a PL:=⟨k.1 _ _ h.h (h.n.kept hB k).2,h.pos,h.le,h.nm⟩
theorem c0r(n:Int):OpP PL (.int n):=fun s e=>nomatch e
theorem b9P(hB:Bag H b c)(k:∀a PL H',Pl H' a PL->Bag H' b c->E1 b H H'->Q (.ref a) H'):a7z K [.ref b] H Q E:=by
 refine⟨rfl,?_⟩
 unfold b7d
 nofun
 exists D5 (by decide) fun l H1 hl e1 s1=>?_
 have hn:∀s∈(["a","b1","set","k0","ask","k1","total","x2y3z4w5","k2","take"]:List Str),NmS s:=by
  intro s hs
  simp only[c8,j7,or_false]at hs
  rcases hs with rfl | rfl | rfl | rfl | rfl | rfl | rfl | rfl | rfl | rfl <;> exact⟨by decide +kernel,by decide +kernel⟩
 obtain⟨ws,hws⟩:∃ws:List Str,ws=(["a","b1","set","k0","ask","k1","total","x2y3z4w5","k2","take"]:List Str):=⟨_,rfl⟩
 have e1:H1 l=some (.lst (ws.map V.str)):=by rw[hws];exact e1
 have lw:ws.length=10:=by rw[hws];rfl
 rw[<-hws]at hn
 have B1:=hB.same s1
 have nl:=hB.nb hl
 nofun
 exists N3 B1 (by decide) (by decide) fun n2 H2 a0 a1 B2 k2=>?_
 specialize S8 (a0l ?_)
 refine N3 B2 (by decide) (by decide) fun n3 H3 b0 b1 B3 k3=>?_
 obtain⟨m,rfl⟩:∃m:Nat,n3=(m:Int):=⟨n3.toNat,by omega⟩
 ext
 refine⟨2+(m:Int),rfl,by omega,by omega,fun D hD=>?_⟩
 have k13:=k2.trans k3
 have w3:=k13.1 _ _ e1 nl.1
 rw[show(2+(m:Int)).toNat=2+m by omega]
 refine a3N (fun i ys H4=>∃PL:List Str,ys=PL.map V.str/\PL.length=i/\(∀s∈PL,NmS s)/\H4 D=some (.lst ys)/\o6 H3 H4) ⟨[],rfl,rfl,by simp,c6,v0 hD⟩ ?_ ?_ ?_
 ·rintro i ys H4 ⟨_,_,_,_,h,_⟩
  exact h
 ·rintro i ys H4 hi ⟨PL,rfl,lp,hp,hd,s4⟩ R hR
  ext
  exists a1A (by unfold b8Q;omega) ?_
  refine a1A (by decide) ?_
  have hm:=T7 (n2+3 * (0+(i:Int))) (show(10:Int)≠0 by decide)
  have hm2:=R5 (n2+3 * (0+(i:Int))) (show(0:Int)<10 by decide)
  obtain⟨v,hv,hv2⟩:=a3a (xs:=ws.map V.str) hm (by rw[a8,lw];exact hm2)
  obtain⟨s,hs,rfl⟩:=u8.mp (mI hv2)
  refine D9 (s4 _ _ w3) hv ?_
  refine hR _ _ hd (E8 (by rw[a8];omega)) ⟨PL++[s],by simp,by simp[lp],fun u hu=>?_,c6,fun b o e=>by rw[c9 (c7 e hD)];exact s4 _ _ e⟩
  rcases o8.mp hu with q | q
  ·exact hp u q
  ·rw[f6.mp q];exact hn s hs
 ·rintro ys H4 ⟨PL,rfl,lp,hp,hd,s4⟩
  exact k D PL H4 ⟨hd,by omega,by omega,hp⟩ (B3.same s4) (((E1.of_same s1).trans k13).trans (E1.of_same s4))
theorem a1C(hB:Bag H b c)(hN:Pl H a PL)(k:∀v H',OpN v->OpP PL v->Bag H' b c->E1 b H H'->Q v H'):W5 K [.ref b,.ref a] H Q E:=by
 refine⟨rfl,?_⟩
 unfold a9L
 nofun
 exists N3 hB (by decide) (by decide) fun n1 H1 a0 a1 B1 k1=>?_
 refine a0Y (fun _=>?_) (fun _=>?_)
 ·nofun
  exists N3 B1 (by decide) (by decide) fun n2 H2 b0 b1 B2 k2=>?_
  exists D5 (by simp) fun l H3 hl e3 s3=>?_
  refine N3 (B2.same s3) (by decide) (by decide) fun n4 H4 c0 c1 B4 k4=>?_
  obtain⟨v,hv,hv2⟩:=a3a (xs:=([.int 0,.int 1,.int 999999999999,.int n2]:List V)) c0 (by simpa using c1)
  refine D9 (k4.1 _ _ e3 (B2.nb hl).1) hv ?_
  have m:=mI hv2
  have:∃n:Int,v=.int n/\0<=n/\n<1000000000000:=by
   simp only[c8,j7,or_false]at m
   rcases m with rfl | rfl | rfl | rfl
   ·exact⟨_,rfl,by decide,by decide⟩
   ·exact⟨_,rfl,by decide,by decide⟩
   ·exact⟨_,rfl,by decide,by decide⟩
   ·exact⟨_,rfl,by omega,by omega⟩
  obtain⟨n,rfl,n0,n1⟩:=this
  exact k _ _ (.inr ⟨n,rfl,n0,n1⟩) (c0r n) B4 (((k1.trans k2).trans (E1.of_same s3)).trans k4)
 ext
 have N1:=hN.kept hB k1
 exists M4 N1.h ?_
 have hp:=N1.pos
 refine N3 B1 (by rw[a8];omega) (by rw[a8];have:=N1.le;omega) fun n2 H2 b0 b1 B2 k2=>?_
 obtain⟨v,hv,hv2⟩:=a3a (xs:=PL.map V.str) b0 b1
 obtain⟨s,hs,rfl⟩:=u8.mp (mI hv2)
 exact D9 (N1.kept B1 k2).h hv (k _ _ (.inl ⟨s,rfl,N1.nm s hs⟩) (fun u e=>by cases e;exact hs) B2 (k1.trans k2))
theorem c0T(hB:Bag H b c)(hN:Pl H a PL)(k:∀p H',a4E H' p->a7p H' PL p->H p=none->Bag H' b c->E1 b H H'->Q (.ref p) H'):a7A K [.ref b,.ref a] H Q E:=by
 refine⟨rfl,?_⟩
 unfold b7h
 nofun
 exists D5 (by decide) fun p G hp e s=>?_
 refine N3 (hB.same s) (by decide) (by decide) fun n1 H1 a0 a1 B1 k1=>?_
 have hp1:=k1.1 p _ e (hB.nb hp).1
 have k01:E1 b H H1:=(E1.of_same s).trans k1
 obtain⟨v,hv,hv2⟩:=a3a (xs:=([.str "plus",.str "minus",.str "times",.str "less",.str "same"]:List V)) a0 (by simpa using a1)
 refine D9 hp1 hv ?_
 have:∃kd:Str,v=.str kd/\kd∈(["plus","minus","times","less","same"]:List Str):=by
  have m:=mI hv2
  simp only[c8,j7,or_false]at m
  rcases m with rfl | rfl | rfl | rfl | rfl <;> exact⟨_,rfl,by simp⟩
 obtain⟨kd,rfl,hkd⟩:=this
 ext
 have N1:=hN.kept hB k01
 exists a1C B1 N1 fun v1 H2 o1 p1 B2 k2=>?_
 exists a1C B2 (N1.kept B1 k2) fun v2 H3 o2 p2 B3 k3=>?_
 refine D5 (by simp) fun q G hq e s=>?_
 exact k q _ ⟨kd,v1,v2,e,o1,o2,hkd⟩ ⟨kd,v1,v2,e,p1,p2⟩ (k01.none (k2.none (k3.none hq))) (B3.same s) (((k01.trans k2).trans k3).trans (E1.of_same s))
structure b2T(H:Hp)(a:Addr)(PL:List Str):Prop where
 ex:∃ps:List Addr,H a=some (.lst (ps.map V.ref))/\ps≠[]/\ps.length<=8/\∀p∈ps,a4E H p/\a7p H PL p
theorem b2T.kept(h:b2T H a PL)(hB:Bag H b c)(k:E1 b H H'):b2T H' a PL:=by
 obtain⟨ps,h1,h2,h3,h4⟩:=h.ex
 have t:=k.ts hB
 exact⟨ps,k.1 _ _ h1 (a4e hB h1),h2,h3,fun p hp=>⟨(h4 p hp).1.ts t,(h4 p hp).2.ts t⟩⟩
theorem c2j{ask:Bool}(hB:Bag H b c)(hN:Pl H a PL)(hP:b2T H p PL)(k:∀q H',a5h H' (.ref q) ask->b8I H' PL q->Bag H' b c->E1 b H H'->Q (.ref q) H'):b0m K [.ref b,.ref a,.ref p,.bl ask] H Q E:=by
 refine⟨rfl,?_⟩
 unfold c1q
 nofun
 cases ask with
 | true=>
  exists A7 rfl ?_
  exists a1C hB hN fun v H1 o1 p1 B1 k1=>?_
  refine D5 (by simp) fun q G hq e s=>?_
  exact k q G ⟨q,_,rfl,e,.ask v o1,_,_,rfl,by decide⟩ ⟨_,e,fun u hu=>by
   rw[f6.mp hu]
   exact⟨p1,fun q e=>by rcases o1 with ⟨s,rfl,_⟩ | ⟨n,rfl,_⟩ <;> cases e⟩⟩ (B1.same s) (k1.trans (E1.of_same s))
 | false=>
 exists o4 rfl ?_
 nofun
 exists N3 hB (by decide) (by decide) fun w H1 w0 w1 B1 k1=>?_
 nofun
 have N1:=hN.kept hB k1
 have P1:=hP.kept hB k1
 exists M4 N1.h ?_
 refine N3 B1 (by rw[a8];have:=N1.pos;omega) (by rw[a8];have:=N1.le;omega) fun n2 H2 b0 b1 B2 k2=>?_
 obtain⟨v,hv,hv2⟩:=a3a (xs:=PL.map V.str) b0 b1
 obtain⟨s,hs,rfl⟩:=u8.mp (mI hv2)
 have N2:=N1.kept B1 k2
 have P2:=P1.kept B1 k2
 have k02:=k1.trans k2
 have ns:=N1.nm s hs
 have ps:∀q,(V.str s=V.ref q->a7p H2 PL q):=fun q e=>nomatch e
 have os:OpP PL (.str s):=fun u e=>by cases e;exact hs
 exists D9 N2.h hv ?_
 nofun
 refine a0Y (fun _=>?_) (fun _=>?_)
 ·obtain⟨qs,p1,p2,p3,p4⟩:=P2.ex
  have hl:0<qs.length:=b8W.mpr p2
  ext
  exists M4 p1 ?_
  refine N3 B2 (by rw[a8];omega) (by rw[a8];omega) fun n3 H3 c0 c1 B3 k3=>?_
  obtain⟨v,hv,hv2⟩:=a3a (xs:=qs.map V.ref) c0 c1
  obtain⟨d,hd,rfl⟩:=u8.mp (mI hv2)
  refine D9 (k3.1 _ _ p1 (a4e B2 p1)) hv ?_
  have t3:=k3.ts B2
  ext
  refine D5 (by simp) fun q G hq e s'=>?_
  refine k q G ⟨q,_,rfl,e,.set _ d ns (((p4 d hd).1.ts t3).ts (o6.ts s')),_,_,rfl,by decide⟩ ⟨_,e,fun u hu=>?_⟩ (B3.same s') ((k02.trans k3).trans (E1.of_same s'))
  rcases c8.mp hu with rfl | hu
  ·exact⟨os,fun q e=>nomatch e⟩
  ·rw[f6.mp hu]
   exact⟨(fun s e=>nomatch e),fun q e=>by cases e;exact((p4 d hd).2.ts t3).ts (o6.ts s')⟩
 ext
 nofun
 refine a0Y (fun _=>?_) (fun _=>?_)
 ·ext
  exists a1C B2 N2 fun v H3 o1 p1 B3 k3=>?_
  refine D5 (by simp) fun q G hq e s'=>?_
  refine k q G ⟨q,_,rfl,e,.copy _ v ns o1,_,_,rfl,by decide⟩ ⟨_,e,fun u hu=>?_⟩ (B3.same s') ((k02.trans k3).trans (E1.of_same s'))
  rcases c8.mp hu with rfl | hu
  ·exact⟨os,fun q e=>nomatch e⟩
  ·rw[f6.mp hu]
   exact⟨p1,fun q e=>by rcases o1 with ⟨s,rfl,_⟩ | ⟨n,rfl,_⟩ <;> cases e⟩
 ext
 nofun
 refine a0Y (fun _=>?_) (fun _=>?_)
 ·ext
  exists D5 (by simp) fun q1 G1 hq1 e1 s1=>?_
  exists a1C (B2.same s1) ⟨s1 _ _ N2.h,N2.pos,N2.le,N2.nm⟩ fun v H3 o1 p1 B3 k3=>?_
  exists D5 (by simp) fun q2 G2 hq2 e2 s2=>?_
  exists D5 (by simp) fun q3 G3 hq3 e3 s3=>?_
  have B2':=B3.same s2
  refine N3 (B2'.same s3) (by decide) (by decide) fun j H4 j0 j1 B4 k4=>?_
  obtain⟨x,hx,hx2⟩:=a3a (xs:=[V.ref q1,V.ref q2]) j0 (by simpa using j1)
  refine D9 (k4.1 _ _ e3 (B2'.nb hq3).1) hx ?_
  have kk:E1 b H H4:=(((k02.trans (E1.of_same s1)).trans k3).trans (E1.of_same (s2.trans s3))).trans k4
  have f1:H4 q1=_:=k4.1 _ _ (s3 _ _ (s2 _ _ (k3.1 _ _ e1 (B2.nb hq1).1))) (B2.nb hq1).1
  have f2:H4 q2=_:=k4.1 _ _ (s3 _ _ e2) (B3.nb hq2).1
  have m:=mI hx2
  simp only[c8,j7,or_false]at m
  rcases m with rfl | rfl
  ·exact k q1 H4 ⟨q1,_,rfl,f1,.take _ ns,_,_,rfl,by decide⟩ ⟨_,f1,fun u hu=>by
    rw[f6.mp hu];exact⟨os,fun q e=>nomatch e⟩⟩ B4 kk
  ·exact k q2 H4 ⟨q2,_,rfl,f2,.tell v o1,_,_,rfl,by decide⟩ ⟨_,f2,fun u hu=>by
    rw[f6.mp hu]
    exact⟨p1,fun q e=>by rcases o1 with ⟨s,rfl,_⟩ | ⟨n,rfl,_⟩ <;> cases e⟩⟩ B4 kk
 ext
 refine D5 (by simp) fun q G hq e s'=>?_
 exact k q G ⟨q,_,rfl,e,.skip,_,_,rfl,by decide⟩ ⟨_,e,fun u hu=>nomatch hu⟩ (B2.same s') (k02.trans (E1.of_same s'))
def c1I(H:Hp)(rs:List Addr)(PL:List Str):Prop:=∀p∈rs,b8I H PL p
theorem b4D(hB:Bag H b c)
  (k:∀p ra na N rs PL H',H' p=some (.tup [.ref ra,.ref na])->N5 H' ra N->H' ra=some (.lst (rs.map V.ref))->c1I H' rs PL->PL.length<=4->C8 H' na N->a0s N->N.length<=24->Bag H' b c->E1 b H H'->Q (.ref p) H'):a5x K [.ref b] H Q E:=by
 refine⟨rfl,?_⟩
 unfold b7e
 nofun
 exists b9P hB fun pa PL H0 P0 B0 k0=>?_
 nofun
 exists N3 B0 (by decide) (by decide) fun n1 H1 b0 b1 B1 k1=>?_
 nofun
 exists N3 B1 (by decide) (by decide) fun n2 H2 c0 c1 B2 k2=>?_
 have k02:=(k0.trans k1).trans k2
 have k012:=k1.trans k2
 exact_mod_cast a1y (P:=fun σ H2=>∃m kd:Nat,σ=[some (.ref b),some (.ref pa),some (.int (m:Int)),some (.int (kd:Int)),none,none,none]/\0<m/\m<=24/\0<kd/\kd<=5/\Bag H2 b c/\E1 b H0 H2) ?_ ?_
 rotate_left
 ·intro nx hnx
  ext
  exists N3 B2 (by decide) (by decide) fun n3 H3 d0 d1 B3 k3=>?_
  refine a0Y (fun _=>?_) (fun _=>?_)
  ·nofun
   exists N3 B3 (by decide) (by decide) fun n4 H4 f0 f1 B4 k4=>?_
   exists N3 B4 (by decide) (by decide) fun n5 H5 g0 g1 B5 k5=>?_
   obtain⟨n4,rfl⟩:=O7 f0
   obtain⟨n5,rfl⟩:=O7 g0
   exact hnx _ _ ⟨15+n4,1+n5,rfl,by omega,by omega,by omega,by omega,B5,((k012.trans k3).trans k4).trans k5⟩
  ·ext
   obtain⟨n1,rfl⟩:=O7 b0
   obtain⟨n2,rfl⟩:=O7 c0
   exact hnx _ _ ⟨1+n1,1+n2,rfl,by omega,by omega,by omega,by omega,B3,k012.trans k3⟩
 rintro _ H3 ⟨m,kd,rfl,m0,m1,kd0,kd1,B3,k3⟩
 nofun
 exists c3o B3 m0 m1 fun a N0 H4 n4 l4 s4 z4 B4 k4=>?_
 exists b5M n4 (by omega) (by omega) (by rw[l4];exact s4) (by rw[l4];exact z4) fun na N H5 n5 v5 lN s5=>?_
 have B5:=B4.same s5
 have k05:E1 b H0 H5:=(k3.trans k4).trans (E1.of_same s5)
 have P5:=P0.kept B0 k05
 exact_mod_cast Q2 ?_
 exact_mod_cast c1x ?_
 specialize S8 (a0l ?_)
 refine⟨(kd:Int),rfl,by omega,by omega,fun D hD=>?_⟩
 rw[u4]
 obtain⟨nb,nc⟩:=B5.nb hD
 refine a3N (fun i ys H6=>∃ps:List Addr,ys=ps.map V.ref/\ps.length=i/\(∀p∈ps,a4E H6 p/\a7p H6 PL p)/\H6 D=some (.lst ys)/\Bag H6 b c/\E1 b H5 H6) ⟨[],rfl,rfl,by simp,c6,B5.new hD,E1.new hD⟩ ?_ ?_ ?_
 ·rintro i ys H6 ⟨_,_,_,_,h,_⟩
  exact h
 ·rintro i ys H6 hi ⟨ps,rfl,lp,hp,hd,B6,k6⟩ R hR
  ext
  refine c0T B6 (P5.kept B5 k6) fun p H7 d7 q7 _ B7 k7=>?_
  have hd7:=k7.1 _ _ hd nb
  have tp:O1 H7 (upd H7 D (.lst (ps.map V.ref++[.ref p]))):=O1.put hd7
  refine hR _ _ hd7 (E8 (by rw[a8];omega)) ⟨ps++[p],by simp,by simp[lp],fun q hq=>?_,c6,B7.put nb nc,(k6.trans k7).put hD⟩
  rcases o8.mp hq with z | z
  ·exact⟨((hp q z).1.ts (k7.ts B6)).ts tp,((hp q z).2.ts (k7.ts B6)).ts tp⟩
  ·rw[f6.mp z]
   exact⟨d7.ts tp,q7.ts tp⟩
 rintro ys H6 ⟨ps,rfl,lp,hp,hd6,B6,k6⟩
 have G6:b2T H6 D PL:=⟨ps,hd6,by intro z;subst z;simp at lp;omega,by omega,hp⟩
 have P6:=P5.kept B5 k6
 have n6:=n5.kept B5 v5.two k6
 obtain⟨as,q1,q2,q3⟩:=id n6.ex
 ext
 exact_mod_cast Q2 ?_
 refine a8h ?_
 specialize S8 (S0 ?_)
 refine⟨na,rfl,⟨_,SqL.of q1⟩,fun R' hR'=>?_⟩
 obtain⟨rb,rc⟩:=B6.nb hR'
 refine P7 (xs:=as.map V.ref) (fun i ys H7=>∃rs:List Addr,ys=rs.map V.ref/\rs.length=i/\(∀(j:Nat) x l,rs[j]? = some x->N[j]? = some l->a5h H7 (.ref x) (l.length == 2))/\c1I H7 rs PL/\H7 R'=some (.lst ys)/\Bag H7 b c/\E1 b H6 H7) ⟨[],rfl,rfl,by simp,(fun p hp=>nomatch hp),c6,B6.new hR',E1.new hR'⟩ ?_ ?_ ?_ ?_
 ·rintro i ys H7 ⟨_,_,_,_,_,h,_⟩
  exact h
 ·rintro i ys H7 _ ⟨_,_,_,_,_,_,_,k7⟩
  exact SqL.of (k7.1 _ _ q1 (a4e B6 q1))
 ·rintro i x ys H7 hx ⟨rs,rfl,lr,hr,rp,hR7,B7,k7⟩ R hR
  rw[b8]at hx
  obtain⟨xa,hxa,rfl⟩:=l6.mp hx
  have hi:i<N.length:=by rw[<-q2];exact(gI hxa)
  have hx6:=q3 i xa _ hxa (F1 hi)
  have hx7:=k7.1 _ _ hx6 (b1W B6 hx6 (by rw[N6];have:=v5.two _ (C9 hi);omega))
  ext
  refine M4 hx7 ?_
  rw[N6]
  ext
  have ea:decide (V.int (N[i].length:Int)=V.int 2)=(N[i].length == 2):=by
   rw[L4,decide_eq_true_iff,beq_iff_eq]
   exact⟨fun z=>by have:=V.int.inj z;omega,fun z=>by rw[z];rfl⟩
  rw[ea]
  refine c2j B7 (P6.kept B6 k7) (G6.kept B6 k7) fun q H8 r8 p8 B8 k8=>?_
  have hR8:=k8.1 _ _ hR7 rb
  have t8:=k8.ts B7
  have tp:O1 H8 (upd H8 R' (.lst (rs.map V.ref++[.ref q]))):=O1.put hR8
  refine hR _ _ hR8 (E8 (by rw[a8];omega)) ⟨rs++[q],by simp,by simp[lr],fun j y l g1 g2=>?_,fun y hy=>?_,c6,B8.put rb rc,(k7.trans k8).put hR'⟩
  ·rcases Y1 g1 with ⟨_,f1⟩ | ⟨hj,f1⟩
   ·exact((hr j y l f1 g2).ts t8).ts tp
   ·rw[hj,lr,F1 hi]at g2
    cases g2
    subst f1
    exact r8.ts tp
  ·rcases o8.mp hy with z | z
   ·exact((rp y z).ts t8).ts tp
   ·rw[f6.mp z];exact p8.ts tp
 ·rintro ys H7 ⟨rs,rfl,lr,hr,rp,hR7,B7,k7⟩
  rw[a8]at lr
  ext
  refine D5 (by simp) fun p H8 hp8 e8 s8=>?_
  exact k p R' na N rs PL H8 e8 ((⟨rs,hR7,by rw[lr,q2],hr⟩:N5 H7 R' N).same s8) (s8 _ _ hR7) (fun p hp=>(rp p hp).ts (o6.ts s8)) P0.le ((n6.kept B6 v5.two k7).same s8) v5 lN (B7.same s8) (((k0.trans k05).trans (k6.trans k7)).trans (E1.of_same s8))
end
theorem big{n:Nat}(h:n<=1000000):n<=l7:=A9 h (by rw[a2u];decide)
theorem a7x{K:Fg}{E:XK}(ha:H a=some (.lst xs))(h1:1<=xs.length)(h2:xs.length<=400)(k:Q .non H):Y9 K [.ref a,.int 0,.int 1] H Q E:=by
 refine⟨rfl,?_⟩
 unfold a3x
 nofun
 exists a3C (s := "list") (by simp only[a2z,ha]) (by decide) ?_
 exists o4 (by decide) ?_
 exists M4 ha ?_
 exists o4 (c7q (by omega)) ?_
 exists M4 ha ?_
 exists o4 (c7q (by omega)) ?_
 exact k
theorem a4B{K:Fg}{n:Nat}{E:XK}(ha:H a=some (.lst (u0 n (V.bl true))))(k:∀H',o6 H H'->Q .non H'):Y5 K [.ref a] H Q E:=by
 refine⟨rfl,?_⟩
 unfold a5t
 specialize Y6 (a4d ?_)
 refine⟨a,rfl,⟨_,SqL.of ha⟩,?_⟩
 refine a9V n (fun i σ H2=>∃x1 x2,σ=[some (.ref a),x1,x2]/\o6 H H2) ⟨_,_,rfl,o6.refl _⟩ ?_ ?_ ?_
 ·rintro _ H2 ⟨x1,x2,rfl,s2⟩
  exact⟨⟨_,SqL.of (s2 _ _ ha),by simp⟩,k H2 s2⟩
 ·rintro i _ H2 hi ⟨x1,x2,rfl,s2⟩
  exact⟨_,V.bl true,SqL.of (s2 _ _ ha),by rw[F0,if_pos hi]⟩
 ·rintro i _ H2 hi ⟨x1,x2,rfl,s2⟩ x H3 ⟨p,y,hp,rfl,rfl,hy⟩
  have hy:=hy _ (SqL.of (s2 _ _ ha))
  rw[F0,if_pos hi]at hy
  cases hy
  exists a7B (SqT.of c6) ?_
  exists o4 rfl ?_
  exact⟨_,_,rfl,s2.trans (v0 hp)⟩
theorem a7T(n:Nat):u0 n (V.bl true)++[V.bl true]=u0 (n+1) (V.bl true):=by
 rw[a1o]
theorem c3q{n:Nat}(h:n=0\/n=1):inV (.int (n:Int)) [.int 0,.int 1]=true:=by
 rcases h with rfl | rfl <;> decide
theorem b1g{K:Fg}{x:Addr}{E:XK}(hv:a5h H v (l.length == 2))(hx:H x=some (.lst (IL l)))(h2:l.length<=2)(hlt:∀t∈l,t<m)(k:∀H',o6 H H'->Q (.bl true) H') :
  a1k K [v,.ref x,.int (m:Int)] H Q E:=by
 obtain⟨p,xs,rfl,hp,_,kd,r,rfl,hk⟩:=hv
 refine⟨rfl,?_⟩
 unfold a7h
 nofun
 exists a3C (s := "list") (by simp only[a2z,hx]) (by decide) ?_
 exists o4 (by decide) ?_
 exact_mod_cast a1y (P:=fun σ H1=>∃w ws,σ=[some (.ref p),some (.ref x),some (.int (m:Int)),some (.ref w)]/\H1 w=some (.tup ws)/\ws.all E9=true/\inV (.int (l.length:Int)) ws=true/\o6 H H1) ?_ ?_
 rotate_left
 ·intro nx hnx
  ext
  exists z5 hp (Q5 _ _) ?_
  by_cases e:kd = "ask"
  ·exists A7 (c7r (by rw[e])) ?_
   refine D5 (by simp) fun w H1 hw e1 s1=>?_
   rw[c7r e]at hk
   have:l.length=2:=by simpa using hk.symm
   exact hnx _ _ ⟨w,_,rfl,e1,rfl,by rw[this];decide,s1⟩
  ·exists o4 (c7q (fun z=>e (V.str.inj z))) ?_
   refine D5 (by simp) fun w H1 hw e1 s1=>?_
   rw[c7q e]at hk
   have:¬l.length=2:=by
    intro z
    rw[z]at hk
    exact absurd hk (by decide)
   exact hnx _ _ ⟨w,_,rfl,e1,rfl,c3q (by omega),s1⟩
 rintro _ H1 ⟨w,ws,rfl,hw,fw,iw,s1⟩
 ext
 exists M4 (s1 _ _ hx) ?_
 rw[N6]
 refine a4y hw rfl fw ?_
 exists ⟨_,rfl,A7 iw ?_⟩
 specialize S8 (S0 ?_)
 refine⟨x,rfl,⟨_,SqL.of (s1 _ _ hx)⟩,fun D hD=>?_⟩
 refine P7 (xs:=IL l) (fun i ys H2=>ys=u0 i (V.bl true)/\H2 D=some (.lst ys)/\o6 H1 H2) ⟨rfl,c6,v0 hD⟩ ?_ ?_ ?_ ?_
 ·rintro i ys H2 ⟨_,h,_⟩
  exact h
 ·rintro i ys H2 _ ⟨_,_,s2⟩
  exact SqL.of (s2 _ _ (s1 _ _ hx))
 ·rintro i y ys H2 hy ⟨rfl,hD2,s2⟩ R hR
  have hy:(l.map fun(n:Nat)=>V.int (n:Int))[i]? = some y:=hy
  rw[b8]at hy
  cases ht:l[i]? with
  | none=>rw[ht]at hy;cases hy
  | some t=>
   rw[ht]at hy
   cases hy
   have hi:=(gI ht)
   have:=hlt t (mI ht)
   ext
   refine b0L (by omega) (by omega) ?_
   refine hR _ _ hD2 (E8 (by rw[z9];omega)) ⟨a7T i,c6,fun b o e=>?_⟩
   rw[c9 (c7 e hD)];exact s2 _ _ e
 ·rintro ys H2 ⟨rfl,hD2,s2⟩
  ext
  have e:u0 (IL l).length (V.bl true)=(u0 l.length true).map V.bl:=by rw[N6];simp
  rw[e]at hD2
  refine c4U hD2 ?_
  have:(u0 l.length true).all id=true:=by simp
  rw[this]
  exact k H2 (s1.trans s2)
theorem a8O{K:Fg}{E:XK}(hr:N5 H ra N)(hn:C8 H na N)(h400:N.length<=400)(h2:∀l∈N,l.length<=2)(hlt:∀l∈N,∀t∈l,t<N.length)(k:∀H',o6 H H'->Q .non H') :
  a0j K [.ref ra,.ref na] H Q E:=by
 obtain⟨rs,r1,r2,r3⟩:=id hr.ex
 obtain⟨as,a1,a2,a3⟩:=id hn.ex
 refine⟨rfl,?_⟩
 unfold a4v
 nofun
 exists a3C (s := "list") (by simp only[a2z,a1]) (by decide) ?_
 exists o4 (by decide) ?_
 exists M4 a1 ?_
 exists M4 r1 ?_
 exists o4 (by rw[a8,a8,r2,a2];simp) ?_
 specialize b0A (c2c ?_)
 refine⟨ra,na,rfl,⟨_,SqL.of r1⟩,⟨_,SqL.of a1⟩,fun D hD=>?_⟩
 refine b4k N.length (fun i ys H2=>ys=u0 i (V.bl true)/\H2 D=some (.lst ys)/\o6 H H2) ⟨rfl,c6,v0 hD⟩ ?_ ?_ ?_ ?_
 ·rintro i ys H2 ⟨_,h,_⟩
  exact h
 ·rintro ys H2 ⟨rfl,hD2,s2⟩
  exists ⟨⟨_,_,SqL.of (s2 _ _ r1),SqL.of (s2 _ _ a1),.inl (by rw[a8,r2];exact d9 _)⟩,?_⟩
  exact a4B hD2 fun H3 s3=>k H3 (s2.trans s3)
 ·rintro i ys H2 hi ⟨_,_,s2⟩
  have e1:rs[i]? = some (rs[i]'(by omega)):=by simp[r2,hi]
  have e2:as[i]? = some (as[i]'(by omega)):=by simp[a2,hi]
  exact⟨_,_,_,_,SqL.of (s2 _ _ r1),SqL.of (s2 _ _ a1),by rw[b8,e1];rfl,by rw[b8,e2];rfl⟩
 ·rintro i ys H2 hi ⟨rfl,hD2,s2⟩ x H3 ⟨p,y1,y2,hp,rfl,rfl,g1,g2⟩
  obtain⟨rx,e1⟩:∃rx,rs[i]? = some rx:=⟨_,d8 (by omega)⟩
  obtain⟨ax,e2⟩:∃ax,as[i]? = some ax:=⟨_,d8 (by omega)⟩
  have g1:=g1 _ (SqL.of (s2 _ _ r1))
  have g2:=g2 _ (SqL.of (s2 _ _ a1))
  rw[b8,e1]at g1
  rw[b8,e2]at g2
  cases g1
  cases g2
  refine⟨p,_,_,rfl,SqT.of c6,fun R S hR hS=>?_⟩
  have s3:o6 H2 (upd H2 p (.tup [V.ref rx,V.ref ax])):=v0 hp
  obtain⟨H3,hH3⟩:∃H3,H3=upd H2 p (.tup [V.ref rx,V.ref ax]):=⟨_,rfl⟩
  rw[<-hH3]at s3 ⊢
  ext
  exists A7 rfl ?_
  have s03:=s2.trans s3
  exists M4 (s03 _ _ r1) ?_
  have hl:=F1 hi
  rw[a8,r2]
  refine b1g ((r3 i _ _ e1 hl).ts (o6.ts s03)) (s03 _ _ (a3 i _ _ e2 hl)) (h2 _ (C9 hi)) (hlt _ (C9 hi)) fun H4 s4=>?_
  refine hR _ _ (s4 _ _ (s3 _ _ hD2)) (E8 (by rw[z9];omega)) ⟨a7T i,c6,fun b o e=>?_⟩
  rw[c9 (c7 e hD)];exact s4 _ _ (s03 _ _ e)
def a3L(N:Nt)(k:Nat):Bool:=(N.getD k []).isEmpty
def b0l(N:Nt):List Nat:=(y9 N.length).filter (a3L N)
theorem b5N{k:Nat}(h:N[k]? = some []):k∈b0l N:=by
 refine J7.mpr ⟨U7.mpr (gI h),?_⟩
 unfold a3L
 simp[L0,h]
theorem b1T{K:Fg}{E:XK}(hn:C8 H na N)(h400:N.length<=400)(k:∀a H',H a=none->H' a=some (.lst (IL (b0l N)))->o6 H H'->Q (.ref a) H'):a1J K [.ref na] H Q E:=by
 obtain⟨as,a1,a2,a3⟩:=id hn.ex
 refine⟨rfl,?_⟩
 unfold a7U
 ext
 specialize b0A (a4d ?_)
 refine⟨na,rfl,⟨_,SqL.of a1⟩,fun D hD=>?_⟩
 refine b4k N.length (fun i ys H2=>ys=IL ((y9 i).filter (a3L N))/\H2 D=some (.lst ys)/\o6 H H2) ⟨rfl,c6,v0 hD⟩ ?_ ?_ ?_ ?_
 ·rintro i ys H2 ⟨_,h,_⟩
  exact h
 ·rintro ys H2 ⟨rfl,hD2,s2⟩
  exact⟨⟨_,SqL.of (s2 _ _ a1),by rw[a8,a2];exact d9 _⟩,k D H2 hD hD2 s2⟩
 ·rintro i ys H2 hi ⟨_,_,s2⟩
  exact⟨_,_,SqL.of (s2 _ _ a1),by rw[b8,d8 (show i<as.length by omega)];rfl⟩
 ·rintro i ys H2 hi ⟨rfl,hD2,s2⟩ x H3 ⟨p,y,hp,rfl,rfl,g1⟩
  obtain⟨ax,e1⟩:∃ax,as[i]? = some ax:=⟨_,d8 (by omega)⟩
  have g1:=g1 _ (SqL.of (s2 _ _ a1))
  rw[b8,e1]at g1
  cases g1
  refine⟨p,_,_,rfl,SqT.of c6,fun R S hR hS=>?_⟩
  have s3:o6 H2 (upd H2 p (.tup [V.int (i:Int),V.ref ax])):=v0 hp
  obtain⟨H3,hH3⟩:∃H3,H3=upd H2 p (.tup [V.int (i:Int),V.ref ax]):=⟨_,rfl⟩
  rw[<-hH3]at s3 ⊢
  have s03:=s2.trans s3
  have hl:=F1 hi
  ext
  exists M4 (s03 _ _ (a3 i _ _ e1 hl)) ?_
  have hst:a3L N i=decide (V.int ((IL N[i]).length:Int)=V.int 0):=by
   rw[b2G,N6]
   unfold a3L
   simp only[L0,hl,a3m]
   cases N[i] with
   | nil=>rfl
   | cons a r=>
    rw[List.isEmpty_cons,eq_comm,decide_eq_false_iff_not,v9]
    omega
  rw[<-hst]
  cases hb:a3L N i with
  | true=>
   exists A7 rfl ?_
   refine hR _ _ (s3 _ _ hD2) (E8 ?_) ⟨?_,c6,fun b o e=>?_⟩
   ·rw[N6]
    have:=M0 (a3L N) (y9 i)
    rw[a3b]at this
    omega
   ·rw[a0q,a2f]
    unfold IL
    rw[B9]
    congr 1
    simp[hb]
   ·rw[c9 (c7 e hD)];exact s03 _ _ e
  | false=>
   refine o4 rfl ?_
   refine hS _ ⟨?_,s3 _ _ hD2,s03⟩
   rw[a0q,a2f]
   simp[hb]
theorem c1F{α:Type}{l:List α}(nd:l.Nodup){x:α}(h1:l[i]? = some x)(h2:l[j]? = some x):i=j:=
 (c1i (gI h1) nd).mp (h1.trans h2.symm)
structure a3O(H0 H:Hp)(a:Addr)(as:List Addr)(M:Nt):Prop where
 same:o6 H0 H
 h:H a=some (.lst (as.map V.ref))
 len:as.length=M.length
 nd:as.Nodup
 na:a∉as
 at_:∀(i:Nat) x l,as[i]? = some x->M[i]? = some l->H x=some (.lst (IL l))
 new:H0 a=none/\∀x∈as,H0 x=none
theorem a3O.next(h:a3O H0 H a as M)(s:o6 H H'):a3O H0 H' a as M:=
 ⟨h.same.trans s,s _ _ h.h,h.len,h.nd,h.na,fun i x l e1 e2=>s _ _ (h.at_ i x l e1 e2),h.new⟩
theorem a3O.add(h:a3O H0 H a as M){t p:Nat}{x:Addr}(e1:as[t]? = some x)(e2:M[t]? = some l) :
  a3O H0 (upd H x (.lst (IL (l++[p])))) a as (M.set t (l++[p])):=by
 have hx:=mI e1
 have hxa:x≠a:=fun z=>h.na (z ▸ hx)
 refine⟨fun b o e=>by rw[c9 (c7 e (h.new.2 x hx))];exact h.same b o e,by rw[c9 hxa.symm];exact h.h,by rw[W3];exact h.len,h.nd,h.na,fun i y l' f1 f2=>?_,h.new⟩
 by_cases e:i=t
 ·subst e
  rw[e1]at f1
  cases f1
  rw[F7 (gI e2)]at f2
  cases f2
  exact c6
 ·rw[J9 (Ne.symm e)]at f2
  have:y≠x:=by
   rintro rfl
   exact e (c1F h.nd f1 e1)
  rw[c9 this]
  exact h.at_ i y l' f1 f2
theorem a3O.net(h:a3O H0 H a as M):C8 H a M:=⟨as,h.h,h.len,h.at_⟩
theorem a3O.nil(n:H0 a=none)(s:o6 H0 H)(e:H a=some (.lst [])):a3O H0 H a [] []:=⟨s,e,rfl,by simp,by simp,by simp,n,by simp⟩
theorem a3O.snoc(h:a3O H0 H a as M)(hp:H p=none)(ep:H' p=some (.lst (IL [])))(s:o6 H H') :
  a3O H0 (upd H' a (.lst ((as++[p]).map V.ref))) a (as++[p]) (M++[[]]):=by
 have npa:p≠a:=(c7 h.h hp).symm
 have npas:p∉as:=fun z=>by
  obtain⟨i,hi⟩:=E4.mp z
  have hl:i<M.length:=by rw[<-h.len];exact(gI hi)
  have:=h.at_ i p _ hi (F1 hl)
  rw[hp]at this
  cases this
 have fr0:H0 p=none:=h.same.free hp
 refine⟨fun b o e=>by rw[c9 (c7 e h.new.1)];exact s _ _ (h.same b o e),c6,by simp[h.len],?_,?_,fun i x l f1 f2=>?_,h.new.1,fun x hx=>?_⟩
 ·rw[O5]
  exact⟨h.nd,by simp,fun x hx y hy=>by rw[f6.mp hy];intro z;exact npas (z ▸ hx)⟩
 ·intro z
  rcases o8.mp z with q | q
  ·exact h.na q
  ·exact npa (f6.mp q).symm
 ·rcases Y1 f1 with ⟨hi,g1⟩ | ⟨hi,g1⟩
  ·rcases Y1 f2 with ⟨hj,g2⟩ | ⟨hj,g2⟩
   ·have:x≠a:=fun z=>h.na (z ▸ mI g1)
    rw[c9 this]
    exact s _ _ (h.at_ i x l g1 g2)
   ·have:=h.len;omega
  ·rcases Y1 f2 with ⟨hj,g2⟩ | ⟨hj,g2⟩
   ·have:=h.len;omega
   ·subst g1 g2
    rw[c9 npa]
    exact ep
 ·rcases o8.mp hx with q | q
  ·exact h.new.2 x q
  ·rw[f6.mp q];exact fr0
theorem b9n{t u:Nat}{l':List Nat}(h:(M.set t l)[u]? = some l'):(u=t/\l'=l)\/(u≠t/\M[u]? = some l'):=by
 by_cases e:u=t
 ·subst e
  have hl:=(gI h)
  rw[W3]at hl
  rw[F7 hl]at h
  exact .inl ⟨rfl,(Option.some.inj h).symm⟩
 ·rw[J9 (Ne.symm e)]at h
  exact .inr ⟨e,h⟩
theorem b5k{K:Fg}{E:XK}(hn:C8 H na N)(h400:N.length<=400)(h2:∀l∈N,l.length<=2)(hlt:∀l∈N,∀t∈l,t<N.length)
  (k:∀a M H',C8 H' a M->M.length=N.length->(∀(p:Nat) (l:List Nat),N[p]? = some l->∀t∈l,∃l',M[t]? = some l'/\p∈l')->(∀l∈M,l.length<=2 * N.length/\∀p∈l,p<N.length)->o6 H H'->Q (.ref a) H'):a3X K [.ref na] H Q E:=by
 obtain⟨ns,a1,a2,a3⟩:=id hn.ex
 refine⟨rfl,?_⟩
 unfold b1L
 exact_mod_cast Q2 ?_
 specialize S8 (S0 ?_)
 refine⟨na,rfl,⟨_,SqL.of a1⟩,fun A hA=>?_⟩
 refine P7 (xs:=ns.map V.ref) (fun i ys H2=>∃as,ys=as.map V.ref/\a3O H H2 A as (u0 i [])) ?_ ?_ ?_ ?_ ?_
 ·exact⟨[],rfl,.nil hA (v0 hA) c6⟩
 ·rintro i ys H2 ⟨as,rfl,I⟩
  exact I.h
 ·rintro i ys H2 _ ⟨as,rfl,I⟩
  exact SqL.of (I.same _ _ a1)
 ·rintro i x ys H2 hx ⟨as,rfl,I⟩ R hR
  have hi:i<N.length:=by
   have:=(gI hx)
   rw[a8,a2]at this
   exact this
  ext
  refine D5 (by simp) fun p H3 hp e3 s3=>?_
  have:=I.len
  rw[z9]at this
  refine hR _ _ (s3 _ _ I.h) (E8 (by rw[a8];omega)) ⟨as++[p],by simp,?_⟩
  have q:=I.snoc hp e3 s3
  rw[show u0 i ([]:List Nat)++[[]]=u0 (i+1) [] from by rw[a1o]]at q
  rw[show as.map V.ref++[V.ref p]=(as++[p]).map V.ref by simp]
  exact q
 rintro ys H2 ⟨as,rfl,I2⟩
 rw[a8,a2]at I2
 ext
 exact_mod_cast Q2 ?_
 specialize Y6 (a4d ?_)
 refine⟨na,rfl,⟨_,SqL.of (I2.same _ _ a1)⟩,?_⟩
 refine a9V N.length (fun i σ H3=>∃x2 x3 x4 M,σ=[some (.ref na),some (.ref A),x2,x3,x4]/\a3O H H3 A as M/\M.length=N.length/\(∀(p:Nat) (l:List Nat),p<i->N[p]? = some l->∀t∈l,∃l',M[t]? = some l'/\p∈l')/\(∀l∈M,l.length<=2 * i/\∀p∈l,p<N.length)) ?_ ?_ ?_ ?_
 ·exact⟨_,_,_,_,rfl,I2,by simp,by omega,fun l hl=>by rw[List.eq_of_mem_replicate hl];simp⟩
 ·rintro _ H3 ⟨x2,x3,x4,M,rfl,I3,lM,g1,g2⟩
  exists ⟨⟨_,SqL.of (I3.same _ _ a1),by rw[a8,a2];exact d9 _⟩,?_⟩
  exact k A M H3 I3.net lM (fun p l hl=>g1 p l (gI hl) hl) g2 I3.same
 ·rintro i _ H3 hi ⟨x2,x3,x4,M,rfl,I3,lM,g1,g2⟩
  exact⟨_,_,SqL.of (I3.same _ _ a1),by rw[b8,d8 (show i<ns.length by omega)];rfl⟩
 ·rintro i _ H3 hi ⟨x2,x3,x4,M,rfl,I3,lM,g1,g2⟩ x H4 ⟨p,y,hp,rfl,rfl,gy⟩
  obtain⟨nx,e1⟩:∃nx,ns[i]? = some nx:=⟨_,d8 (by omega)⟩
  have gy:=gy _ (SqL.of (I3.same _ _ a1))
  rw[b8,e1]at gy
  cases gy
  refine a7B (SqT.of c6) ?_
  have s4:o6 H3 (upd H3 p (.tup [V.int (i:Int),V.ref nx])):=v0 hp
  obtain⟨H4,hH4⟩:∃H4,H4=upd H3 p (.tup [V.int (i:Int),V.ref nx]):=⟨_,rfl⟩
  rw[<-hH4]at s4 ⊢
  have I4:=I3.next s4
  have hl:=F1 hi
  obtain⟨l,hle⟩:∃l,l=N[i]:=⟨_,rfl⟩
  rw[<-hle]at hl
  have hx:H nx=some (.lst (IL l)):=a3 i nx l e1 hl
  have hll:=h2 l (mI hl)
  specialize Y6 (S0 ?_)
  refine⟨nx,rfl,⟨_,SqL.of (I4.same _ _ hx)⟩,a2q (xs:=IL l) (fun j σ H5=>∃x4 M',σ=[some (.ref na),some (.ref A),some (.int (i:Int)),some (.ref nx),x4]/\a3O H H5 A as M'/\M'.length=N.length/\(∀(p:Nat) (l:List Nat),p<i->N[p]? = some l->∀t∈l,∃l',M'[t]? = some l'/\p∈l')/\(∀t∈l.take j,∃l',M'[t]? = some l'/\i∈l')/\(∀l∈M',l.length<=2 * i+j/\∀p∈l,p<N.length)) ?_ ?_ ?_ ?_⟩
  ·exact⟨_,M,rfl,I4,lM,g1,by simp,g2⟩
  ·rintro j σ H5 _ ⟨_,_,_,I5,_⟩
   exact SqL.of (I5.same _ _ hx)
  ·rintro j y _ H5 hy ⟨x4,M',rfl,I5,lM',c1,c2,c3⟩
   have hy:(l.map fun(n:Nat)=>V.int (n:Int))[j]? = some y:=hy
   rw[b8]at hy
   cases ht:l[j]? with
   | none=>rw[ht]at hy;cases hy
   | some t=>
    rw[ht]at hy
    cases hy
    have tm:=mI ht
    have hj:=(gI ht)
    have htn:t<N.length:=hlt l (mI hl) t tm
    ext
    obtain⟨z,hz⟩:∃z,as[t]? = some z:=⟨_,d8 (by have:=I5.len;omega)⟩
    have hMt:=F1 (show t<M'.length by omega)
    have hMz:=I5.at_ t z _ hz hMt
    specialize b3B ?_
    refine D9 I5.h (J5 (by rw[b8,hz];rfl)) ?_
    exists ⟨a1I hMz,?_⟩
    have hb:=c3 _ (C9 (show t<M'.length by omega))
    refine a5I hMz (E8 (by rw[N6];omega)) ?_
    refine⟨_,M'.set t (M'[t]++[i]),rfl,?_,by rw[W3];exact lM',?_,?_,?_⟩
    ·have:=I5.add (p:=i) hz hMt
     rw[show IL M'[t]++[V.int (i:Int)]=IL (M'[t]++[i]) by simp[IL]]
     exact this
    ·intro p' l' hp' hl' u hu
     obtain⟨l'',q1,q2⟩:=c1 p' l' hp' hl' u hu
     by_cases e:u=t
     ·subst e
      rw[hMt]at q1
      cases q1
      exact⟨_,F7 (by omega),A5 _ q2⟩
     ·exact⟨l'',by rw[J9 (Ne.symm e)];exact q1,q2⟩
    ·intro u hu
     rw[E6,ht]at hu
     by_cases e:u=t
     ·subst e
      exact⟨_,F7 (by omega),by simp⟩
     ·rcases o8.mp hu with q | q
      ·obtain⟨l'',q1,q2⟩:=c2 u q
       exact⟨l'',by rw[J9 (Ne.symm e)];exact q1,q2⟩
      ·exact absurd (by simpa using q) e
    ·intro l' hl'
     obtain⟨u,hu⟩:=E4.mp hl'
     rcases b9n hu with ⟨_,rfl⟩ | ⟨_,q⟩
     ·refine⟨by rw[o9,D3];omega,fun p' hp'=>?_⟩
      rcases o8.mp hp' with q | q
      ·exact hb.2 p' q
      ·rw[f6.mp q];exact hi
     ·obtain⟨r1,r2⟩:=c3 l' (mI q)
      exact⟨by omega,r2⟩
  ·rintro _ H5 ⟨x4,M',rfl,I5,lM',c1,c2,c3⟩
   rw[N6,M7]at c2
   refine⟨_,_,x4,M',rfl,I5,lM',fun p' l' hp' hl' t ht=>?_,fun l' hl'=>?_⟩
   ·by_cases e:p'=i
    ·subst e
     rw[hl]at hl'
     cases hl'
     exact c2 t ht
    ·exact c1 p' l' (by omega) hl' t ht
   ·obtain⟨r1,r2⟩:=c3 l' hl'
    rw[N6]at r1
    exact⟨by omega,r2⟩
theorem a8o{K:Fg}{ba la:Addr}{bs:List Nat}{B:Nat}{E:XK}(hb:H ba=some (.lst (IL bs)))(hm:C8 H la M)(h400:M.length<=400)(hB:B<=800)(hl:∀l∈M,l.length<=B/\∀t∈l,t<M.length)(hbs:∀x∈bs,x<M.length)(lb:bs.length<=400)
  (k:∀d S H',H' d=some (.dK (KS S))->S.Nodup->(∀x∈S,x<M.length)->(∀x∈bs,x∈S)->a5j M S->o6 H H'->Q (.ref d) H'):a1w K [.ref ba,.ref la] H Q E:=by
 refine⟨rfl,?_⟩
 unfold a9J
 nofun
 exists a6A fun d H1 hd e1 s1=>?_
 nofun
 exists a5H (s1 _ _ hb) fun w H2 hw e2 s2=>?_
 have s02:=s1.trans s2
 have hw0:H w=none:=s1.free hw
 have ndw:d≠w:=c7 e1 hw
 exact_mod_cast Q2 ?_
 exact_mod_cast b0w ?_
 refine⟨fun m σ H3=>∃x4 ws S,σ=[some (.ref ba),some (.ref la),some (.ref d),some (.ref w),x4]/\H3 w=some (.lst (IL ws))/\H3 d=some (.dK (KS S))/\o6 H H3/\S.Nodup/\(∀x∈S,x<M.length)/\(∀x∈ws,x<M.length) /\
  (∀x∈bs,x∈S\/x∈ws)/\(∀k∈S,∀l,M[k]? = some l->∀t∈l,t∈S\/t∈ws)/\ws.length<=400+S.length * B/\m=(M.length - S.length) * (B+1)+ws.length,?_,?_⟩
 ·exact⟨_,_,bs,[],rfl,e2,s2 _ _ e1,s02,by simp,by simp,hbs,fun x hx=>.inr hx,by simp,by omega,rfl⟩
 rintro m _ H3 ⟨x4,ws,S,rfl,hw3,hd3,s3,nd,hS,hws,c1,c2,c3,rfl⟩
 ext
 exists M4 hw3 ?_
 have hSl:=a5P _ _ nd hS
 rcases b3o ws with rfl | ⟨r,p,rfl⟩
 ·exists o4 (c7q (by rw[N6];simp)) ?_
  refine k d S H3 hd3 nd hS (fun x hx=>(c1 x hx).elim id fun z=>by simp at z) (fun a ha l hl' t ht=>(c2 a ha l hl' t ht).elim id fun z=>by simp at z) s3
 refine A7 (c7r (by rw[N6,o9,D3];omega)) ?_
 have hp:p<M.length:=hws p (by simp)
 have eIL:IL (r++[p])=IL r++[V.int (p:Int)]:=by simp[IL]
 rw[eIL]at hw3
 refine⟨fun σ H4=>∃m' x4 ws S',σ=[some (.ref ba),some (.ref la),some (.ref d),some (.ref w),x4]/\H4 w=some (.lst (IL ws))/\H4 d=some (.dK (KS S'))/\o6 H H4/\S'.Nodup/\(∀x∈S',x<M.length)/\(∀x∈ws,x<M.length) /\
  (∀x∈bs,x∈S'\/x∈ws)/\(∀k∈S',∀l,M[k]? = some l->∀t∈l,t∈S'\/t∈ws)/\ws.length<=400+S'.length * B/\m'=(M.length - S'.length) * (B+1)+ws.length/\m'<(M.length - S.length) * (B+1)+(r++[p]).length,?_,?_⟩
 ·rintro σ' H4 ⟨m',x4,ws,S',e,r1,r2,r3,r4,r5,r6,r7,r8,r9,r10,r11⟩
  exact⟨m',r11,x4,ws,S',e,r1,r2,r3,r4,r5,r6,r7,r8,r9,r10⟩
 nofun
 specialize c4F ?_
 exists ⟨a1I hw3,c4P hw3 ?_⟩
 have sW:o6 H (upd H3 w (.lst (IL r))):=fun b o e=>by rw[c9 (c7 e hw0)];exact s3 b o e
 have hdW:(upd H3 w (.lst (IL r))) d=some (.dK (KS S)):=by rw[c9 ndw];exact hd3
 have hwW:(upd H3 w (.lst (IL r))) w=some (.lst (IL r)):=c6
 obtain⟨H4,hH4⟩:∃H4,H4=upd H3 w (.lst (IL r)):=⟨_,rfl⟩
 rw[<-hH4]at sW hdW hwW ⊢
 rw[o9,D3]at c3 ⊢
 specialize a3z ?_
 obtain⟨o,g1,g2⟩:=a4g hdW p
 refine⟨d,o,rfl,g1,?_⟩
 rw[g2]
 ext
 by_cases hps:p∈S
 ·exists o4 (by rw[c7r hps];rfl) ?_
  refine⟨_,_,r,S,rfl,hwW,hdW,sW,nd,hS,fun x hx=>hws x (A5 _ hx),fun x hx=>?_,fun a ha l hl' t ht=>?_,by omega,rfl,by omega⟩
  ·rcases c1 x hx with z | z
   ·exact .inl z
   ·rcases o8.mp z with q | q
    ·exact .inr q
    ·exact .inl (f6.mp q ▸ hps)
  ·rcases c2 a ha l hl' t ht with z | z
   ·exact .inl z
   ·rcases o8.mp z with q | q
    ·exact .inr q
    ·exact .inl (f6.mp q ▸ hps)
 refine A7 (by rw[c7q hps];rfl) ?_
 obtain⟨xs,y,f1,f2,f3,_⟩:=(hm.same sW).at (F1 hp)
 obtain⟨l,hle⟩:∃l,l=M[p]:=⟨_,rfl⟩
 have hlp:M[p]? = some l:=by rw[hle];exact F1 hp
 rw[<-hle]at f3
 obtain⟨b1,b2⟩:=hl l (mI hlp)
 have hput:a3E S p=S++[p]:=by unfold a3E;rw[if_neg hps]
 have hS1:S.length<M.length:=by
  have:=a5P _ _ (a7D (k:=p) nd) fun x hx=>(W6.mp hx).elim (hS x) fun z=>z ▸ hp
  rw[hput,o9,D3]at this
  omega
 exact_mod_cast Q2 ?_
 specialize a2K ?_
 refine⟨d,_,rfl,b0S hdW (by omega) p,?_⟩
 rw[hput]
 obtain⟨H5,hH5⟩:∃H5,H5=upd H4 d (.dK (KS (S++[p]))):=⟨_,rfl⟩
 have hd5:H5 d=some (.dK (KS (S++[p]))):=hH5 ▸ c6
 have oth:∀b o,H4 b=some o->b≠d->H5 b=some o:=fun b o e n=>by rw[hH5,c9 n];exact e
 have s5:o6 H H5:=fun b o e=>oth b o (sW b o e) (c7 e hd)
 rw[<-hH5]
 have hw5:=oth w _ hwW (Ne.symm ndw)
 have fx5:=oth _ _ f1 (G0 f1 hdW (by intro z;cases z))
 have fy5:=oth _ _ f3 (G0 f3 hdW (by intro z;cases z))
 ext
 specialize b3B ?_
 exists ⟨a1I hw5,?_⟩
 refine D9 fx5 f2 ?_
 have hSB:S.length * B<=400 * 800:=Nat.mul_le_mul (by omega) hB
 ext
 refine b2g hw5 fy5 (big (by rw[N6,N6];omega)) ?_
 have e6:IL r++IL l=IL (r++l):=by simp[IL]
 rw[e6]
 ext
 have key:(M.length - (S.length+1)) * (B+1)+(B+1)=(M.length - S.length) * (B+1):=by
  rw[<-Nat.succ_mul]
  congr 1
  omega
 refine⟨_,_,r++l,S++[p],rfl,c6,by rw[c9 ndw];exact hd5,fun b o e=>by rw[c9 (c7 e hw0)];exact s5 b o e,hput ▸ a7D nd,fun x hx=>?_,fun x hx=>?_,fun x hx=>?_,fun a ha l' hl' t ht=>?_,?_,rfl,?_⟩
 ·rcases o8.mp hx with q | q
  ·exact hS x q
  ·rw[f6.mp q];exact hp
 ·rcases o8.mp hx with q | q
  ·exact hws x (A5 _ q)
  ·exact b2 x q
 ·rcases c1 x hx with z | z
  ·exact .inl (A5 _ z)
  ·rcases o8.mp z with q | q
   ·exact .inr (A5 _ q)
   ·exact .inl (t6 _ q)
 ·rcases o8.mp ha with q | q
  ·rcases c2 a q l' hl' t ht with z | z
   ·exact .inl (A5 _ z)
   ·rcases o8.mp z with u | u
    ·exact .inr (A5 _ u)
    ·exact .inl (t6 _ u)
  ·rw[f6.mp q,hlp]at hl'
   cases hl'
   exact .inr (t6 _ ht)
 ·rw[o9,o9,D3,Nat.succ_mul]
  omega
 ·rw[o9,o9,D3]
  omega
theorem a9s{K:Fg}{E:XK}(hn:C8 H na N)(hv:a0s N)(k:∀H',o6 H H'->Q .non H'):a0D K [.ref na] H Q E:=by
 refine⟨rfl,?_⟩
 unfold a5s
 nofun
 exists D5 (by simp) fun p1 H1 hp1 e1 s1=>?_
 exists a8o (bs:=[0]) (B:=2) e1 (hn.same s1) hv.le (by decide) (fun l hl=>⟨hv.two l hl,hv.lt l hl⟩) (by simpa using hv.pos) (by simp) fun d1 S1 H2 hd1 nd1 hS1 hb1 cl1 s2=>?_
 have in1:∀x,Rc N x->x∈S1:=by
  intro x h
  induction h with
  | zero=>exact hb1 0 (by simp)
  | @step a t l _ hl ht ih=>exact cl1 a ih l hl t ht
 nofun
 exists b1T ((hn.same s1).same s2) hv.le fun sa H3 _ e3 s3=>?_
 exists b5k (((hn.same s1).same s2).same s3) hv.le hv.two hv.lt fun ta M H4 m4 lM hM1 hM2 s4=>?_
 have lst:(b0l N).length<=N.length:=by
  have:=M0 (a3L N) (y9 N.length)
  rwa [a3b]at this
 have hle:=hv.le
 refine a8o (bs:=b0l N) (B:=2 * N.length) (s4 _ _ e3) m4 (by omega) (by omega) (fun l hl=>⟨(hM2 l hl).1,by rw[lM];exact(hM2 l hl).2⟩) (fun x hx=>by
  rw[lM]
  exact U7.mp (J7.mp hx).1) (by omega) fun d2 S2 H5 hd2 nd2 hS2 hb2 cl2 s5=>?_
 have in2:∀x,Gd N x->x∈S2:=by
  intro x h
  induction h with
  | @stop a h=>exact hb2 a (b5N h)
  | @step a t l h ht _ ih=>
   obtain⟨l',q1,q2⟩:=hM1 a l h t ht
   exact cl2 t ih l' q1 a q2
 have s05:=(((s1.trans s2).trans s3).trans s4).trans s5
 have hd1':H5 d1=_:=s5 _ _ (s4 _ _ (s3 _ _ hd1))
 obtain⟨ys,hy,ly⟩:=(hn.same s05).len
 ext
 specialize Y6 (a0l ?_)
 refine M4 hy ?_
 refine⟨N.length,by rw[ly],by omega,by omega,?_⟩
 rw[u4]
 refine X7 (fun i σ H6=>∃x3,σ=[some (.ref na),some (.ref d1),some (.ref d2),x3]/\H6=H5) ⟨_,rfl,rfl⟩ ?_ ?_
 ·rintro i _ H6 hi ⟨x3,rfl,rfl⟩
  ext
  rw[U1]
  specialize a3z ?_
  obtain⟨o,g1,g2⟩:=a4g hd1' i
  refine⟨d1,o,rfl,g1,?_⟩
  rw[g2,c7r (in1 i (hv.rc i hi))]
  ext
  exists o4 rfl ?_
  specialize a3z ?_
  obtain⟨o',g1',g2'⟩:=a4g hd2 i
  refine⟨d2,o',rfl,g1',?_⟩
  rw[g2',c7r (in2 i (hv.gd i hi))]
  ext
  exists o4 rfl ?_
  exact⟨_,rfl,rfl⟩
 ·rintro _ H6 ⟨x3,rfl,rfl⟩
  exact k _ s05
abbrev Stp:=Int×Int
variable{s:Stp}
def FST:Stp:=(-1,0)
def a2D(N:Nt)(p:Nat):List Stp:=(y9 (N.getD p []).length).map fun(a:Nat)=>((p:Int),(a:Int))
def a4M(N:Nt)(i:Nat):List Stp:=FST::(y9 i).flatMap (a2D N)
def a1v(N:Nt):List Stp:=a4M N N.length
def a3K(N:Nt)(s:Stp):Nat:=if s=FST then 0 else (N.getD s.1.toNat []).getD s.2.toNat 0
theorem a7j(N:Nt)(i:Nat):a4M N (i+1)=a4M N i++a2D N i:=by
 unfold a4M
 rw[a0q,List.flatMap_append]
 simp
def b4q(N:Nt)(s:Stp):Prop:=s=FST\/∃(p q:Nat) (l:List Nat) (t:Nat),s=((p:Int),(q:Int))/\N[p]? = some l/\l[q]? = some t
theorem b5S(h:s∈a1v N):b4q N s:=by
 rcases c8.mp h with z | z
 ·exact .inl z
 ·obtain⟨p,hp,q⟩:=List.mem_flatMap.mp z
  have hp:=U7.mp hp
  obtain⟨a,ha,rfl⟩:=u8.mp q
  have ha:=U7.mp ha
  have e:N.getD p []=N[p]:=by simp[L0,hp]
  rw[e]at ha
  exact .inr ⟨p,a,N[p],N[p][a],rfl,F1 hp,by simp⟩
theorem c0H(hv:a0s N)(h:b4q N s):a3K N s<N.length:=by
 unfold a3K
 rcases h with rfl | ⟨p,q,l,t,rfl,h1,h2⟩
 ·rw[if_pos rfl];exact hv.pos
 ·split
  ·exact hv.pos
  ·have:(N.getD ((p:Int),(q:Int)).1.toNat []).getD ((p:Int),(q:Int)).2.toNat 0=t:=by
    show(N.getD (p:Int).toNat []).getD (q:Int).toNat 0=t
    rw[u4,u4]
    simp[L0,h1,h2]
   rw[this]
   exact hv.lt l (mI h1) t (mI h2)
def a3i(K:Fg)(H:Hp)(a:Addr)(s:Stp):Prop:=H a=some (.tup [.int s.1,.int s.2])\/(s=FST/\∀H,SqT K H a [.int (-1),.int 0])
theorem a3i.ts{K:Fg}(h:a3i K H a s)(t:O1 H H'):a3i K H' a s:=by
 rcases h with h | h
 ·exact .inl (t _ _ h)
 ·exact .inr h
theorem a3i.sq{K:Fg}(h:a3i K H a s):SqT K H a [.int s.1,.int s.2]:=by
 rcases h with h | ⟨e,h⟩
 ·exact SqT.of h
 ·subst e;exact h H
structure a0p(K:Fg)(H:Hp)(l:Addr)(S:List Stp):Prop where
 ex:∃vs:List Addr,H l=some (.lst (vs.map V.ref))/\vs.length=S.length/\∀(i:Nat) x s,vs[i]? = some x->S[i]? = some s->a3i K H x s
theorem a0p.same{K:Fg}{l:Addr}{S:List Stp}(h:a0p K H l S)(s:o6 H H'):a0p K H' l S:=by
 obtain⟨vs,h1,h2,h3⟩:=h.ex
 exact⟨vs,s _ _ h1,h2,fun i x t e1 e2=>(h3 i x t e1 e2).ts (o6.ts s)⟩
theorem a0p.put{K:Fg}{l y:Addr}{S:List Stp}(h:a0p K H l S)(hy:H y=some (.lst xs))(n:l≠y):a0p K (upd H y (.lst ys)) l S:=by
 obtain⟨vs,h1,h2,h3⟩:=h.ex
 exact⟨vs,by rw[c9 n];exact h1,h2,fun i x t e1 e2=>(h3 i x t e1 e2).ts (O1.put hy)⟩
theorem b1U{K:Fg}{c:Cn}{E:XK}(ck:a3Q K c)(hn:C8 H na N)(h400:N.length<=400)(h2:∀l∈N,l.length<=2)
  (k:∀a H',H a=none->a0p K H' a (a1v N)->o6 H H'->Q (.ref a) H'):a1K K c [.ref na] H Q E:=by
 obtain⟨ns,a1,a2,a3⟩:=id hn.ex
 refine⟨rfl,?_⟩
 unfold a7V
 nofun
 exists D5 (by simp) fun D H1 hD e1 s1=>?_
 exact_mod_cast Q2 ?_
 specialize Y6 (a4d ?_)
 refine⟨na,rfl,⟨_,SqL.of (s1 _ _ a1)⟩,?_⟩
 refine a9V N.length (fun i σ H2=>∃x2 x3 vs,σ=[some (.ref na),some (.ref D),x2,x3]/\H2 D=some (.lst ((vs:List Addr).map V.ref))/\vs.length=(a4M N i).length/\vs.length<=1+2 * i/\(∀(j:Nat) x s,vs[j]? = some x->(a4M N i)[j]? = some s->a3i K H2 x s)/\o6 H H2) ?_ ?_ ?_ ?_
 ·refine⟨_,_,[c.R6],rfl,e1,rfl,by simp,fun j x s f1 f2=>?_,s1⟩
  cases j with
  | zero=>
   cases f1
   cases f2
   exact .inr ⟨rfl,ck.a3c⟩
  | succ j=>simp at f1
 ·rintro _ H2 ⟨x2,x3,vs,rfl,hD2,lv,_,at2,s2⟩
  exists ⟨⟨_,SqL.of (s2 _ _ a1),by rw[a8,a2];exact d9 _⟩,?_⟩
  exact k D H2 hD ⟨vs,hD2,lv,at2⟩ s2
 ·rintro i _ H2 hi ⟨x2,x3,vs,rfl,hD2,lv,_,at2,s2⟩
  exact⟨_,_,SqL.of (s2 _ _ a1),by rw[b8,d8 (show i<ns.length by omega)];rfl⟩
 ·rintro i _ H2 hi ⟨x2,x3,vs,rfl,hD2,lv,lv2,at2,s2⟩ x H3 ⟨p,y,hp,rfl,rfl,gy⟩
  obtain⟨nx,f1⟩:∃nx,ns[i]? = some nx:=⟨_,d8 (by omega)⟩
  have gy:=gy _ (SqL.of (s2 _ _ a1))
  rw[b8,f1]at gy
  cases gy
  refine a7B (SqT.of c6) ?_
  have s3:o6 H2 (upd H2 p (.tup [V.int (i:Int),V.ref nx])):=v0 hp
  obtain⟨H3,hH3⟩:∃H3,H3=upd H2 p (.tup [V.int (i:Int),V.ref nx]):=⟨_,rfl⟩
  rw[<-hH3]at s3 ⊢
  have s03:=s2.trans s3
  have hl:=F1 hi
  obtain⟨l,hle⟩:∃l,l=N[i]:=⟨_,rfl⟩
  rw[<-hle]at hl
  have hll:=h2 l (mI hl)
  have hx:=s03 _ _ (a3 i nx l f1 hl)
  ext
  specialize b3B ?_
  exists ⟨a1I (s3 _ _ hD2),?_⟩
  specialize S8 (a0l ?_)
  refine M4 hx ?_
  rw[N6]
  refine⟨l.length,rfl,by omega,by omega,fun A hA=>?_⟩
  rw[u4]
  refine a3N (fun j ys H4=>∃ws:List Addr,ys=ws.map V.ref/\ws.length=j/\(∀(q:Nat) x,ws[q]? = some x->H4 x=some (.tup [.int (i:Int),.int (q:Int)]))/\H4 A=some (.lst ys)/\o6 H3 H4) ?_ ?_ ?_ ?_
  ·exact⟨[],rfl,rfl,by simp,c6,v0 hA⟩
  ·rintro j ys H4 ⟨_,_,_,_,h,_⟩
   exact h
  ·rintro j ys H4 hj ⟨ws,rfl,lw,at4,hA4,s4⟩ R hR
   ext
   refine D5 (by simp) fun z H5 hz e5 s5=>?_
   rw[U1]at e5
   have nzA:z≠A:=(c7 hA4 hz).symm
   refine hR _ _ (s5 _ _ hA4) (E8 (by rw[a8];omega)) ⟨ws++[z],by simp,by simp[lw],fun q x hq=>?_,c6,fun b o e=>?_⟩
   ·rcases Y1 hq with ⟨_,g⟩ | ⟨hq',g⟩
    ·have:=s5 _ _ (at4 q x g)
     rw[c9 (G0 this (s5 _ _ hA4) (by intro z;cases z))]
     exact this
    ·subst g
     rw[c9 nzA,e5,hq',lw]
   ·rw[c9 (c7 e hA)];exact s5 _ _ (s4 _ _ e)
  ·rintro ys H4 ⟨ws,rfl,lw,at4,hA4,s4⟩
   ext
   have hD4:H4 D=_:=s4 _ _ (s3 _ _ hD2)
   have s04:=s03.trans s4
   refine b2g hD4 hA4 (big (by rw[a8,a8];omega)) ?_
   rw[<-B9]
   have hon:a2D N i=(y9 l.length).map fun(a:Nat)=>((i:Int),(a:Int)):=by
    unfold a2D
    simp[L0,hl]
   have hU:=a7j N i
   have lon:(a2D N i).length=l.length:=by rw[hon];simp
   refine⟨_,_,vs++ws,rfl,c6,by rw[hU,o9,o9,lv,lw,lon],by rw[o9];omega,fun j x s g1 g2=>?_,fun b o e=>?_⟩
   ·rw[hU]at g2
    by_cases hj:j<vs.length
    ·rw[v8 hj]at g1
     rw[v8 (by omega)]at g2
     exact((at2 j x s g1 g2).ts (o6.ts (s3.trans s4))).ts (O1.put hD4)
    ·rw[F2 (by omega)]at g1
     rw[F2 (by omega),<-lv,hon,b8]at g2
     have hq:j - vs.length<l.length:=by
      have:=(gI g1)
      omega
     rw[a6e hq]at g2
     cases g2
     have:=at4 _ _ g1
     exact .inl (by rw[c9 (G0 this hD4 (by intro z;cases z))];exact this)
   ·rw[c9 (c7 e hD)];exact s04 _ _ e
def b8J(c:Cn)(H:Hp)(x:Addr)(N:Nt):Prop:=∃dx fs n,H x=some (.ins c.G7 dx fs)/\fs.lookup ("nexts" : Str)=some (V.ref n)/\C8 H n N
theorem eq2(p q:Int):a0C [.int p,.int q] [.int (-1),.int 0]=decide ((p,q)=FST):=by
 unfold a0C
 simp only[v9,a4s,Nat.zero_add,Nat.reduceAdd,Nat.min_self]
 rw[show y9 2=[0,1] from rfl]
 simp only[Q0,b4V,c5w,L0,a3q,List.getElem?_cons_succ,a3m,beq_self_eq_true]
 unfold FST
 by_cases h:p = -1
 ·by_cases h':q=0
  ·subst h h';decide
  ·subst h
   simp[eqV,h']
 ·simp[eqV,h]
theorem b2y{K:Fg}{c:Cn}{x:Addr}{E:XK}(ck:a3Q K c)(hp:b8J c H x N)(ha:a3i K H a s)(hs:b4q N s)(k:Q (.int (a3K N s:Nat)) H):X5 K c [.ref x,.ref a] H Q E:=by
 refine⟨rfl,?_⟩
 unfold a3h
 nofun
 refine⟨_,_,_,_,rfl,rfl,ha.sq,ck.a3c H,rfl,rfl,?_⟩
 rw[eq2]
 ext
 by_cases e:s=FST
 ·exists A7 (c7r e) ?_
  unfold a3K at k
  rw[if_pos e]at k
  exact k
 ·exists o4 (c7q e) ?_
  rcases hs with z | ⟨p,q,l,t,rfl,h1,h2⟩
  ·exact(e z).elim
  rcases ha with ha | ⟨z,_⟩
  rotate_left
  ·exact(e z).elim
  obtain⟨dx,fs,n,hx,hf,hn⟩:=hp
  specialize a1b ?_
  exists ⟨x,_,dx,fs,_,rfl,hx,ck.J4,ck.L8,hf,?_⟩
  refine z5 ha (Q5 _ _) ?_
  obtain⟨xs,y,f1,f2,f3,_⟩:=hn.at h1
  exists D9 f1 f2 ?_
  refine z5 ha (a0o _ _ _) ?_
  refine D9 f3 (c1J h2) ?_
  have:a3K N ((p:Int),(q:Int))=t:=by
   unfold a3K
   rw[if_neg e]
   show(N.getD (p:Int).toNat []).getD (q:Int).toNat 0=t
   rw[u4,u4]
   simp[L0,h1,h2]
  rw[this]at k
  exact k
structure b8P(K:Fg)(H0 H:Hp)(e:Addr)(es:List Addr)(P:List (List Stp)):Prop where
 same:o6 H0 H
 h:H e=some (.lst (es.map V.ref))
 len:es.length=P.length
 nd:es.Nodup
 na:e∉es
 at_:∀(i:Nat) y S,es[i]? = some y->P[i]? = some S->a0p K H y S
 new:H0 e=none/\∀y∈es,H0 y=none
theorem b8P.add{K:Fg}{e:Addr}{es:List Addr}{P:List (List Stp)}(h:b8P K H0 H e es P){t:Nat}{y:Addr}{S:List Stp}{vs:List Addr}(e1:es[t]? = some y)(e2:P[t]? = some S)(hy:H y=some (.lst (vs.map V.ref)))
  (lv:vs.length=S.length) (at2:∀(i:Nat) x s,vs[i]? = some x->S[i]? = some s->a3i K H x s) (ha:a3i K H a s):b8P K H0 (upd H y (.lst ((vs++[a]).map V.ref))) e es (P.set t (S++[s])):=by
 have hm:=mI e1
 have ye:y≠e:=fun z=>h.na (z ▸ hm)
 refine⟨fun b o q=>by rw[c9 (c7 q (h.new.2 y hm))];exact h.same b o q,by rw[c9 ye.symm];exact h.h,by rw[W3];exact h.len,h.nd,h.na,fun i z S' f1 f2=>?_,h.new⟩
 by_cases q:i=t
 ·subst q
  rw[e1]at f1
  cases f1
  rw[F7 (gI e2)]at f2
  cases f2
  refine⟨vs++[a],c6,by simp[lv],fun j x s' g1 g2=>?_⟩
  rcases Y1 g1 with ⟨_,k1⟩ | ⟨j1,k1⟩
  ·rcases Y1 g2 with ⟨_,k2⟩ | ⟨j2,k2⟩
   ·exact(at2 j x s' k1 k2).ts (O1.put hy)
   ·omega
  ·rcases Y1 g2 with ⟨_,k2⟩ | ⟨j2,k2⟩
   ·omega
   ·subst k1 k2
    exact ha.ts (O1.put hy)
 ·rw[J9 (Ne.symm q)]at f2
  have:z≠y:=by
   rintro rfl
   exact q (c1F h.nd f1 e1)
  exact(h.at_ i z S' f1 f2).put hy this
structure c5Z(K:Fg)(c:Cn)(H:Hp)(x:Addr)(N:Nt):Prop where
 ex:∃dx r n e es,H x=some (.ins c.G7 dx [("rows",.ref r),("nexts",.ref n),("entries",.ref e)])/\N5 H r N/\C8 H n N/\H e=some (.lst ((es:List Addr).map V.ref))/\es.length=N.length /\
  ∀(t:Nat) y,es[t]? = some y->a0p K H y ((a1v N).filter fun s=>decide (a3K N s=t))
structure a4C(K:Fg)(c:Cn)(Z:Addr->Prop)(rs:List Addr)(H:Hp)(x:Addr)(N:Nt):Prop where
 ex:∃dx r n e es ns,H x=some (.ins c.G7 dx [("rows",.ref r),("nexts",.ref n),("entries",.ref e)])/\(N5 H r N/\H r=some (.lst (rs.map V.ref)))/\H n=some (.lst ((ns:List Addr).map V.ref))/\ns.length=N.length/\(∀(i:Nat) y l,ns[i]? = some y->N[i]? = some l->H y=some (.lst (IL l))) /\
  H e=some (.lst ((es:List Addr).map V.ref))/\es.length=N.length/\(∀(t:Nat) y,es[t]? = some y->a0p K H y ((a1v N).filter fun s=>decide (a3K N s=t)))/\∀z,Z z->z≠r/\z≠n/\z≠e/\z∉ns/\z∉es
theorem a4C.same{K:Fg}{c:Cn}{x:Addr}(h:a4C K c Z rs H x N)(s:o6 H H'):a4C K c Z rs H' x N:=by
 obtain⟨dx,r,n,e,es,ns,h1,⟨h2,h2r⟩,h3,h4,h5,h6,h7,h8,h9⟩:=h.ex
 exact⟨dx,r,n,e,es,ns,s _ _ h1,⟨h2.same s,s _ _ h2r⟩,s _ _ h3,h4,fun i y l a b=>s _ _ (h5 i y l a b),s _ _ h6,h7,fun t y q=>(h8 t y q).same s,h9⟩
theorem C8.ins{H:Hp}{a x C dx:Addr}{N:Nt}{fs:List (Str×V)}{o:HO}(h:C8 H a N)(hx:H x=some (.ins C dx fs)):C8 (upd H x o) a N:=by
 obtain⟨as,q1,q2,q3⟩:=h.ex
 exact⟨as,by rw[c9 (G0 q1 hx (by intro z;cases z))];exact q1,q2,fun j y l e1 e2=>by
  have q:=q3 j y l e1 e2
  rw[c9 (G0 q hx (by intro z;cases z))];exact q⟩
theorem O1.ins{H:Hp}{x C dx:Addr}{fs:List (Str×V)}{o:HO}(hx:H x=some (.ins C dx fs)):O1 H (upd H x o):=fun a xs e=>by
 rw[c9 (G0 e hx (by intro z;cases z))];exact e
theorem N5.ins{H:Hp}{a x C dx:Addr}{N:Nt}{fs:List (Str×V)}{o:HO}(h:N5 H a N)(hx:H x=some (.ins C dx fs)):N5 (upd H x o) a N:=by
 obtain⟨as,q1,q2,q3⟩:=h.ex
 exact⟨as,by rw[c9 (G0 q1 hx (by intro z;cases z))];exact q1,q2,fun j y l e1 e2=>(q3 j y l e1 e2).ts (O1.ins hx)⟩
theorem b5n(h:∀l∈N,l.length<=2):(a1v N).length<=1+2 * N.length:=by
 have go:∀i,i<=N.length->(a4M N i).length<=1+2 * i:=by
  intro i
  induction i with
  | zero=>intro _;show 1<=1;exact d9 _
  | succ i ih=>
   intro hi
   rw[a7j,o9]
   have:=ih (by omega)
   have h2:(a2D N i).length<=2:=by
    unfold a2D
    rw[a8,a3b]
    have e:N.getD i []=N[i]:=by simp[L0,show i<N.length by omega]
    rw[e]
    exact h _ (C9 _)
   omega
 exact go _ (d9 _)
theorem b4h{S:List Stp}{f:Stp->Nat}{t:Nat}(h:S[i]? = some s):(S.take (i+1)).filter (fun s=>decide (f s=t))=(S.take i).filter (fun s=>decide (f s=t))++(if f s=t then [s] else []):=by
 rw[E6,h,a2f]
 congr 1
 by_cases e:f s=t
 ·rw[if_pos e];simp[e]
 ·rw[if_neg e];simp[e]
theorem a5K{K:Fg}{c:Cn}{x:Addr}{E:XK}(ck:a3Q K c)(hrs:H ra=some (.lst (rs.map V.ref)))(hr:N5 H ra N)(hn:C8 H na N)(hv:a0s N)(hx:H x=some (.ins c.G7 dx []))
  (k:∀H',a4C K c (fun z=>∃o,H z=some o/\z≠x) rs H' x N->(∀b o,H b=some o->b≠x->H' b=some o)->Q .non H'):a0k K c [.ref x,.ref ra,.ref na] H Q E:=by
 obtain⟨rs',r1,r2,r3⟩:=id hr.ex
 obtain rfl:rs'=rs:=by
  rw[hrs]at r1
  exact(V9 (f:=V.ref) (fun a b h=>V.ref.inj h) |>.mp (HO.lst.inj (Option.some.inj r1))).symm
 obtain⟨ns,n1,n2,n3⟩:=id hn.ex
 have hpos:=hv.pos
 have h400:=hv.le
 refine⟨rfl,?_⟩
 unfold a7i
 nofun
 exists a7x r1 (by rw[a8];omega) (by rw[a8];omega) ?_
 nofun
 specialize S8 (S0 ?_)
 refine⟨ra,rfl,⟨_,SqL.of r1⟩,fun D hD=>?_⟩
 refine P7 (xs:=rs'.map V.ref) (fun i ys H2=>ys=u0 i (V.bl true)/\H2 D=some (.lst ys)/\o6 H H2) ⟨rfl,c6,v0 hD⟩ ?_ ?_ ?_ ?_
 ·rintro i ys H2 ⟨_,h,_⟩
  exact h
 ·rintro i ys H2 _ ⟨_,_,s2⟩
  exact SqL.of (s2 _ _ r1)
 ·rintro i y ys H2 hy ⟨rfl,hD2,s2⟩ R hR
  rw[b8]at hy
  cases hrx:rs'[i]? with
  | none=>rw[hrx]at hy;cases hy
  | some rx=>
   rw[hrx]at hy
   cases hy
   have hi:i<N.length:=by rw[<-r2];exact(gI hrx)
   ext
   refine b5R ck ((r3 i rx _ hrx (F1 hi)).ts (o6.ts s2)) fun H3 s3=>?_
   refine hR _ _ (s3 _ _ hD2) (E8 (by rw[z9];omega)) ⟨a7T i,c6,fun b o e=>?_⟩
   rw[c9 (c7 e hD)];exact s3 _ _ (s2 _ _ e)
 rintro ys H2 ⟨rfl,hD2,s2⟩
 ext
 refine a4B hD2 fun H3 s3=>?_
 have s03:=s2.trans s3
 ext
 nofun
 refine a8O (hr.same s03) (hn.same s03) h400 hv.two hv.lt fun H4 s4=>?_
 have s04:=s03.trans s4
 ext
 nofun
 refine a9s (hn.same s04) hv fun H5 s5=>?_
 have s05:=s04.trans s5
 ext
 exact_mod_cast Q2 ?_
 specialize b3x ?_
 refine a5H (s05 _ _ r1) fun rp H6 hrp e6 s6=>?_
 have s06:=s05.trans s6
 ext
 refine⟨x,_,dx,[],rfl,s06 _ _ hx,ck.J4,ck.G9,by simp,?_⟩
 obtain⟨H7,hH7⟩:∃H7,H7=upd H6 x (.ins c.G7 dx (a1H "rows" (.ref rp) [])):=⟨_,rfl⟩
 have x7:H7 x=some (.ins c.G7 dx [("rows",.ref rp)]):=hH7 ▸ c6
 have f7:∀b o,H6 b=some o->b≠x->H7 b=some o:=fun b o e n=>by rw[hH7,c9 n];exact e
 have rows7:N5 H7 rp N:=by
  have q:N5 H6 rp N:=⟨rs',e6,r2,fun i y l a b=>(r3 i y l a b).ts (o6.ts s06)⟩
  rw[hH7]
  exact q.ins (s06 _ _ hx)
 have net7:C8 H7 na N:=by rw[hH7];exact(hn.same s06).ins (s06 _ _ hx)
 have ra7:H7 ra=some (.lst (rs'.map V.ref)):=f7 _ _ (s06 _ _ r1) (G0 r1 hx (by intro z;cases z))
 rw[<-hH7]
 clear hH7
 exact_mod_cast Q2 ?_
 exact_mod_cast b3x ?_
 exact_mod_cast S8 (S0 ?_)
 obtain⟨ns',m1,m2,m3⟩:=id net7.ex
 ext
 refine⟨na,rfl,⟨_,SqL.of m1⟩,fun np hnp=>?_⟩
 refine P7 (xs:=ns'.map V.ref) (fun i ys H8=>∃as:List Addr,ys=as.map V.ref/\as.length=i/\(∀(j:Nat) y l,as[j]? = some y->N[j]? = some l->H8 y=some (.lst (IL l))/\y≠np)/\H8 np=some (.lst ys)/\o6 H7 H8/\∀y∈as,H7 y=none) ?_ ?_ ?_ ?_ ?_
 ·exact⟨[],rfl,rfl,by simp,c6,v0 hnp,by simp⟩
 ·rintro i ys H8 ⟨_,_,_,_,h,_⟩
  exact h
 ·rintro i ys H8 _ ⟨_,_,_,_,_,s8,_⟩
  exact SqL.of (s8 _ _ m1)
 ·rintro i y ys H8 hy ⟨as,rfl,la,at8,hnp8,s8,fr8⟩ R hR
  rw[b8]at hy
  cases hnx:ns'[i]? with
  | none=>rw[hnx]at hy;cases hy
  | some nx=>
   rw[hnx]at hy
   cases hy
   have hi:i<N.length:=by rw[<-m2];exact(gI hnx)
   ext
   refine a5H (s8 _ _ (m3 i nx _ hnx (F1 hi))) fun q H9 hq e9 s9=>?_
   have nq:q≠np:=(c7 hnp8 hq).symm
   refine hR _ _ (s9 _ _ hnp8) (E8 (by rw[a8];omega)) ⟨as++[q],by simp,by simp[la],fun j y l g1 g2=>?_,c6,fun b o e=>?_,fun y hy=>?_⟩
   ·rcases Y1 g1 with ⟨_,f1⟩ | ⟨hj,f1⟩
    ·obtain⟨f2,f3⟩:=at8 j y l f1 g2
     exact⟨by rw[c9 f3];exact s9 _ _ f2,f3⟩
    ·rw[hj,la,F1 hi]at g2
     cases g2
     subst f1
     exact⟨by rw[c9 nq];exact e9,nq⟩
   ·rw[c9 (c7 e hnp)];exact s9 _ _ (s8 _ _ e)
   ·rcases o8.mp hy with z | z
    ·exact fr8 y z
    ·rw[f6.mp z];exact s8.free hq
 rintro ys H8 ⟨as,rfl,la,at8,hnp8,s8,fr8⟩
 rw[a8,m2]at la
 have net8:C8 H8 np N:=⟨as,hnp8,la,fun i y l a b=>(at8 i y l a b).1⟩
 ext
 refine⟨x,_,dx,_,rfl,s8 _ _ x7,ck.J4,ck.L8,by simp,?_⟩
 obtain⟨H9,hH9⟩:∃H9,H9=upd H8 x (.ins c.G7 dx (a1H "nexts" (.ref np) [("rows",.ref rp)])):=⟨_,rfl⟩
 have x9:H9 x=some (.ins c.G7 dx [("rows",.ref rp),("nexts",.ref np)]):=by
  rw[hH9,c6]
  simp only[a1H]
  rw[if_neg (by decide)]
 have f9:∀b o,H8 b=some o->b≠x->H9 b=some o:=fun b o e n=>by rw[hH9,c9 n];exact e
 have rows9:N5 H9 rp N:=by rw[hH9];exact(rows7.same s8).ins (s8 _ _ x7)
 have net9:C8 H9 np N:=by rw[hH9];exact net8.ins (s8 _ _ x7)
 have ra9:H9 ra=some (.lst (rs'.map V.ref)):=f9 _ _ (s8 _ _ ra7) (G0 ra7 x7 (by intro z;cases z))
 rw[<-hH9]
 clear hH9
 exact_mod_cast Q2 ?_
 exact_mod_cast b3x ?_
 specialize S8 (S0 ?_)
 refine⟨ra,rfl,⟨_,SqL.of ra9⟩,fun ep hep=>?_⟩
 refine P7 (xs:=rs'.map V.ref) (fun i ys H10=>∃es,ys=es.map V.ref/\a3O H9 H10 ep es (u0 i [])) ?_ ?_ ?_ ?_ ?_
 ·exact⟨[],rfl,.nil hep (v0 hep) c6⟩
 ·rintro i ys H10 ⟨es,rfl,I⟩
  exact I.h
 ·rintro i ys H10 _ ⟨es,rfl,I⟩
  exact SqL.of (I.same _ _ ra9)
 ·rintro i y ys H10 hy ⟨es,rfl,I⟩ R hR
  have hi:i<N.length:=by
   have:=(gI hy)
   rw[a8,r2]at this
   exact this
  ext
  refine D5 (by simp) fun p H11 hp e11 s11=>?_
  have:=I.len
  rw[z9]at this
  refine hR _ _ (s11 _ _ I.h) (E8 (by rw[a8];omega)) ⟨es++[p],by simp,?_⟩
  have q:=I.snoc hp e11 s11
  rw[show u0 i ([]:List Nat)++[[]]=u0 (i+1) [] from by rw[a1o]]at q
  rw[show es.map V.ref++[V.ref p]=(es++[p]).map V.ref by simp]
  exact q
 rintro ys H10 ⟨es,rfl,I10⟩
 rw[a8,r2]at I10
 ext
 have x10:=I10.same _ _ x9
 refine⟨x,_,dx,_,rfl,x10,ck.J4,ck.Z3,by simp,?_⟩
 obtain⟨F,hF⟩:∃F:List (Str×V),F=([("rows",.ref rp),("nexts",.ref np),("entries",.ref ep)]:List (Str×V)):=⟨_,rfl⟩
 have hput:a1H "entries" (.ref ep) [("rows",.ref rp),("nexts",.ref np)]=F:=by
  rw[hF]
  simp only[a1H]
  rw[if_neg (by decide),if_neg (by decide)]
 rw[hput]
 obtain⟨H11,hH11⟩:∃H11,H11=upd H10 x (.ins c.G7 dx F):=⟨_,rfl⟩
 obtain⟨H0,hH0⟩:∃H0,H0=upd H9 x (.ins c.G7 dx F):=⟨_,rfl⟩
 have x0:H0 x=some (.ins c.G7 dx F):=hH0 ▸ c6
 have f0:∀b o,H9 b=some o->b≠x->H0 b=some o:=fun b o e n=>by rw[hH0,c9 n];exact e
 have rows0:N5 H0 rp N:=by rw[hH0];exact rows9.ins x9
 have net0:C8 H0 np N:=by rw[hH0];exact net9.ins x9
 have np0:H0 np=some (.lst (as.map V.ref)):=by
  have:=f9 _ _ hnp8 (G0 hnp8 (s8 _ _ x7) (by intro z;cases z))
  exact f0 _ _ this (G0 this x9 (by intro z;cases z))
 have rp0:H0 rp=some (.lst (rs'.map V.ref)):=by
  have q:=s8 _ _ (f7 _ _ e6 (G0 e6 (s06 _ _ hx) (by intro z;cases z)))
  have q:=f9 _ _ q (G0 q (s8 _ _ x7) (by intro z;cases z))
  exact f0 _ _ q (G0 q x9 (by intro z;cases z))
 have at0:∀(i:Nat) y l,as[i]? = some y->N[i]? = some l->H0 y=some (.lst (IL l)):=fun i y l a b=>by
  have q:=(at8 i y l a b).1
  have q:=f9 _ _ q (G0 q (s8 _ _ x7) (by intro z;cases z))
  exact f0 _ _ q (G0 q x9 (by intro z;cases z))
 have old9:∀b o,H b=some o->b≠x->H9 b=some o:=fun b o e n=>f9 _ _ (s8 _ _ (f7 _ _ (s06 _ _ e) n)) n
 have ent11:b8P K H0 H11 ep es (u0 N.length []):=by
  have nxe:x≠ep:=c7 x9 hep
  have nxes:∀y∈es,x≠y:=fun y hy=>c7 x9 (I10.new.2 y hy)
  refine⟨fun b o e=>?_,by rw[hH11,c9 nxe.symm];exact I10.h,by rw[z9];have:=I10.len;rwa [z9]at this,I10.nd,I10.na,fun i y S a b=>?_,by rw[hH0,c9 nxe.symm];exact hep,fun y hy=>by rw[hH0,c9 (nxes y hy).symm];exact I10.new.2 y hy⟩
  ·rw[hH0]at e
   rw[hH11]
   by_cases q:b=x
   ·subst q
    rw[c6]at e ⊢
    exact e
   ·rw[c9 q]at e ⊢
    exact I10.same _ _ e
  ·have hi:=(gI b)
   rw[z9]at hi
   have q:=I10.at_ i y [] a (by rw[F0,if_pos hi])
   rw[F0,if_pos hi]at b
   cases b
   refine⟨[],?_,rfl,by simp⟩
   rw[hH11,c9 (G0 q x10 (by intro z;cases z))]
   exact q
 have old:∀b o,H b=some o->b≠x->H0 b=some o:=fun b o e n=>f0 _ _ (f9 _ _ (s8 _ _ (f7 _ _ (s06 _ _ e) n)) n) n
 rw[<-hH11]
 clear hH11 hH0 I10 x10 f0 f9 x9 ra9 net9 rows9
 specialize Y6 (S0 ?_)
 specialize a1b ?_
 exists ⟨x,_,dx,F,.ref np,rfl,ent11.same _ _ x0,ck.J4,ck.L8,by rw[hF];rfl,?_⟩
 refine b1U ck (net0.same ent11.same) h400 hv.two fun sl H12 hsl S12 s12=>?_
 obtain⟨vs,v1,v2,v3⟩:=id S12.ex
 have nsl:sl∉es:=fun z=>by
  obtain⟨i,hi⟩:=E4.mp z
  have hil:i<N.length:=by
   have:=ent11.len
   rw[z9]at this
   rw[<-this];exact(gI hi)
  obtain⟨ws,w1,_⟩:=(ent11.at_ i sl [] hi (by rw[F0,if_pos hil])).ex
  rw[hsl]at w1
  cases w1
 refine⟨sl,rfl,⟨_,SqL.of v1⟩,a2q (xs:=vs.map V.ref) (fun i σ H13=>∃x3 P,σ=[some (.ref x),some (.ref ra),some (.ref na),x3]/\b8P K H0 H13 ep es P/\P.length=N.length/\(∀t,t<N.length->P[t]? = some (((a1v N).take i).filter fun s=>decide (a3K N s=t)))/\a0p K H13 sl (a1v N)/\H13 sl=some (.lst (vs.map V.ref))) ?_ ?_ ?_ ?_⟩
 ·refine⟨_,u0 N.length [],rfl,⟨ent11.same.trans s12,s12 _ _ ent11.h,ent11.len,ent11.nd,ent11.na,fun i y S a b=>(ent11.at_ i y S a b).same s12,ent11.new⟩,by simp,fun t ht=>by rw[F0,if_pos ht];simp,S12,v1⟩
 ·rintro i σ H13 _ ⟨_,_,_,_,_,_,_,h⟩
  exact SqL.of h
 ·rintro i y _ H13 hy ⟨x3,P,rfl,I13,lP,hP,S13,hsl13⟩
  rw[b8]at hy
  cases hvx:vs[i]? with
  | none=>rw[hvx]at hy;cases hy
  | some vx=>
   rw[hvx]at hy
   cases hy
   obtain⟨ws,w1,w2,w3⟩:=S13.ex
   have ews:ws=vs:=by
    rw[hsl13]at w1
    have:=V9 (f:=V.ref) (fun a b h=>V.ref.inj h) |>.mp (HO.lst.inj (Option.some.inj w1))
    exact this.symm
   subst ews
   have hi:i<(a1v N).length:=by rw[<-w2];exact(gI hvx)
   obtain⟨s,hs⟩:∃s,(a1v N)[i]? = some s:=⟨_,d8 hi⟩
   have hst:=w3 i vx s hvx hs
   have hm:=mI hs
   have his:=b5S hm
   have hlt:=c0H hv his
   have x13:=I13.same _ _ x0
   ext
   specialize b3B ?_
   specialize a1b ?_
   refine⟨x,_,dx,F,.ref ep,rfl,x13,ck.J4,ck.Z3,by rw[hF];rfl,?_⟩
   specialize c2b ?_
   exists ⟨x,dx,F,rfl,x13,by rw[hF];rfl,?_⟩
   refine b2y ck ⟨dx,F,np,x13,by rw[hF];rfl,net0.same I13.same⟩ hst his ?_
   obtain⟨z,hz⟩:∃z,es[a3K N s]? = some z:=⟨_,d8 (by have:=I13.len;omega)⟩
   refine D9 I13.h (J5 (by rw[b8,hz];rfl)) ?_
   have hPt:=hP _ hlt
   obtain⟨us,u1,u2,u3⟩:=(I13.at_ _ z _ hz hPt).ex
   exists ⟨a1I u1,?_⟩
   have hul:us.length<=i:=by
    rw[u2]
    refine A9 (M0 _ _) ?_
    rw[J8];omega
   have hlen1:(a1v N).length<=1000:=by
    rw[<-w2]
    have:(a1v N).length<=1+2 * N.length:=b5n hv.two
    omega
   refine a5I u1 (E8 (by rw[a8];omega)) ?_
   have add:=I13.add (a:=vx) (s:=s) hz hPt u1 u2 u3 hst
   rw[show us.map V.ref++[V.ref vx]=(us++[vx]).map V.ref by simp]
   have nz:sl≠z:=fun q=>nsl (q ▸ mI hz)
   refine⟨_,_,rfl,add,by rw[W3];exact lP,fun t ht=>?_,S13.put u1 nz,by rw[c9 nz];exact hsl13⟩
   rw[b4h hs]
   by_cases q:a3K N s=t
   ·subst q
    rw[F7 (by omega),if_pos rfl]
   ·rw[J9 q,if_neg q,a1G]
    exact hP t ht
 ·rintro _ H13 ⟨x3,P,rfl,I13,lP,hP,S13,hsl13⟩
  have f8:∀b o,H b=some o->b≠x->H7 b=some o:=fun b o e n=>f7 _ _ (s06 _ _ e) n
  refine k H13 ⟨dx,rp,np,ep,es,as,hF ▸ I13.same _ _ x0,⟨rows0.same I13.same,I13.same _ _ rp0⟩,I13.same _ _ np0,la,fun i y l a b=>I13.same _ _ (at0 i y l a b),I13.h,by rw[I13.len,lP],fun t y hy=>?_,fun z ⟨o,ho,hzx⟩=>⟨c7 (s05 _ _ ho) hrp,c7 (f8 _ _ ho hzx) hnp,c7 (old9 _ _ ho hzx) hep,fun q=>c7 (f8 _ _ ho hzx) (fr8 z q) rfl,fun q=>c7 (old _ _ ho hzx) (I13.new.2 z q) rfl⟩⟩ fun b o e n=>I13.same _ _ (old b o e n)
  have ht:t<N.length:=by
   have:=(gI hy)
   have:=I13.len
   omega
  have q:=I13.at_ t y _ hy (hP t ht)
  rw[a8,v2,M7]at q
  exact q
structure c6f(H:Hp)(d:Addr)(ds:List V):Prop where
 h:H d=some (.tup ds)
 ex:∃k v1 v2,ds=[.str k,v1,v2]/\OpN v1/\OpN v2
def b1j(H:Hp)(p:Addr)(xs:List V):Prop:=H p=some (.tup xs)/\a3P H xs
theorem b1j.ts(h:b1j H p xs)(t:O1 H H'):b1j H' p xs:=⟨t _ _ h.1,h.2.ts t⟩
theorem a5h.x{a:Bool}(h:a5h H (.ref p) a):∃xs,b1j H p xs:=by
 obtain⟨q,xs,e,h1,h2,_⟩:=h
 cases e
 exact⟨xs,h1,h2⟩
theorem a3P.head(h:a3P H xs):∃k r,xs=.str k::r:=by cases h <;> exact⟨_,_,rfl⟩
theorem a6B{to ti:TE}(h:to σ H fun x H1=>ti σ H1 fun y H2=>∃a v,x=.ref a/\a1a H2 a y (some v)/\Q v H2):a5u to ti σ H Q:=h
theorem c4G{n:Nat}{ti:TIp}{x:V}(e:σ[n]? = some (some x))(h:te σ H fun y H1=>ti x y H1 fun z H2=>D.nx (σ.set n (some z)) H2):b9k n te ti D σ H:=⟨x,e,h⟩
theorem c5o{K:Fg}(k:∀d H',H d=none->H' d=some (.dK [(Sum.inl 0,.ref a)])->o6 H H'->Q (.ref d) H'):b1S ((tC (.int 0),tC (.ref a))::[]) σ H Q:=by
 intro d hd
 refine⟨c6,[(Sum.inl 0,.ref a)],rfl,by simp,?_⟩
 have e:(upd (upd H d (.dK [])) d (.dK (a5b [] [(Sum.inl 0,V.ref a)])))=upd H d (.dK [(Sum.inl 0,.ref a)]):=by rw[a7y];rfl
 rw[e]
 exact k d _ hd c6 (v0 hd)
def Jst(N:Nt)(Do Sp:Nat->Bool)(S:List Nat)(i:Nat)(s:Stp)(t:Nat):Prop:=
 (i=0/\s=FST/\t=0)\/∃(p q:Nat) (l:List Nat),s=((p:Int),(q:Int))/\N[p]? = some l/\l[q]? = some t/\(Sp p=true\/∃j,j<i/\S[j]? = some p/\Do p=false)
theorem Jst.grow{Sp:Nat->Bool}{S ext:List Nat}{t:Nat}(h:Jst N Do Sp S i s t):Jst N Do Sp (S++ext) i s t:=by
 rcases h with h | ⟨p,q,l,h1,h2,h3,h4⟩
 ·exact .inl h
 ·refine .inr ⟨p,q,l,h1,h2,h3,?_⟩
  rcases h4 with h4 | ⟨j,j1,j2,j3⟩
  ·exact .inl h4
  ·exact .inr ⟨j,j1,by rw[v8 (gI j2)];exact j2,j3⟩
structure CbK(K:Fg)(H:Hp)(d:Addr)(N:Nt)(Do Sp:Nat->Bool)(S:List Nat)(kvs:List (Key×V)):Prop where
 hd:H d=some (.dK kvs)
 nd:S.Nodup
 lt:∀t∈S,t<N.length
 len:kvs.length=S.length
 z:S[0]? = some 0
 at_:∀(i:Nat) t,S[i]? = some t->∃a s,kvs[i]? = some (Sum.inl (t:Int),.ref a)/\a3i K H a s/\Jst N Do Sp S i s t
theorem CbK.keys{K:Fg}{Sp:Nat->Bool}{S:List Nat}(h:CbK K H d N Do Sp S kvs):kvs.map (·.1)=S.map fun(t:Nat)=>(Sum.inl (t:Int):Key):=by
 apply List.ext_getElem?
 intro i
 rw[b8,b8]
 cases e:S[i]? with
 | none=>
  have:kvs[i]? = none:=by
   rw[List.getElem?_eq_none_iff]at e ⊢
   have:=h.len
   omega
  rw[this];rfl
 | some t=>
  obtain⟨a,s,q,_⟩:=h.at_ i t e
  rw[q];rfl
theorem CbK.ndk{K:Fg}{Sp:Nat->Bool}{S:List Nat}(h:CbK K H d N Do Sp S kvs):(kvs.map (·.1)).Nodup:=by
 rw[h.keys]
 refine List.Pairwise.map _ (fun a b hab z=>hab ?_) h.nd
 have:=Sum.inl.inj z
 omega
theorem CbK.in_{K:Fg}{Sp:Nat->Bool}{S:List Nat}(h:CbK K H d N Do Sp S kvs)(t:Nat):(U3 kvs (Sum.inl (t:Int))).isSome=decide (t∈S):=by
 by_cases ht:t∈S
 ·rw[c7r ht]
  obtain⟨i,hi⟩:=E4.mp ht
  obtain⟨a,s,q,_⟩:=h.at_ i t hi
  rw[b1K h.ndk (mI q)]
  rfl
 ·rw[c7q ht]
  cases e:U3 kvs (Sum.inl (t:Int))with
  | none=>rfl
  | some v=>
   have:=b9g e
   rw[h.keys]at this
   obtain⟨u,hu,z⟩:=u8.mp this
   have:=Sum.inl.inj z
   exact absurd (show t ∈ S from (by have : u = t := by omega
                                     exact this ▸ hu)) ht
theorem CbK.notin{K:Fg}{Sp:Nat->Bool}{S:List Nat}(h:CbK K H d N Do Sp S kvs)(t:Nat):∃o,a1a H d (.int (t:Int)) o/\o.isSome=decide (t∈S):=⟨_,a1a.k (k:=Sum.inl (t:Int)) h.hd,h.in_ t⟩
theorem CbK.same{K:Fg}{Sp:Nat->Bool}{S:List Nat}(h:CbK K H d N Do Sp S kvs)(s:o6 H H'):CbK K H' d N Do Sp S kvs:=
 ⟨s _ _ h.hd,h.nd,h.lt,h.len,h.z,fun i t e=>let⟨a,st,q1,q2,q3⟩:=h.at_ i t e; ⟨a,st,q1,q2.ts (o6.ts s),q3⟩⟩
theorem CbK.add{K:Fg}{Sp:Nat->Bool}{S:List Nat}{t:Nat}(h:CbK K H d N Do Sp S kvs)(ht:¬t∈S)(hlt:t<N.length)(ha:a3i K H a s)(hj:Jst N Do Sp S S.length s t) :
  CbK K (upd H d (.dK (a0x kvs (Sum.inl (t:Int)) (.ref a)))) d N Do Sp (S++[t]) (a0x kvs (Sum.inl (t:Int)) (.ref a)):=by
 have e:a0x kvs (Sum.inl (t:Int)) (.ref a)=kvs++[(Sum.inl (t:Int),.ref a)]:=by
  unfold a0x
  rw[a2k,h.in_,c7q ht,if_neg (by decide)]
 rw[e]
 have ts:O1 H (upd H d (.dK (kvs++[(Sum.inl (t:Int),.ref a)]))):=fun b xs q=>by rw[c9 (G0 q h.hd (by intro z;cases z))];exact q
 refine⟨c6,?_,fun u hu=>?_,by simp[h.len],?_,fun i u hu=>?_⟩
 ·rw[O5]
  exact⟨h.nd,by simp,fun x hx y hy=>by rw[f6.mp hy];intro z;exact ht (z ▸ hx)⟩
 ·rcases o8.mp hu with q | q
  ·exact h.lt u q
  ·rw[f6.mp q];exact hlt
 ·rw[v8 (k9.mp h.z).1];exact h.z
 ·rcases Y1 hu with ⟨hi,g⟩ | ⟨hi,g⟩
  ·obtain⟨a',s',q1,q2,q3⟩:=h.at_ i u g
   exact⟨a',s',by rw[v8 (gI q1)];exact q1,q2.ts ts,q3.grow⟩
  ·subst g
   refine⟨a,s,?_,ha.ts ts,?_⟩
   ·rw[hi,<-h.len];simp
   ·rw[hi];exact hj.grow
structure CbI(K:Fg)(H0 H:Hp)(d o:Addr)(N:Nt)(Do Sp:Nat->Bool)(S:List Nat)(kvs:List (Key×V)):Prop where
 cb:CbK K H d N Do Sp S kvs
 same:o6 H0 H
 ho:H o=some (.lst (IL S))
 fr:H0 d=none/\H0 o=none
theorem CbI.next{K:Fg}{o:Addr}{Sp:Nat->Bool}{S:List Nat}(h:CbI K H0 H d o N Do Sp S kvs)(s:o6 H H'):CbI K H0 H' d o N Do Sp S kvs:=⟨h.cb.same s,h.same.trans s,s _ _ h.ho,h.fr⟩
theorem c0W{K:Fg}{o:Addr}{Sp:Nat->Bool}{S:List Nat}{a b e f g p q t:Nat}(ha:σ[a]? = some (some (.int (t:Int))))(hb:σ[b]? = some (some (.ref d)))(he:σ[e]? = some (some (.int (p:Int))))(hf:σ[f]? = some (some (.int (q:Int))))(hg:σ[g]? = some (some (.ref o)))
  (I:CbI K H0 H d o N Do Sp S kvs) (h400:N.length<=400) (hl:N[p]? = some l) (ht:l[q]? = some t) (htn:t<N.length) (hj:Sp p=true\/∃j:Nat,S[j]? = some p/\Do p=false)
  (k:∀H' S' kvs',CbI K H0 H' d o N Do Sp S' kvs'->(∃ext,S'=S++ext)->t∈S'->D.nx σ H') :
  J3 (tB (a1h (b5 a) (b5 b))) (u5 (a1c (b5 b) (b5 a) (a0w (a9 (b5 e) (a9 (b5 f) (j5))))) (a0O (tBM K "list" a0F (b5 g) (a9 (b5 a) (j5))))) (C5) D σ H:=by
 exact_mod_cast c4E ?_
 exact_mod_cast c4y ?_
 exact_mod_cast a3z ?_
 exact_mod_cast a4x ha ?_
 exact_mod_cast a4x hb ?_
 obtain⟨o',g1,g2⟩:=I.cb.notin t
 refine⟨d,o',rfl,g1,?_⟩
 rw[g2]
 refine⟨_,rfl,?_⟩
 by_cases hts:t∈S
 ·refine o4 (by rw[c7r hts];rfl) ?_
  exact_mod_cast b7p ?_
  exact k H S kvs I ⟨[],by simp⟩ hts
 refine A7 (by rw[c7q hts];rfl) ?_
 exact_mod_cast Q2 ?_
 exact_mod_cast a2K ?_
 exact_mod_cast c1u ?_
 exact_mod_cast a4R ?_
 exact_mod_cast a4x he ?_
 exact_mod_cast a4R ?_
 exact_mod_cast a4x hf ?_
 exact_mod_cast b4y ?_
 refine D5 (by simp) fun z H1 hz e1 s1=>?_
 have I1:=I.next s1
 exact_mod_cast a4x hb ?_
 exact_mod_cast a4x ha ?_
 have hlen:S.length<=400:=A9 (a5P _ _ I.cb.nd I.cb.lt) h400
 refine⟨d,_,rfl,a5i.k (k:=Sum.inl (t:Int)) I1.cb.hd (E8 (by rw[I.cb.len];omega)),?_⟩
 have add:=I1.cb.add (a:=z) (s:=((p:Int),(q:Int))) hts htn (.inl e1) (.inr ⟨p,q,l,rfl,hl,ht,hj.imp id fun⟨j,j1,j2⟩=>⟨j,(gI j1),j1,j2⟩⟩)
 obtain⟨kvs',hk⟩:∃kvs',kvs'=a0x kvs (Sum.inl (t:Int)) (.ref z):=⟨_,rfl⟩
 rw[<-hk]at add ⊢
 obtain⟨H2,hH2⟩:∃H2,H2=upd H1 d (.dK kvs'):=⟨_,rfl⟩
 rw[<-hH2]at add ⊢
 have nod:o≠d:=G0 I1.ho I1.cb.hd (by intro z;cases z)
 have ho2:H2 o=some (.lst (IL S)):=by rw[hH2,c9 nod];exact I1.ho
 have s2:o6 H0 H2:=fun b' o'' q'=>by rw[hH2,c9 (c7 q' I.fr.1)];exact I1.same _ _ q'
 exact_mod_cast b7s ?_
 exact_mod_cast b3B ?_
 exact_mod_cast a4x hg ?_
 refine⟨a1I ho2,?_⟩
 exact_mod_cast a4R ?_
 exact_mod_cast a4x ha ?_
 exact_mod_cast b4y ?_
 refine a5I ho2 (E8 (by rw[N6];omega)) ?_
 have e3:IL S++[V.int (t:Int)]=IL (S++[t]):=by simp[IL]
 rw[e3]
 have ts:O1 H2 (upd H2 o (.lst (IL (S++[t])))):=O1.put ho2
 refine k _ (S++[t]) kvs' ⟨⟨by rw[c9 nod.symm];exact add.hd,add.nd,add.lt,add.len,add.z,fun i u hu=>let⟨a',s',q1,q2,q3⟩:=add.at_ i u hu; ⟨a',s',q1,q2.ts ts,q3⟩⟩,fun b' o'' q'=>by rw[c9 (c7 q' I.fr.2)];exact s2 _ _ q',c6,I.fr⟩ ⟨[t],rfl⟩ (by simp)
structure a4D(c:Cn)(H:Hp)(x:Addr)(N:Nt)(rs:List Addr):Prop where
 ex:∃dx fs n r,H x=some (.ins c.G7 dx fs)/\fs.lookup ("nexts" : Str)=some (V.ref n)/\C8 H n N/\fs.lookup ("rows" : Str)=some (V.ref r)/\H r=some (.lst (rs.map V.ref))/\rs.length=N.length
theorem a4D.x{c:Cn}{x:Addr}(h:a4D c H x N rs):b8J c H x N:=by
 obtain⟨dx,fs,n,r,h1,h2,h3,_⟩:=h.ex
 exact⟨dx,fs,n,h1,h2,h3⟩
theorem a4D.same{c:Cn}{x:Addr}(h:a4D c H x N rs)(s:o6 H H'):a4D c H' x N rs:=by
 obtain⟨dx,fs,n,r,h1,h2,h3,h4,h5,h6⟩:=h.ex
 exact⟨dx,fs,n,r,s _ _ h1,h2,h3.same s,h4,s _ _ h5,h6⟩
theorem a4C.r{K:Fg}{c:Cn}{x:Addr}(h:a4C K c Z rs H x N):a4D c H x N rs:=by
 obtain⟨dx,r,n,e,es,ns,h1,⟨h2,h2r⟩,h3,h4,h5,h6,h7,h8,_⟩:=h.ex
 refine⟨dx,_,n,r,h1,rfl,⟨ns,h3,h4,h5⟩,rfl,h2r,?_⟩
 obtain⟨rs',q1,q2,_⟩:=h2.ex
 rw[h2r]at q1
 have:=congrArg a9A (HO.lst.inj (Option.some.inj q1))
 rw[a8,a8]at this
 omega
theorem a8s{K:Fg}{c:Cn}{x o:Addr}{Sp:Nat->Bool}{S:List Nat}{p:Nat}{E:XK}(ck:a3Q K c)(hp:b8J c H0 x N)(hv:a0s N)(I:CbI K H0 H d o N Do Sp S kvs)(hl:N[p]? = some l)(hj:Sp p=true\/∃j:Nat,S[j]? = some p/\Do p=false)
  (k:∀H' S' kvs',CbI K H0 H' d o N Do Sp S' kvs'->(∃ext,S'=S++ext)->(∀t∈l,t∈S')->Q .non H'):a1x K [.ref x,.int (p:Int),.ref d,.ref o] H Q E:=by
 obtain⟨dx,fs,n,hx,hf,hn⟩:=hp
 refine⟨rfl,?_⟩
 unfold a9K
 specialize Y6 (a4d ?_)
 specialize a1b ?_
 exists ⟨x,_,dx,fs,_,rfl,I.same _ _ hx,ck.J4,ck.L8,hf,?_⟩
 obtain⟨xs,y,f1,f2,f3,_⟩:=hn.at hl
 exists D9 (I.same _ _ f1) f2 ?_
 refine⟨y,rfl,⟨_,SqL.of (I.same _ _ f3)⟩,?_⟩
 have hlt:=hv.lt l (mI hl)
 refine a9V l.length (fun i σ H'=>∃y4 y5 S' kvs',σ=[some (.ref x),some (.int (p:Int)),some (.ref d),some (.ref o),y4,y5]/\CbI K H0 H' d o N Do Sp S' kvs'/\(∃ext,S'=S++ext)/\∀t∈l.take i,t∈S') ?_ ?_ ?_ ?_
 ·exact⟨_,_,S,kvs,rfl,I,⟨[],by simp⟩,by simp⟩
 ·rintro _ H' ⟨y4,y5,S',kvs',rfl,I',e',g'⟩
  rw[M7]at g'
  exact⟨⟨_,SqL.of (I'.same _ _ f3),by rw[N6];exact d9 _⟩,k H' S' kvs' I' e' g'⟩
 ·rintro i _ H' hi ⟨y4,y5,S',kvs',rfl,I',e',g'⟩
  exact⟨_,_,SqL.of (I'.same _ _ f3),by unfold IL;rw[b8,d8 hi];rfl⟩
 ·rintro i _ H' hi ⟨y4,y5,S',kvs',rfl,I',⟨ext,e'⟩,g'⟩ v H1 ⟨pp,w,hpp,rfl,rfl,gw⟩
  obtain⟨t,ht⟩:∃t,l[i]? = some t:=⟨_,d8 hi⟩
  have gw:=gw _ (SqL.of (I'.same _ _ f3))
  unfold IL at gw
  rw[b8,ht]at gw
  cases gw
  refine a7B (SqT.of c6) ?_
  have I1:=I'.next (v0 (o:=.tup [V.int (i:Int),V.int (t:Int)]) hpp)
  refine c0W (p:=p) (q:=i) (t:=t) (l:=l) rfl rfl rfl rfl rfl I1 hv.le hl ht (hlt t (mI ht)) ?_ fun H2 S2 kvs2 I2 ⟨ext2,e2⟩ t2=>?_
  ·rcases hj with hj | ⟨j,j1,j2⟩
   ·exact .inl hj
   ·exact .inr ⟨j,by rw[e',v8 (gI j1)];exact j1,j2⟩
  ·refine⟨_,_,S2,kvs2,rfl,I2,⟨ext++ext2,by rw[e2,e',List.append_assoc]⟩,fun u hu=>?_⟩
   rw[E6,ht]at hu
   rcases o8.mp hu with q | q
   ·rw[e2];exact A5 _ (g' u q)
   ·have:u=t:=by simpa using q
    subst this;exact t2
structure c5s(N:Nt)(Do Sp:Nat->Bool)(S:List Nat):Prop where
 sp:∀(p:Nat) l,Sp p=true->N[p]? = some l->∀t∈l,t∈S
 no:∀(p:Nat) l,p∈S->Do p=false->N[p]? = some l->∀t∈l,t∈S
theorem b8G{K:Fg}{c:Cn}{o:Addr}{Sp:Nat->Bool}(ck:a3Q K c)(hv:a0s N)(hd:H d=some (.dK [(Sum.inl 0,.ref c.R6)]))(ho:H o=some (.lst [.int 0]))(s:o6 H0 H)(f1:H0 d=none)(f2:H0 o=none):CbI K H0 H d o N Do Sp [0] [(Sum.inl 0,.ref c.R6)]:=by
 refine⟨⟨hd,by simp,by simpa using hv.pos,rfl,rfl,fun i t hi=>?_⟩,s,ho,f1,f2⟩
 cases i with
 | zero=>
  cases hi
  exact⟨_,FST,rfl,.inr ⟨rfl,ck.a3c⟩,.inl ⟨rfl,rfl,rfl⟩⟩
 | succ i=>simp at hi
def BL(n:Nat)(f:Nat->Bool):List V:=(y9 n).map fun p=>V.bl (f p)
theorem b8R(n:Nat)(f:Nat->Bool):(BL n f).length=n:=by simp[BL]
theorem c1K{n p:Nat}{f:Nat->Bool}(h:p<n):atI (BL n f) (p:Int)=some (V.bl (f p)):=J5 (by unfold BL;rw[b8,a6e h];rfl)
theorem a6o{K:Fg}{c:Cn}{x ma br:Addr}{Sp:Nat->Bool}{E:XK}(ck:a3Q K c)(hp:a4D c H x N rs)(hv:a0s N)(hm:H ma=some (.lst (BL N.length Do)))(hb:H br=some (.lst (BL N.length Sp)))
  (k:∀d H' S kvs,CbK K H' d N Do Sp S kvs->c5s N Do Sp S->o6 H H'->Q (.ref d) H'):X3 K c [.ref x,.ref ma,.ref br] H Q E:=by
 have h400:=hv.le
 obtain⟨dx,fs,n,r,hx,hfn,hn,hfr,hr,lr⟩:=hp.ex
 refine⟨rfl,?_⟩
 unfold a3f
 nofun
 exists c5o (K:=K) fun d H1 hd1 e1 s1=>?_
 nofun
 exists D5 (by simp) fun o H2 ho e2 s2=>?_
 have I2:CbI K H H2 d o N Do Sp [0] _:=b8G ck hv (s2 _ _ e1) e2 (s1.trans s2) hd1 (s1.free ho)
 exact_mod_cast a1y (P:=fun σ H3=>∃y5 S kvs,σ=[some (.ref x),some (.ref ma),some (.ref br),some (.ref d),some (.ref o),y5,none]/\CbI K H H3 d o N Do Sp S kvs/\∀(p:Nat) l,Sp p=true->N[p]? = some l->∀t∈l,t∈S) ?_ ?_
 rotate_left
 ·intro nx hnx
  specialize Y6 (a0l ?_)
  specialize a1b ?_
  exists ⟨x,_,dx,fs,_,rfl,I2.same _ _ hx,ck.J4,ck.G9,hfr,?_⟩
  refine M4 (I2.same _ _ hr) ?_
  rw[a8,lr]
  refine⟨N.length,rfl,by omega,by omega,?_⟩
  rw[u4]
  refine X7 (fun i σ H3=>∃y5 S kvs,σ=[some (.ref x),some (.ref ma),some (.ref br),some (.ref d),some (.ref o),y5,none]/\CbI K H H3 d o N Do Sp S kvs/\∀(p:Nat) l,p<i->Sp p=true->N[p]? = some l->∀t∈l,t∈S) ⟨_,[0],_,rfl,I2,by omega⟩ ?_ ?_
  ·rintro i _ H3 hi ⟨y5,S,kvs,rfl,I3,g3⟩
   rw[U1]
   ext
   exists D9 (I3.same _ _ hb) (c1K hi) ?_
   refine a0Y (fun e=>?_) (fun e=>?_)
   ·ext
    refine a8s ck hp.x hv I3 (F1 hi) (.inl e) fun H6 S6 kvs6 I6 ⟨ext,e6⟩ g6=>?_
    refine⟨_,S6,kvs6,rfl,I6,fun p l hpi hsp hl t ht=>?_⟩
    by_cases q:p=i
    ·subst q
     rw[F1 hi]at hl
     cases hl
     exact g6 t ht
    ·rw[e6]
     exact A5 _ (g3 p l (by omega) hsp hl t ht)
   ·ext
    refine⟨_,S,kvs,rfl,I3,fun p l hpi hsp hl t ht=>?_⟩
    by_cases q:p=i
    ·subst q;exact(e hsp).elim
    ·exact g3 p l (by omega) hsp hl t ht
  ·rintro _ H3 ⟨y5,S,kvs,rfl,I3,g3⟩
   exact hnx _ _ ⟨y5,S,kvs,rfl,I3,fun p l a b=>g3 p l (gI b) a b⟩
 rintro _ H3 ⟨y5,S3,kvs3,rfl,I3,g3⟩
 nofun
 exact_mod_cast Q2 ?_
 exact_mod_cast b0w ?_
 refine⟨fun m σ H4=>∃(y5:Option V) (S:List Nat) (kvs:List (Key×V)) (dn:Nat),σ=[some (.ref x),some (.ref ma),some (.ref br),some (.ref d),some (.ref o),y5,some (.int (dn:Int))]/\CbI K H H4 d o N Do Sp S kvs/\(∀(p:Nat) l,Sp p=true->N[p]? = some l->∀t∈l,t∈S)/\dn<=S.length/\(∀(j p:Nat) l,j<dn->S[j]? = some p->Do p=false->N[p]? = some l->∀t∈l,t∈S)/\m=N.length - dn,
  ⟨_,y5,S3,kvs3,0,rfl,I3,g3,by omega,by omega,rfl⟩,?_⟩
 rintro m _ H4 ⟨y5,S,kvs,dn,rfl,I4,g4,hdn,c4,rfl⟩
 ext
 exists M4 I4.ho ?_
 rw[N6]
 have hSl:S.length<=N.length:=a5P _ _ I4.cb.nd I4.cb.lt
 by_cases hlt:dn<S.length
 ·refine A7 (c7r (by omega)) ?_
  obtain⟨p,hpS⟩:∃p,S[dn]? = some p:=⟨_,d8 hlt⟩
  have hpn:=I4.cb.lt p (mI hpS)
  refine⟨fun σ H5=>∃(m':Nat) (y5:Option V) (S:List Nat) (kvs:List (Key×V)) (dn':Nat),σ=[some (.ref x),some (.ref ma),some (.ref br),some (.ref d),some (.ref o),y5,some (.int (dn':Int))]/\CbI K H H5 d o N Do Sp S kvs/\(∀(p:Nat) l,Sp p=true->N[p]? = some l->∀t∈l,t∈S)/\dn'<=S.length/\(∀(j p:Nat) l,j<dn'->S[j]? = some p->Do p=false->N[p]? = some l->∀t∈l,t∈S)/\m'=N.length - dn'/\m'<N.length - dn,?_,?_⟩
  ·rintro σ' H5 ⟨m',y4,S,kvs,dn',e,r1,r2,r3,r4,r5,r6⟩
   exact⟨m',r6,y4,S,kvs,dn',e,r1,r2,r3,r4,r5⟩
  nofun
  exists D9 I4.ho (c1J hpS) ?_
  exact_mod_cast Q2 ?_
  specialize c4G rfl ?_
  exists D9 (I4.same _ _ hm) (c1K hpn) ?_
  have e1:(dn:Int)+1=((dn+1:Nat):Int):=by omega
  cases hDo:Do p with
  | true=>
   exists o4 rfl ?_
   rw[e1]
   refine⟨_,_,S,kvs,dn+1,rfl,I4,g4,by omega,fun j p' l hj hj2 hD hl t ht=>?_,rfl,by omega⟩
   by_cases q:j=dn
   ·subst q
    rw[hpS]at hj2
    cases hj2
    rw[hDo]at hD
    cases hD
   ·exact c4 j p' l (by omega) hj2 hD hl t ht
  | false=>
   exists A7 rfl ?_
   rw[e1]
   refine a8s ck hp.x hv I4 (F1 hpn) (.inr ⟨dn,hpS,hDo⟩) fun H6 S6 kvs6 I6 ⟨ext,e6⟩ g6=>?_
   refine⟨_,_,S6,kvs6,dn+1,rfl,I6,fun p' l a b t ht=>by rw[e6];exact A5 _ (g4 p' l a b t ht),by rw[e6,o9];omega,fun j p' l hj hj2 hD hl t ht=>?_,rfl,by omega⟩
   have hj3:S[j]? = some p':=by rw[e6,v8 (by omega)]at hj2;exact hj2
   by_cases q:j=dn
   ·subst q
    rw[hpS]at hj3
    cases hj3
    rw[F1 hpn]at hl
    cases hl
    exact g6 t ht
   ·rw[e6];exact A5 _ (c4 j p' l (by omega) hj3 hD hl t ht)
 ·exists o4 (c7q (by omega)) ?_
  refine k d H4 S kvs I4.cb ⟨g4,fun p l hp' hD hl t ht=>?_⟩ I4.same
  obtain⟨j,hj⟩:=E4.mp hp'
  have:=(gI hj)
  exact c4 j p l (by omega) hj hD hl t ht
inductive UnR(N:Nt)(Do Sp:Nat->Bool):Nat->Prop
 | zero:UnR N Do Sp 0
 | spoil {p t:Nat} {l:List Nat}:N[p]? = some l->t∈l->Sp p=true->UnR N Do Sp t
 | step {p t:Nat} {l:List Nat}:UnR N Do Sp p->Do p=false->N[p]? = some l->t∈l->UnR N Do Sp t
theorem b3h{Sp:Nat->Bool}{S:List Nat}(z:0∈S)(h:c5s N Do Sp S):∀t,UnR N Do Sp t->t∈S:=by
 intro t u
 induction u with
 | zero=>exact z
 | spoil h1 h2 h3=>exact h.sp _ _ h3 h1 _ h2
 | step _ h2 h3 h4 ih=>exact h.no _ _ ih h2 h3 _ h4
theorem b6W{K:Fg}{Sp:Nat->Bool}{S:List Nat}(h:CbK K H d N Do Sp S kvs):∀(i t:Nat),S[i]? = some t->UnR N Do Sp t:=by
 intro i
 induction i using Nat.strongRecOn with
 | _ i ih=>
  intro t e
  obtain⟨a,s,_,_,j⟩:=h.at_ i t e
  rcases j with ⟨_,_,rfl⟩ | ⟨p,q,l,_,h2,h3,h4⟩
  ·exact .zero
  ·rcases h4 with h4 | ⟨j,j1,j2,j3⟩
   ·exact .spoil h2 (mI h3) h4
   ·exact .step (ih j j1 p j2) j3 h2 (mI h3)
theorem b4l{K:Fg}(hn:C8 H a N)(h400:N.length<=400)(hi:σ[i]? = some (some (.ref a)))(k:∀a' H',C8 H' a' N->o6 H H'->Q (.ref a') H'):S9 (U0 K (b5 i)) Q1 (tCB a3D (a9 (b5 0) j5)) σ H Q:=by
 obtain⟨ns,m1,m2,m3⟩:=id hn.ex
 exact_mod_cast S8 (S0 ?_)
 refine⟨_,hi,a,rfl,⟨_,SqL.of m1⟩,fun np hnp=>?_⟩
 refine P7 (xs:=ns.map V.ref) (fun i ys H8=>∃as:List Addr,ys=as.map V.ref/\as.length=i/\(∀(j:Nat) y l,as[j]? = some y->N[j]? = some l->H8 y=some (.lst (IL l))/\y≠np)/\H8 np=some (.lst ys)/\o6 H H8) ⟨[],rfl,rfl,by simp,c6,v0 hnp⟩ ?_ ?_ ?_ ?_
 ·rintro i ys H8 ⟨_,_,_,_,h,_⟩
  exact h
 ·rintro i ys H8 _ ⟨_,_,_,_,_,s8⟩
  exact SqL.of (s8 _ _ m1)
 ·rintro i y ys H8 hy ⟨as,rfl,la,at8,hnp8,s8⟩ R hR
  rw[b8]at hy
  obtain⟨nx,hnx,rfl⟩:=l6.mp hy
  have hi:i<N.length:=by rw[<-m2];exact(gI hnx)
  ext
  refine a5H (s8 _ _ (m3 i nx _ hnx (F1 hi))) fun q H9 hq e9 s9=>?_
  have nq:q≠np:=(c7 hnp8 hq).symm
  refine hR _ _ (s9 _ _ hnp8) (E8 (by rw[a8];omega)) ⟨as++[q],by simp,by simp[la],fun j y l g1 g2=>?_,c6,fun b o e=>by rw[c9 (c7 e hnp)];exact s9 _ _ (s8 _ _ e)⟩
  rcases Y1 g1 with ⟨_,f1⟩ | ⟨hj,f1⟩
  ·obtain⟨f2,f3⟩:=at8 j y l f1 g2
   exact⟨by rw[c9 f3];exact s9 _ _ f2,f3⟩
  ·rw[hj,la,F1 hi]at g2
   cases g2
   subst f1
   exact⟨by rw[c9 nq];exact e9,nq⟩
 ·rintro ys H8 ⟨as,rfl,la,at8,hnp8,s8⟩
  rw[a8,m2]at la
  exact k np H8 ⟨as,hnp8,la,fun i y l a b=>(at8 i y l a b).1⟩ s8
def inK(ks:List (List Key))(k:List Key):Bool:=ks.any fun u=>decide (u=k)
theorem a7G{ks:List (List Key)}{k:List Key}:inK ks k=true↔k∈ks:=by
 unfold inK
 rw[a1d]
 exact⟨fun⟨u,h,e⟩=>of_decide_eq_true e ▸ h,fun h=>⟨k,h,c7r rfl⟩⟩
def a8Y(ks:List (List Key))(o:Option (List Key)):List (List Key):=match o with
 | some k=>if inK ks k=true then ks else ks++[k]
 | none=>ks
def a1D(D:Nat->Option (List Key))(n:Nat):List (List Key):=((y9 n).map D).foldl a8Y []
def KM(ks:List (List Key))(g:List Key->V):List (List Key×V):=ks.map fun k=>(k,g k)
section
variable {D:Nat->Option (List Key)}{n:Nat}{k:List Key}{ks:List (List Key)}{g:List Key->V}
theorem a0B:a1D D (n+1)=a8Y (a1D D n) (D n):=by
 unfold a1D
 rw[a0q,B9,List.foldl_append];rfl
theorem b2x{o:Option (List Key)}:k∈a8Y ks o↔k∈ks\/o=some k:=by
 unfold a8Y
 cases o with
 | none=>simp
 | some u=>
  simp only
  split
  ·rename_i h
   exact⟨.inl,fun z=>z.elim id fun e=>by cases e;exact a7G.mp h⟩
  ·rw[o8,f6]
   exact⟨fun z=>z.imp id fun e=>by rw[e],fun z=>z.imp id fun e=>(Option.some.inj e).symm⟩
theorem c0B{o:Option (List Key)}(h:ks.Nodup):(a8Y ks o).Nodup:=by
 unfold a8Y
 cases o with
 | none=>exact h
 | some u=>
  simp only
  split
  ·exact h
  ·rename_i q
   rw[O5]
   exact⟨h,by simp,fun x hx y hy=>by rw[f6.mp hy];intro z;exact q (a7G.mpr (z ▸ hx))⟩
theorem b8m{o:Option (List Key)}:(a8Y ks o).length<=ks.length+1:=by
 unfold a8Y
 cases o with
 | none=>simp
 | some u=>
  simp only
  split
  ·omega
  ·simp
theorem b2r(D:Nat->Option (List Key)):∀n,(a1D D n).Nodup
 | 0=>by simp[a1D]
 | n+1=>by rw[a0B];exact c0B (b2r D n)
theorem a6N(D:Nat->Option (List Key)):∀n,(a1D D n).length<=n
 | 0=>by simp[a1D]
 | n+1=>by
  rw[a0B]
  have:=b8m (ks:=a1D D n) (o:=D n)
  have:=a6N D n
  omega
theorem a9S:∀n,i<n->D i=some k->k∈a1D D n
 | 0,h,_=>by omega
 | n+1,h,e=>by
  rw[a0B,b2x]
  by_cases q:i=n
  ·subst q;exact .inr e
  ·exact .inl (a9S n (by omega) e)
theorem c1f(ks:List (List Key))(g:List Key->V):(KM ks g).map (·.1)=ks:=by
 unfold KM
 rw[V8]
 exact(O9 fun _ _=>rfl).trans (b6y _)
theorem c3Z:(KM ks g).length=ks.length:=by unfold KM;rw[a8]
theorem c3X(ks:List (List Key))(g:List Key->V)(k:List Key):U3 (KM ks g) k=if inK ks k=true then some (g k)else none:=by
 induction ks with
 | nil=>rfl
 | cons u ks ih=>
  unfold KM U3 at ih ⊢
  rw[F3,T4]
  by_cases e:u=k
  ·rw[show decide (((u,g u):List Key×V).1=k)=true from c7r e]
   subst e
   rw[if_pos (a7G.mpr D0)];rfl
  ·rw[show decide (((u,g u):List Key×V).1=k)=false from c7q e]
   refine ih.trans ?_
   have:inK (u::ks) k=inK ks k:=by unfold inK;rw[P9,c7q e,c5v]
   rw[this]
theorem c3Y(ks:List (List Key))(g:List Key->V)(k:List Key)(v:V):a0x (KM ks g) k v=KM (a8Y ks (some k)) fun u=>if u=k then v else g u:=by
 unfold a0x
 rw[a2k,c3X]
 by_cases h:inK ks k=true
 ·rw[if_pos h,if_pos (show(some (g k)).isSome=true from rfl)]
  unfold a8Y
  simp only[if_pos h]
  unfold KM
  rw[V8]
  apply O9
  intro u _
  show(if u=k then (u,v)else (u,g u))=(u,if u=k then v else g u)
  split <;> rfl
 ·rw[if_neg h,if_neg (by intro z;cases z)]
  unfold a8Y
  simp only[if_neg h]
  unfold KM
  rw[B9]
  congr 1
  ·apply O9
   intro u hu
   show(u,g u)=(u,if u=k then v else g u)
   rw[if_neg fun z:u=k=>h (a7G.mpr (z ▸ hu))]
  ·simp
end
theorem c0U{K:Fg}(h:a4E H p)(n:Nat):Dq K H (n+1) (.ref p) (.ref p):=by
 obtain⟨kd,v1,v2,g,o1,o2,_⟩:=h
 refine .tup (SqT.of g) (SqT.of g) rfl fun j x y e1 e2=>?_
 rw[e1]at e2
 cases e2
 have m:=mI e1
 simp only[c8,j7,or_false]at m
 rcases m with rfl | rfl | rfl
 ·exact .flat rfl
 ·exact .flat o1.flat
 ·exact .flat o2.flat
theorem c2k{K:Fg}{x:Addr}{b:Bool}(h:a5h H (.ref x) b):Dq K H 2 (.ref x) (.ref x):=by
 obtain⟨p,xs,ep,hp,rS,_⟩:=h
 cases ep
 refine .tup (SqT.of hp) (SqT.of hp) rfl fun j u v e1 e2=>?_
 rw[e1]at e2
 cases e2
 have m:=mI e1
 cases rS with
 | set n p2 nm d2=>
  simp only[c8,j7,or_false]at m
  rcases m with rfl | rfl | rfl
  ·exact .flat rfl
  ·exact .flat rfl
  ·exact c0U d2 0
 | copy n w nm o=>
  simp only[c8,j7,or_false]at m
  rcases m with rfl | rfl | rfl
  ·exact .flat rfl
  ·exact .flat rfl
  ·exact .flat o.flat
 | take n nm=>
  simp only[c8,j7,or_false]at m
  rcases m with rfl | rfl <;> exact .flat rfl
 | tell w o=>
  simp only[c8,j7,or_false]at m
  rcases m with rfl | rfl
  ·exact .flat rfl
  ·exact .flat o.flat
 | ask w o=>
  simp only[c8,j7,or_false]at m
  rcases m with rfl | rfl
  ·exact .flat rfl
  ·exact .flat o.flat
 | skip=>
  simp only[c8,j7,or_false]at m
  rw[m];exact .flat rfl
theorem b9w{K:Fg}(hr:N5 H a N)(ha:H a=some (.lst (rs.map V.ref)))(hb:H b=some (.lst (rs.map V.ref))):Dq K H 3 (.ref b) (.ref a):=by
 obtain⟨rs',r1,r2,r3⟩:=hr.ex
 obtain rfl:rs'=rs:=by
  rw[ha]at r1
  exact(V9 (f:=V.ref) (fun a b h=>V.ref.inj h) |>.mp (HO.lst.inj (Option.some.inj r1))).symm
 refine .lst (SqL.of hb) (SqL.of ha) rfl fun j x y f1 f2=>?_
 rw[f1]at f2
 cases f2
 rw[b8]at f1
 cases e:rs'[j]? with
 | none=>rw[e]at f1;cases f1
 | some z=>
  rw[e]at f1
  cases f1
  have hj:=(gI e)
  exact c2k (r3 j z _ e (F1 (by omega)))
theorem b8g{K:Fg}(ha:C8 H a N)(hb:C8 H b N):Dq K H 2 (.ref a) (.ref b):=by
 obtain⟨as,a1,a2,a3⟩:=ha.ex
 obtain⟨bs,b1,b2,b3⟩:=hb.ex
 refine .lst (SqL.of a1) (SqL.of b1) (by simp[a2,b2]) fun j x y f1 f2=>?_
 rw[b8]at f1 f2
 cases e1:as[j]? with
 | none=>rw[e1]at f1;cases f1
 | some u=>
  cases e2:bs[j]? with
  | none=>rw[e2]at f2;cases f2
  | some v=>
   rw[e1]at f1
   rw[e2]at f2
   cases f1
   cases f2
   have hj:=(gI e1)
   have hl:=F1 (show j<N.length by omega)
   refine .lst (SqL.of (a3 j u _ e1 hl)) (SqL.of (b3 j v _ e2 hl)) rfl fun i p q g1 g2=>?_
   rw[g1]at g2
   cases g2
   exact .flat (M8.mp (b4U _) _ (mI g1))
abbrev Al:=List (Str×V)
variable{B:Al}
def KD(A:Al):List (Key×V):=A.map fun p=>(Sum.inr p.1,p.2)
def ndA(A:Al):Prop:=(A.map (·.1)).Nodup
def sbV(xs:List V):Option Str:=match xs with
 | .str k :: .str n::_=>if k=("set" : Str)\/k=("copy" : Str)\/k=("take" : Str)then some n else none
 | _=>none
def cpV(xs:List V):Option (Str×V):=match xs with
 | [.str k,.str n,v]=>if k=("copy" : Str)then some (n,v)else none
 | _=>none
def a4k(xs:List V)(n:Str)(v:V):Bool:=decide (cpV xs=some (n,v))
def a8X(xs:List V)(n:Str)(v:V):Bool := !a4k xs n v&&match sbV xs with
 | some m=>decide (m=n)||decide (v=.str m)
 | none=>false
def BhM(xs:List V)(A:Al)(n:Str)(v:V):Prop:=((n,v)∈A/\∀m,sbV xs=some m->n≠m/\v≠.str m)\/(cpV xs=some (n,v)/\v≠.str n)
abbrev UnC(N:Nt)(RC:Nat->List V)(n:Str)(v:V)(t:Nat):Prop:=UnR N (fun i=>a4k (RC i) n v) (fun i=>a8X (RC i) n v) t
section
variable {A M:Al}{n:Str}
theorem a2b:(KD A).length=A.length:=by unfold KD;rw[a8]
theorem b1p{p:Str×V}:KD (p::A)=(Sum.inr p.1,p.2)::KD A:=rfl
theorem a1F(nd:ndA A):U3 (KD A) (Sum.inr n)=some v↔(n,v)∈A:=by
 induction A with
 | nil=>constructor <;> intro h <;> cases h
 | cons p A ih=>
  obtain⟨n1,n2⟩:=L3.mp nd
  rw[b1p]
  by_cases e:p.1=n
  ·rw[a3w (by rw[e])]
   constructor
   ·intro h
    cases h
    rw[<-e]
    exact D0 ..
   ·intro h
    rcases c8.mp h with z | z
    ·rw[<-z]
    ·exact(n1 (u8.mpr ⟨_,z,e.symm⟩)).elim
  ·rw[a2j (by intro z;exact e (Sum.inr.inj z)),ih n2]
   exact⟨fun h=>C3 _ h,fun h=>(c8.mp h).elim (fun z=>(e (by rw[<-z])).elim) id⟩
theorem b1o(nd:ndA A):U3 (KD A) (Sum.inr n)=none↔∀v,(n,v)∉A:=by
 constructor
 ·intro h v m
  rw[(a1F nd).mpr m]at h
  cases h
 ·intro h
  cases z:U3 (KD A) (Sum.inr n)with
  | none=>rfl
  | some v=>exact(h v ((a1F nd).mp z)).elim
theorem b1n(h:∀v,(n,v)∉A):a0x (KD A) (Sum.inr n) v=KD (A++[(n,v)]):=by
 unfold a0x
 rw[if_neg]
 ·unfold KD
  rw[B9];rfl
 ·rw[a1d]
  rintro⟨q,hq,e⟩
  obtain⟨p,hp,rfl⟩:=u8.mp hq
  have e:=Sum.inr.inj (of_decide_eq_true e)
  exact h p.2 (by rw[<-e];exact hp)
theorem b2s(nd:ndA A)(h:∀v,(n,v)∉A):ndA (A++[(n,v)]):=by
 unfold ndA
 rw[B9,O5]
 refine⟨nd,by simp,fun a ha b hb e=>?_⟩
 obtain⟨p,hp,rfl⟩:=u8.mp ha
 simp at hb
 exact h p.2 (by rw[<-hb,<-e];exact hp)
theorem b8j(nd:ndA A)(h1:(n,v)∈A)(h2:(n,w)∈A):v=w:=Option.some.inj (((a1F nd).mpr h1).symm.trans ((a1F nd).mpr h2))
theorem b4G:∀(l m:List Str),l.Nodup->(∀x∈l,x∈m)->l.length<=m.length
 | [],m,_,_=>L5 _
 | x::l,m,nd,h=>by
  obtain⟨n1,n2⟩:=L3.mp nd
  have hx:=h x (D0 ..)
  have:=b4G l (m.erase x) n2 fun y hy=>(b6x (fun e=>n1 (by rw[<-e];exact hy))).mpr (h y (C3 _ hy))
  rw[a3n hx]at this
  have:=a4j hx
  rw[v9]
  omega
end
structure StI(N:Nt)(RC:Nat->List V)(S:Nat->Option Al):Prop where
 z:S 0=some []
 nd:∀t A,S t=some A->ndA A
 cp:∀t A,S t=some A->∀n v,v≠.str n->¬UnC N RC n v t->(n,v)∈A
 src:∀t A,S t=some A->∀p∈A,p.2≠.str p.1/\∃i,i<N.length/\cpV (RC i)=some p
def a5A(S:Nat->Option Al)(t:Nat)(M:Al):Nat->Option Al:=fun j=>if j=t then some M else S j
def szS(N:Nt)(S:Nat->Option Al)(t:Nat):Nat:=match S t with
 | none=>N.length+1
 | some A=>A.length
def muS(N:Nt)(S:Nat->Option Al):Nat:=((y9 N.length).map (szS N S)).sum
section
variable {S:Nat->Option Al}{A A1 At M:Al}{k t:Nat}
theorem StI.le(h:StI N RC S)(e:S t=some A):A.length<=N.length:=by
 have nd:(A.map Prod.fst).Nodup:=h.nd t A e
 have:=b4G (A.map Prod.fst) ((y9 N.length).filterMap fun i=>(cpV (RC i)).map Prod.fst) nd fun x hx=>by
  obtain⟨p,hp,rfl⟩:=u8.mp hx
  obtain⟨_,i,hi,hc⟩:=h.src t A e p hp
  exact a7r.mpr ⟨i,U7.mpr hi,by rw[hc];rfl⟩
 rw[a8]at this
 exact A9 this (A9 (List.length_filterMap_le _ _) (by rw[a3b];exact d9 _))
theorem b7j(f:Nat->Nat)(a:Nat):∀n,t<n->((y9 n).map fun j=>if j=t then a else f j).sum+f t=((y9 n).map f).sum+a
 | 0,h=>by omega
 | n+1,h=>by
  rw[a0q,B9,B9,c4d,c4d]
  simp only[F3,a7M,List.sum_cons,List.sum_nil,Nat.add_zero]
  by_cases e:n=t
  ·rw[if_pos e]
   have:((y9 n).map fun j=>if j=t then a else f j)=(y9 n).map f:=O9 fun j hj=>by rw[if_neg (by have:=U7.mp hj;omega)]
   rw[this,e]
   omega
  ·rw[if_neg e]
   have:=b7j f a n (by omega)
   omega
theorem b8k(ht:t<N.length):muS N (a5A S t M)+szS N S t=muS N S+M.length:=by
 unfold muS
 have:(y9 N.length).map (szS N (a5A S t M))=(y9 N.length).map fun j=>if j=t then M.length else szS N S j:=O9 fun j _=>by
  unfold szS a5A
  by_cases e:j=t
  ·rw[if_pos e,if_pos e]
  ·rw[if_neg e,if_neg e]
 rw[this]
 exact b7j (szS N S) M.length N.length ht
theorem StI.put(h:StI N RC S)(hl:N[k]? = some l)(hcp:∀n v,v≠.str n->¬UnC N RC n v k->(n,v)∈A)(hsrc:∀p∈A,p.2≠.str p.1/\∃i,i<N.length/\cpV (RC i)=some p)(ht:t∈l)(h1:∀n v,(n,v)∈A1↔BhM (RC k) A n v)(nM:ndA M)(hM:(S t=none/\M=A1)\/∃At,S t=some At/\∀n v,(n,v)∈M↔(n,v)∈At/\(n,v)∈A1):StI N RC (a5A S t M):=by
 have hkn:=(gI hl)
 have inA1:∀n v,v≠.str n->¬UnC N RC n v t->(n,v)∈A1:=fun n v nv un=>by
  refine(h1 n v).mpr ?_
  by_cases d:a4k (RC k) n v=true
  ·exact .inr ⟨of_decide_eq_true d,nv⟩
  ·have d:a4k (RC k) n v=false:=by simpa using d
   have sp:a8X (RC k) n v=false:=by
    cases z:a8X (RC k) n v with
    | false=>rfl
    | true=>exact(un (.spoil hl ht z)).elim
   refine .inl ⟨hcp n v nv fun z=>un (.step z d hl ht),fun m hm=>?_⟩
   unfold a8X at sp
   rw[d,hm]at sp
   simp at sp
   exact⟨fun e=>sp.1 e.symm,sp.2⟩
 have srcA1:∀p∈A1,p.2≠.str p.1/\∃i,i<N.length/\cpV (RC i)=some p:=fun p hp=>by
  rcases(h1 p.1 p.2).mp hp with ⟨a,_⟩ | ⟨a,b⟩
  ·exact hsrc p a
  ·exact⟨b,k,hkn,a⟩
 have other:∀ {P:Nat->Al->Prop},(∀u A,S u=some A->P u A)->P t M->∀u A,a5A S t M u=some A->P u A:=fun {P} f g u A e=>by
  unfold a5A at e
  split at e
  ·rename_i q
   cases e
   rw[q];exact g
  ·exact f u A e
 refine⟨?_,other h.nd nM,other h.cp fun n v nv un=>?_,other h.src fun p hp=>?_⟩
 ·unfold a5A
  split
  ·rename_i q
   rcases hM with ⟨a,_⟩ | ⟨At,a,b⟩
   ·rw[<-q,h.z]at a;cases a
   ·rw[<-q,h.z]at a
    cases a
    cases M with
    | nil=>rfl
    | cons p M=>exact nomatch ((b p.1 p.2).mp (D0 ..)).1
  ·exact h.z
 ·rcases hM with ⟨_,rfl⟩ | ⟨At,a,b⟩
  ·exact inA1 n v nv un
  ·exact(b n v).mpr ⟨h.cp t At a n v nv un,inA1 n v nv un⟩
 ·rcases hM with ⟨_,rfl⟩ | ⟨At,a,b⟩
  ·exact srcA1 p hp
  ·exact srcA1 p ((b p.1 p.2).mp hp).2
def ClS(N:Nt)(RC:Nat->List V)(S:Nat->Option Al)(k:Nat):Prop:=∀l A,N[k]? = some l->S k=some A->∀t∈l,∃A',S t=some A'/\∀n v,(n,v)∈A'->BhM (RC k) A n v
theorem StI.all(h:StI N RC S)(cl:∀k,ClS N RC S k):∀t,Rc N t->∃A,S t=some A:=by
 intro t r
 induction r with
 | zero=>exact⟨[],h.z⟩
 | step _ hl ht ih=>
  obtain⟨A,hA⟩:=ih
  obtain⟨A',h1,_⟩:=cl _ _ _ hl hA _ ht
  exact⟨A',h1⟩
theorem StI.fin(h:StI N RC S)(hv:a0s N)(cl:∀k,ClS N RC S k)(ht:t<N.length):∃A,S t=some A/\ndA A/\∀n v,(n,v)∈A↔v≠.str n/\¬UnC N RC n v t:=by
 obtain⟨A,hA⟩:=h.all cl t (hv.rc t ht)
 refine⟨A,hA,h.nd t A hA,fun n v=>⟨fun m=>⟨(h.src t A hA _ m).1,fun un=>?_⟩,fun m=>h.cp t A hA n v m.1 m.2⟩⟩
 have key:∀u,UnC N RC n v u->∀A,S u=some A->(n,v)∉A:=by
  intro u un
  induction un with
  | zero=>
   intro A e m
   rw[h.z]at e
   cases e
   cases m
  | @spoil p u l hl hu sp=>
   intro A e m
   obtain⟨Ap,hp⟩:=h.all cl p (hv.rc p (gI hl))
   obtain⟨A',e',b⟩:=cl p l Ap hl hp u hu
   rw[e]at e'
   cases e'
   unfold a8X at sp
   rw[Q3,a0I]at sp
   rcases b n v m with ⟨_,g⟩ | ⟨g,_⟩
   ·cases z:sbV (RC p)with
    | none=>rw[z]at sp;exact nomatch sp.2
    | some q=>
     rw[z]at sp
     obtain⟨g1,g2⟩:=g q z
     rcases Bool.or_eq_true _ _ ▸ sp.2 with w | w
     ·exact g1 (of_decide_eq_true w).symm
     ·exact g2 (of_decide_eq_true w)
   ·exact nomatch sp.1.symm.trans (c7r g)
  | @step p u l _ d hl hu ih=>
   intro A e m
   obtain⟨Ap,hp⟩:=h.all cl p (hv.rc p (gI hl))
   obtain⟨A',e',b⟩:=cl p l Ap hl hp u hu
   rw[e]at e'
   cases e'
   rcases b n v m with ⟨g,_⟩ | ⟨g,_⟩
   ·exact ih Ap hp g
   ·exact nomatch d.symm.trans (c7r g)
 exact key t un A hA m
end
theorem c1w{P:Addr->Prop}(h:ta σ H fun x H1=>∃a kvs,x=.ref a/\H1 a=some (.dK kvs)/\(P a->∀ob,R (Itk ob a kvs) (upd H1 a (.frz ob (.dK kvs))))):b4c P ta σ H R:=h
def FlA(A:Al):Prop:=∀p∈A,OpN p.2
def nmV(o:Option Str):V:=match o with
 | some s=>.str s
 | none=>.non
theorem b8f(o:Option Str):nmV o=.non\/∃s,nmV o=.str s:=by
 cases o with
 | none=>exact .inl rfl
 | some s=>exact .inr ⟨s,rfl⟩
def a2p(o:Option Str)(A:Al):Al:=A.filter fun p => !decide (V.str p.1=nmV o) && !decide (p.2=nmV o)
theorem a9W{α:Type}{l:List α}{f:α->Bool}{s:α}(h:l[i]? = some s):(l.take (i+1)).filter f=(l.take i).filter f++if f s=true then [s] else []:=by
 rw[E6,h,a2f]
 congr 1
 simp only[Option.toList_some,List.filter_cons,List.filter_nil]
theorem ndA.sub{A:Al}(h:ndA A)(s:List.Sublist B A):ndA B:=List.Nodup.sublist (s.map _) h
section
variable {K:Fg}{ka kb:Addr}{A:Al}{E:XK}
theorem b8c(h:OpN v)(hw:w=.non\/∃s,w=.str s):b0r v w=true:=by
 rcases h with ⟨s,rfl,_⟩ | ⟨n,rfl,_⟩ <;> rcases hw with rfl | ⟨s,rfl⟩ <;> rfl
theorem b4F(h:OpN v)(hw:w=.non\/∃s,w=.str s):eqO v w H=some (decide (v=w)):=by
 unfold eqO
 rw[if_pos (b8c h hw)]
theorem c4w{s:Str}(hw:w=.non\/∃s,w=.str s):eqO (.str s) w H=some (decide (V.str s=w)):=by
 unfold eqO
 rw[if_pos (by rcases hw with rfl | ⟨u,rfl⟩ <;> rfl)]
theorem a8A{o:Option Str}{n:Str}(fl:FlA A):(n,v)∈a2p o A↔(n,v)∈A/\∀m,o=some m->n≠m/\v≠.str m:=by
 unfold a2p
 rw[J7]
 constructor
 ·rintro⟨h,g⟩
  rw[Q3,a0I,a0I,decide_eq_false_iff_not,decide_eq_false_iff_not]at g
  refine⟨h,fun m e=>?_⟩
  subst e
  exact⟨fun z=>g.1 (by rw[z];rfl),g.2⟩
 ·rintro⟨h,g⟩
  refine⟨h,?_⟩
  rw[Q3,a0I,a0I,decide_eq_false_iff_not,decide_eq_false_iff_not]
  cases o with
  | none=>exact⟨nofun,fun z=>by rcases fl _ h with ⟨s,e,_⟩ | ⟨i,e,_⟩ <;> rw[show v=_ from e]at z <;> cases z⟩
  | some m=>exact⟨fun z=>(g m rfl).1 (V.str.inj z),(g m rfl).2⟩
theorem c2p{l:Addr}{ss:List Str}{s:Str}(h:H l=some (.lst (ss.map V.str)))(k:Q (.bl (decide (s∈ss))) H):qIn false (.str s) (.ref l) H Q:=by
 have e:inV (.str s) (ss.map V.str)=decide (s∈ss):=by
  unfold inV
  rw[L4,a1d,decide_eq_true_iff]
  constructor
  ·rintro⟨z,hz,e⟩
   obtain⟨u,hu,rfl⟩:=u8.mp hz
   have:u=s:=by simpa[eqV]using e
   rw[<-this];exact hu
  ·intro h
   exact⟨_,u8.mpr ⟨s,h,rfl⟩,by simp[eqV]⟩
 unfold qIn
 simp only[h]
 refine⟨rfl,?_,?_⟩
 ·rw[M8]
  intro x hx
  obtain⟨u,_,rfl⟩:=u8.mp hx
  rfl
 ·rw[e];exact k
theorem b6m(hr:b1j H p xs)(ha:H ka=some (.dK (KD A)))(nd:ndA A)(fl:FlA A)(lA:A.length<=400)
  (k:∀d A' H',H d=none->H' d=some (.dK (KD A'))->ndA A'->FlA A'->(∀n v,(n,v)∈A'↔BhM xs A n v)->o6 H H'->Q (.ref d) H'):a4b K [.ref p,.ref ka] H Q E:=by
 obtain⟨hp,rS⟩:=id hr
 refine⟨rfl,?_⟩
 unfold b1P
 nofun
 exact_mod_cast a1y (P:=fun σ H1=>σ=[some (.ref p),some (.ref ka),some (nmV (sbV xs)),none,none]/\o6 H H1) ?_ ?_
 rotate_left
 ·intro nx hnx
  obtain⟨k0,r,rfl⟩:=rS.head
  ext
  exists z5 hp (Q5 _ _) ?_
  refine D5 (by simp) fun l H1 hl e1 s1=>?_
  refine c2p (ss:=["set","copy","take"]) e1 ?_
  refine⟨_,rfl,?_⟩
  have hp1:=s1 _ _ hp
  cases rS with
  | set n p2 nm d2=>
   exists A7 (by decide) ?_
   exists z5 hp1 (a0o _ _ _) ?_
   exact hnx _ _ ⟨rfl,s1⟩
  | copy n v nm o=>
   exists A7 (by decide) ?_
   exists z5 hp1 (a0o _ _ _) ?_
   exact hnx _ _ ⟨rfl,s1⟩
  | take n nm=>
   exists A7 (by decide) ?_
   exists z5 hp1 (a0o _ _ _) ?_
   exact hnx _ _ ⟨rfl,s1⟩
  | tell v o=>
   exists o4 (by decide) ?_
   exact hnx _ _ ⟨by rcases o with ⟨s,rfl,_⟩ | ⟨i,rfl,_⟩ <;> rfl,s1⟩
  | ask v o=>
   exists o4 (by decide) ?_
   exact hnx _ _ ⟨by rcases o with ⟨s,rfl,_⟩ | ⟨i,rfl,_⟩ <;> rfl,s1⟩
  | skip=>
   exists o4 (by decide) ?_
   exact hnx _ _ ⟨rfl,s1⟩
 rintro _ H1 ⟨rfl,s1⟩
 have hw:=b8f (sbV xs)
 nofun
 refine a6A fun d H2 hd e2 s2=>?_
 have s02:=s1.trans s2
 have hd0:H d=none:=s1.free hd
 have ha2:=s02 _ _ ha
 have nda:d≠ka:=(c7 (s1 _ _ ha) hd).symm
 ext
 exact_mod_cast Q2 ?_
 intro PP
 specialize Y6 (c1w ?_)
 refine⟨ka,KD A,rfl,ha2,fun hP ob=>?_⟩
 refine a9V (J:=Itk ob ka (KD A)) A.length (fun i σ Hi=>∃y4,σ=[some (.ref p),some (.ref ka),some (nmV (sbV xs)),some (.ref d),y4]/\Hi d=some (.dK (KD (a2p (sbV xs) (A.take i))))/\Hi ka=some (.frz ob (.dK (KD A)))/\∀b o,H2 b=some o->b≠d->b≠ka->Hi b=some o) ⟨_,rfl,by rw[c9 nda];exact e2,c6,fun b o e _ n2=>by rw[c9 n2];exact e⟩ ?_ ?_ ?_
 ·rintro _ Hi ⟨y4,rfl,hdi,hki,oth⟩
  rw[M7]at hdi
  refine⟨⟨by rw[a2b];exact d9 _,hki⟩,ka,ob,KD A,hki,hP,?_⟩
  obtain⟨H4,hH4⟩:∃H4,H4=upd Hi ka (.dK (KD A)):=⟨_,rfl⟩
  have d4:H4 d=some (.dK (KD (a2p (sbV xs) A))):=by rw[hH4,c9 nda];exact hdi
  have s04:o6 H H4:=fun b o e=>by
   by_cases z:b=ka
   ·rw[z,ha]at e
    cases e
    rw[z,hH4];exact c6
   ·rw[hH4,c9 z]
    exact oth b o (s02 _ _ e) (c7 e hd0) z
  rw[<-hH4]
  have lk:(a2p (sbV xs) A).length<=400:=A9 (M0 _ _) lA
  have ndk:ndA (a2p (sbV xs) A):=nd.sub a6f
  have flk:FlA (a2p (sbV xs) A):=fun q hq=>fl q (J7.mp hq).1
  have hp4:=s04 _ _ hp
  have plain:cpV xs=none\/(∃n v,cpV xs=some (n,v)/\v=.str n)->∀n v,(n,v)∈a2p (sbV xs) A↔BhM xs A n v:=fun h n v=>by
   rw[a8A fl]
   unfold BhM
   constructor
   ·exact .inl
   ·rintro(z | ⟨z1,z2⟩)
    ·exact z
    ·rcases h with h | ⟨n',v',h,h'⟩
     ·rw[h]at z1;cases z1
     ·rw[h]at z1
      cases z1
      exact(z2 h').elim
  exact_mod_cast Q2 ?_
  obtain⟨k0,r,rfl⟩:=rS.head
  ext
  exists z5 hp4 (Q5 _ _) ?_
  cases rS with
  | copy n v nm o=>
   exists A7 (by decide) ?_
   exists z5 hp4 (a6a _ _ _ _) ?_
   refine⟨_,b4F o hw,?_⟩
   refine⟨_,rfl,?_⟩
   by_cases z:v=.str n
   ·exists o4 (by rw[c7r (show v=nmV (sbV [.str "copy",.str n,v])from z)];rfl) ?_
    exact k d _ H4 hd0 d4 ndk flk (plain (.inr ⟨n,v,rfl,z⟩)) s04
   ·refine A7 (by rw[c7q (show ¬v=nmV (sbV [.str "copy",.str n,v])from z)];rfl) ?_
    have no:∀u,(n,u)∉a2p (sbV [.str "copy",.str n,v]) A:=fun u m=>((a8A fl).mp m).2 n rfl |>.1 rfl
    specialize a2K ?_
    exists z5 hp4 (a6a _ _ _ _) ?_
    refine⟨d,_,rfl,a5i.k (k:=Sum.inr n) d4 (E8 (by rw[a2b];omega)),?_⟩
    rw[b1n no]
    ext
    refine k d _ _ hd0 c6 (b2s ndk no) (fun q hq=>?_) (fun n' v'=>?_) fun b o e=>by rw[c9 (c7 e hd0)];exact s04 _ _ e
    ·rcases o8.mp hq with y | y
     ·exact flk q y
     ·rw[f6.mp y];exact o
    ·rw[o8,a8A fl,f6]
     unfold BhM
     refine or_congr Iff.rfl ⟨fun y=>?_,fun⟨y,_⟩=>?_⟩
     ·cases y;exact⟨rfl,z⟩
     ·exact(Option.some.inj y).symm
  | set n p2 nm d2=>
   refine o4 (by decide) ?_
   exists o4 rfl ?_
   exact k d _ H4 hd0 d4 ndk flk (plain (.inl rfl)) s04
  | take n nm=>
   refine o4 (by decide) ?_
   exists o4 rfl ?_
   exact k d _ H4 hd0 d4 ndk flk (plain (.inl rfl)) s04
  | tell v o=>
   refine o4 (by decide) ?_
   exists o4 rfl ?_
   exact k d _ H4 hd0 d4 ndk flk (plain (.inl (by rcases o with ⟨s,rfl,_⟩ | ⟨i,rfl,_⟩ <;> rfl))) s04
  | ask v o=>
   refine o4 (by decide) ?_
   exists o4 rfl ?_
   exact k d _ H4 hd0 d4 ndk flk (plain (.inl (by rcases o with ⟨s,rfl,_⟩ | ⟨i,rfl,_⟩ <;> rfl))) s04
  | skip=>
   refine o4 (by decide) ?_
   exists o4 rfl ?_
   exact k d _ H4 hd0 d4 ndk flk (plain (.inl rfl)) s04
 ·rintro i _ Hi hi ⟨y4,rfl,hdi,hki,oth⟩
  exact⟨by rw[a2b];exact hi,hki⟩
 ·rintro i _ Hi0 hi ⟨y4,rfl,hdi,hki,oth⟩ v Hi ⟨rfl,kk,hk,rfl⟩
  unfold KD at hk
  rw[b8]at hk
  obtain⟨⟨n,v⟩,hq,rfl⟩:=l6.mp hk
  have mq:=mI hq
  have tk:a2p (sbV xs) (A.take (i+1))=a2p (sbV xs) (A.take i)++if(!decide (V.str n=nmV (sbV xs)) && !decide (v=nmV (sbV xs)))=true then [(n,v)] else []:=a9W hq
  have gt:a1a Hi ka (.str n) (some v):=.inl ⟨KD A,Sum.inr n,.inr ⟨ob,hki⟩,rfl,((a1F nd).mpr mq).symm⟩
  ext
  refine⟨_,c4w hw,?_⟩
  refine⟨_,rfl,?_⟩
  by_cases z1:V.str n=nmV (sbV xs)
  ·rw[c7r z1]at tk
   rw[c5u,c4m,if_neg (by decide),a1G]at tk
   refine o4 (by rw[c7r z1];rfl) ?_
   exists o4 rfl ?_
   exact⟨_,rfl,by rw[tk];exact hdi,hki,oth⟩
  rw[c7q z1,b1z,b2Y]at tk
  exists A7 (by rw[c7q z1];rfl) ?_
  specialize a6B ?_
  exists ⟨ka,v,rfl,gt,?_⟩
  refine⟨_,b4F (fl _ mq) hw,?_⟩
  refine⟨_,rfl,?_⟩
  by_cases z2:v=nmV (sbV xs)
  ·rw[c7r z2,c5u,if_neg (by decide),a1G]at tk
   exists o4 (by rw[c7r z2];rfl) ?_
   exact⟨_,rfl,by rw[tk];exact hdi,hki,oth⟩
  rw[c7q z2,b1z,if_pos rfl]at tk
  refine A7 (by rw[c7q z2];rfl) ?_
  have no:∀u,(n,u)∉a2p (sbV xs) (A.take i):=fun u m=>by
   have m1:=(J7.mp m).1
   have nd':ndA (A.take (i+1)):=nd.sub (a7L _ _)
   rw[E6,hq]at nd'
   unfold ndA at nd'
   rw[B9,O5]at nd'
   exact nd'.2.2 n (u8.mpr ⟨_,m1,rfl⟩) n (by simp) rfl
  have lt:(a2p (sbV xs) (A.take i)).length<=400:=by
   refine A9 (M0 _ _) ?_
   rw[J8];omega
  exact_mod_cast a2K ?_
  specialize a6B ?_
  exists ⟨ka,v,rfl,gt,?_⟩
  refine⟨d,_,rfl,a5i.k (k:=Sum.inr n) hdi (E8 (by rw[a2b];omega)),?_⟩
  rw[b1n no]
  exact⟨_,rfl,by rw[tk];exact c6,by rw[c9 nda.symm];exact hki,fun b o e n1 n2=>by rw[c9 n1];exact oth b o e n1 n2⟩
end
section
variable {K:Fg}{ka kb:Addr}{A:Al}{S:Nat->Option Al}{E:XK}
theorem c1E(h:OpN v)(g:OpN w):eqO v w H=some (decide (v=w)):=by
 unfold eqO
 rw[if_pos (by rcases h with ⟨s,rfl,_⟩ | ⟨n,rfl,_⟩ <;> rcases g with ⟨u,rfl,_⟩ | ⟨m,rfl,_⟩ <;> rfl)]
theorem c0X(h1:H ka=some (.dK (KD A)))(h2:H kb=some (.dK (KD B)))(n1:ndA A)(n2:ndA B)(f1:FlA A)(f2:FlA B)(lA:A.length<=400)
  (k:∀d H',H d=none->H' d=some (.dK (KD (A.filter fun p=>decide (p∈B))))->o6 H H'->Q (.ref d) H'):a5z K [.ref ka,.ref kb] H Q E:=by
 refine⟨rfl,?_⟩
 unfold b7i
 nofun
 refine a6A fun d H2 hd e2 s2=>?_
 have ha2:=s2 _ _ h1
 have hb2:=s2 _ _ h2
 have nda:d≠ka:=(c7 h1 hd).symm
 have ndb:d≠kb:=(c7 h2 hd).symm
 ext
 exact_mod_cast Q2 ?_
 intro PP
 specialize Y6 (c1w ?_)
 refine⟨ka,KD A,rfl,ha2,fun hP ob=>?_⟩
 refine a9V (J:=Itk ob ka (KD A)) A.length (fun i σ Hi=>∃y3,σ=[some (.ref ka),some (.ref kb),some (.ref d),y3]/\Hi d=some (.dK (KD ((A.take i).filter fun p=>decide (p∈B))))/\Hi ka=some (.frz ob (.dK (KD A)))/\∀b o,H2 b=some o->b≠d->b≠ka->Hi b=some o) ⟨_,rfl,by rw[c9 nda];exact e2,c6,fun b o e _ n2=>by rw[c9 n2];exact e⟩ ?_ ?_ ?_
 ·rintro _ Hi ⟨y3,rfl,hdi,hki,oth⟩
  rw[M7]at hdi
  exists ⟨⟨by rw[a2b];exact d9 _,hki⟩,ka,ob,KD A,hki,hP,?_⟩
  refine k d _ hd (by rw[c9 nda];exact hdi) fun b o e=>?_
  by_cases z:b=ka
  ·rw[z,h1]at e
   cases e
   rw[z];exact c6
  ·rw[c9 z]
   exact oth b o (s2 _ _ e) (c7 e hd) z
 ·rintro i _ Hi hi ⟨y3,rfl,hdi,hki,oth⟩
  exact⟨by rw[a2b];exact hi,hki⟩
 ·rintro i _ Hi0 hi ⟨y3,rfl,hdi,hki,oth⟩ v Hi ⟨rfl,kk,hk,rfl⟩
  unfold KD at hk
  rw[b8]at hk
  obtain⟨⟨n,v⟩,hq,rfl⟩:=l6.mp hk
  have mq:=mI hq
  have tk:(A.take (i+1)).filter (fun p=>decide (p∈B))=(A.take i).filter (fun p=>decide (p∈B))++if decide ((n,v)∈B)=true then [(n,v)] else []:=a9W hq
  have ga:a1a Hi ka (.str n) (some v):=.inl ⟨KD A,Sum.inr n,.inr ⟨ob,hki⟩,rfl,((a1F n1).mpr mq).symm⟩
  have rb:Rd Hi kb (.dK (KD B)):=by
   by_cases z:kb=ka
   ·rw[z,h1]at h2
    rw[z,<-Option.some.inj h2]
    exact .inr ⟨ob,hki⟩
   ·exact .inl (oth _ _ hb2 ndb.symm z)
  have gb:a1a Hi kb (.str n) (U3 (KD B) (Sum.inr n)):=.inl ⟨KD B,Sum.inr n,rb,rfl,rfl⟩
  ext
  specialize b2e ?_
  refine⟨kb,_,rfl,gb,?_⟩
  refine⟨_,rfl,?_⟩
  have skip:(n,v)∉B->∃y3,[some (V.ref ka),some (.ref kb),some (.ref d),some (.str n)]=[some (.ref ka),some (.ref kb),some (.ref d),y3]/\Hi d=some (.dK (KD ((A.take (i+1)).filter fun p=>decide (p∈B))))/\Hi ka=some (.frz ob (.dK (KD A)))/\∀b o,H2 b=some o->b≠d->b≠ka->Hi b=some o:=fun m=>by
   rw[c7q m,if_neg (by decide),a1G]at tk
   exact⟨_,rfl,by rw[tk];exact hdi,hki,oth⟩
  cases hw:U3 (KD B) (Sum.inr n)with
  | none=>
   refine o4 rfl ?_
   exists o4 rfl ?_
   exact skip ((b1o n2).mp hw v)
  | some w=>
   rw[hw]at gb
   have mw:=(a1F n2).mp hw
   exists A7 rfl ?_
   specialize a6B ?_
   refine⟨ka,v,rfl,ga,?_⟩
   specialize a6B ?_
   refine⟨kb,w,rfl,gb,?_⟩
   refine⟨_,c1E (f1 _ mq) (f2 _ mw),?_⟩
   refine⟨_,rfl,?_⟩
   by_cases z:v=w
   ·refine A7 (c7r z) ?_
    rw[c7r (show(n,v)∈B by rw[z];exact mw),if_pos rfl]at tk
    have no:∀u,(n,u)∉(A.take i).filter fun p=>decide (p∈B):=fun u m=>by
     have m1:=(J7.mp m).1
     have nd':ndA (A.take (i+1)):=n1.sub (a7L _ _)
     rw[E6,hq]at nd'
     unfold ndA at nd'
     rw[B9,O5]at nd'
     exact nd'.2.2 n (u8.mpr ⟨_,m1,rfl⟩) n (by simp) rfl
    have lt:((A.take i).filter fun p=>decide (p∈B)).length<=400:=by
     refine A9 (M0 _ _) ?_
     rw[J8];omega
    exact_mod_cast a2K ?_
    specialize a6B ?_
    exists ⟨ka,v,rfl,ga,?_⟩
    refine⟨d,_,rfl,a5i.k (k:=Sum.inr n) hdi (E8 (by rw[a2b];omega)),?_⟩
    rw[b1n no]
    exact⟨_,rfl,by rw[tk];exact c6,by rw[c9 nda.symm];exact hki,fun b o e n1 n2=>by rw[c9 n1];exact oth b o e n1 n2⟩
   ·exists o4 (c7q z) ?_
    exact skip fun m=>z (b8j n2 m mw)
def StA(N:Nt)(H:Hp)(vs:List V)(S:Nat->Option Al):Prop:=vs.length=N.length/\∀t,t<N.length->(S t=none/\vs[t]? = some .non)\/∃A d,S t=some A/\vs[t]? = some (.ref d)/\H d=some (.dK (KD A))/\FlA A
theorem StA.same{vs:List V}(h:StA N H vs S)(s:o6 H H'):StA N H' vs S:=⟨h.1,fun t ht=>(h.2 t ht).imp id fun⟨A,d,a,b,c,e⟩=>⟨A,d,a,b,s _ _ c,e⟩⟩
theorem StA.put{vs:List V}{sa:Addr}{t:Nat}{M:Al}(h:StA N H vs S)(hs:H sa=some (.lst vs))(ht:t<N.length)(hd:H d=some (.dK (KD M)))(fM:FlA M):StA N (upd H sa (.lst (vs.set t (.ref d)))) (vs.set t (.ref d)) (a5A S t M):=by
 have up:∀ {a:Addr} {kvs:List (Key×V)} {zs:List V},H a=some (.dK kvs)->upd H sa (.lst zs) a=some (.dK kvs):=fun e=>by rw[c9 (G0 e hs (by intro z;cases z))];exact e
 refine⟨by rw[W3];exact h.1,fun u hu=>?_⟩
 unfold a5A
 rw[List.getElem?_set]
 by_cases e:t=u
 ·rw[if_pos e,if_pos e.symm,if_pos (by rw[h.1];omega)]
  exact .inr ⟨M,d,rfl,rfl,up hd,fM⟩
 ·rw[if_neg e,if_neg (Ne.symm e)]
  exact(h.2 u hu).imp id fun⟨A,d,a,b,c,f⟩=>⟨A,d,a,b,up c,f⟩
theorem b2C(nd:ndA A)(fl:FlA A):∀B:Al,(∀p∈B,p∈A)->b5U (KD A) (KD B)=true
 | [],_=>rfl
 | p::B,h=>by
  rw[b1p]
  unfold b5U
  have m:=h p (D0 ..)
  simp only[(a1F nd).mpr (show(p.1,p.2)∈A from m)]
  rw[b2D (fl p m).flat,b2C nd fl B fun q hq=>h q (C3 _ hq)]
  rfl
theorem c1g(fl:FlA A):(KD A).all (fun p=>E9 p.2)=true:=by
 rw[M8]
 intro q hq
 obtain⟨p,hp,rfl⟩:=u8.mp hq
 exact(fl p hp).flat
theorem b8O(fl:FlA A):∀k y,U3 (KD A) k=some y->E9 y=true:=fun k y h=>by
 unfold U3 at h
 obtain⟨q,hq,rfl⟩:=l6.mp h
 obtain⟨p,hp,rfl⟩:=u8.mp (List.mem_of_find?_eq_some hq)
 exact(fl p hp).flat
def a3j(H:Hp)(rs:List Addr)(RC:Nat->List V):Prop:=∀(i:Nat) p,rs[i]? = some p->b1j H p (RC i)
theorem a3j.ts(h:a3j H rs RC)(t:O1 H H'):a3j H' rs RC:=fun i p e=>(h i p e).ts t
end
section
variable {K:Fg}{S:Nat->Option Al}{E:XK}
theorem b4i{α:Type}{l:List α}{f:α->Bool}(h:(l.filter f).length=l.length):l.filter f=l/\∀x∈l,f x=true:=by
 have e:l.filter f=l:=List.Sublist.eq_of_length a6f h
 exact⟨e,fun x hx=>by rw[<-e]at hx;exact(J7.mp hx).2⟩
theorem c0S{sa da:Addr}{vs:List V}{A A1:Al}{k t:Nat}{ch:Bool}{y0 y1 y4 y6:Option V}(h0:H0 sa=none)(s0:o6 H0 H)(hs:H sa=some (.lst vs))(hA:StA N H vs S)(hI:StI N RC S)(h400:N.length<=400)
  (hl:N[k]? = some l) (ht:t∈l) (htn:t<N.length) (hcp:∀n v,v≠.str n->¬UnC N RC n v k->(n,v)∈A) (hsrc:∀p∈A,p.2≠.str p.1/\∃i,i<N.length/\cpV (RC i)=some p)
  (hd:H da=some (.dK (KD A1))) (nd1:ndA A1) (fl1:FlA A1) (h1:∀n v,(n,v)∈A1↔BhM (RC k) A n v)
  (kk:∀ch' y7 H' S' vs',o6 H0 H'->H' sa=some (.lst vs')->StA N H' vs' S'->StI N RC S'->H' da=some (.dK (KD A1))->(ch'=ch/\S'=S/\∃A',S t=some A'/\∀n v,(n,v)∈A'->BhM (RC k) A n v)\/(ch'=true/\muS N S'<muS N S)->D.nx [y0,y1,some (.ref sa),some (.bl ch'),y4,some (.ref da),some (.int (t:Int)),y7] H') :
  u5 (D2 (b5 5) (o5 7)) (u5 (J3 (C1 (tOp a8q (tOp qIx (b5 2) (b5 6)) (tC .non))) (D2 (u9 (a5z K) [] E0 (a9 (tOp qIx (b5 2) (b5 6)) (a9 (b5 5) (j5)))) (o5 7)) (C5)) (J3 (C1 (tOp b9A (b5 7) (tOp qIx (b5 2) (b5 6)))) (u5 (D2 (b5 7) (b0O (b5 2) (b5 6) a7u)) (D2 (tC (.bl true)) (o5 3))) (C5))) D [y0,y1,some (.ref sa),some (.bl ch),y4,some (.ref da),some (.int (t:Int)),y6] H:=by
 nofun
 exact_mod_cast Q2 ?_
 have lv:=hA.1
 have ixn:ixN vs.length (t:Int)=some t:=by unfold ixN;simp;omega
 rcases hA.2 t htn with ⟨e1,e2⟩ | ⟨At,dt,e1,e2,e3,fl2⟩
 ·-- none yet
  ext
  exists D9 hs (J5 e2) ?_
  exists ⟨rfl,_,rfl,o4 rfl ?_⟩
  refine D9 hs (J5 e2) ?_
  refine .inl ⟨da,KD A1,rfl,rfl,hd,?_⟩
  refine⟨_,rfl,A7 rfl ?_⟩
  nofun
  exists a8p hs ixn ?_
  have I':=hI.put hl hcp hsrc ht h1 nd1 (.inl ⟨e1,rfl⟩)
  have le:=I'.le (t:=t) (A:=A1) (by unfold a5A;rw[if_pos rfl])
  have mu:=b8k (S:=S) (M:=A1) htn
  have sz:szS N S t=N.length+1:=by unfold szS;rw[e1]
  refine kk true _ _ _ _ (fun b o e=>by rw[c9 (c7 e h0)];exact s0 _ _ e) c6 (hA.put hs htn hd fl1) I' (by rw[c9 (G0 hd hs (by intro z;cases z))];exact hd) (.inr ⟨rfl,by omega⟩)
 ·-- what both know
  ext
  exists D9 hs (J5 e2) ?_
  exists ⟨rfl,_,rfl,A7 rfl ?_⟩
  exists D9 hs (J5 e2) ?_
  have lt:=hI.le e1
  have n2:=hI.nd t At e1
  exists c0X e3 hd n2 nd1 fl2 fl1 (by omega) fun dm H2 hdm e4 s2=>?_
  have hs2:=s2 _ _ hs
  refine D9 hs2 (J5 e2) ?_
  have flM:FlA (At.filter fun p=>decide (p∈A1)):=fun p hp=>fl2 p (J7.mp hp).1
  refine .inr ⟨dm,dt,_,_,rfl,rfl,e4,s2 _ _ e3,c1g flM,b8O fl2,?_⟩
  refine⟨_,rfl,?_⟩
  rw[a2b,a2b]
  by_cases z:(At.filter fun p=>decide (p∈A1)).length=At.length
  ·obtain⟨q1,q2⟩:=b4i z
   exists o4 (by rw[q1,b2C n2 fl2 At fun _ h=>h];simp) ?_
   exact kk ch _ H2 S vs (s0.trans s2) hs2 (hA.same s2) hI (s2 _ _ hd) (.inl ⟨rfl,rfl,At,e1,fun n v m=>(h1 n v).mp (of_decide_eq_true (q2 _ m))⟩)
  ·refine A7 (by rw[show((At.filter fun p=>decide (p∈A1)).length == At.length)=false from beq_eq_false_iff_ne.mpr z];rfl) ?_
   have zl:(At.filter fun p=>decide (p∈A1)).length<At.length:=Nat.lt_of_le_of_ne (M0 _ _) z
   nofun
   exists a8p hs2 ixn ?_
   have I':=hI.put (M:=At.filter fun p=>decide (p∈A1)) hl hcp hsrc ht h1 (n2.sub a6f) (.inr ⟨At,e1,fun n v=>by rw[J7,decide_eq_true_iff]⟩)
   have mu:=b8k (S:=S) (M:=At.filter fun p=>decide (p∈A1)) htn
   have sz:szS N S t=At.length:=by unfold szS;rw[e1]
   refine kk true _ _ _ _ (fun b o e=>by rw[c9 (c7 e h0)];exact s2 _ _ (s0 _ _ e)) c6 ((hA.same s2).put hs2 htn e4 flM) I' (by rw[c9 (G0 (s2 _ _ hd) hs2 (by intro z;cases z))];exact s2 _ _ hd) (.inr ⟨rfl,by omega⟩)
theorem b1V(hra:H ra=some (.lst (rs.map V.ref)))(lrs:rs.length=N.length)(hr:a3j H rs RC)(hn:C8 H na N)(hv:a0s N)
  (k:∀sa vs S H',H sa=none->H' sa=some (.lst vs)->StA N H' vs S->StI N RC S->(∀k,ClS N RC S k)->o6 H H'->Q (.ref sa) H'):a1L K [.ref ra,.ref na] H Q E:=by
 have h400:=hv.le
 have pos:=hv.pos
 obtain⟨as,hna,las,hat⟩:=id hn.ex
 refine⟨rfl,?_⟩
 unfold a7W
 exact_mod_cast Q2 ?_
 refine a8h ?_
 specialize S8 (S0 ?_)
 refine⟨ra,rfl,⟨_,SqL.of hra⟩,fun sa hsa=>?_⟩
 refine P7 (xs:=rs.map V.ref) (fun i ys H4=>ys=u0 i V.non/\H4 sa=some (.lst ys)/\o6 H H4) ⟨rfl,c6,v0 hsa⟩ ?_ ?_ ?_ ?_
 ·rintro i ys H4 ⟨_,h,_⟩
  exact h
 ·rintro i ys H4 _ ⟨_,_,s4⟩
  exact SqL.of (s4 _ _ hra)
 ·rintro i x ys H4 hx ⟨rfl,hd,s4⟩ R hR
  have hi:=(gI hx)
  rw[a8,lrs]at hi
  ext
  refine hR _ _ hd (E8 (by rw[z9];omega)) ⟨by rw[a1o],c6,fun b o e=>by rw[c9 (c7 e hsa)];exact s4 _ _ e⟩
 rintro ys H1 ⟨rfl,hs1,s1⟩
 rw[a8,lrs]at hs1
 ext
 nofun
 exists a6A fun d0 H2 hd0 e2 s2=>?_
 have hs2:=s2 _ _ hs1
 exists a8p (k:=0) hs2 (by rw[z9];unfold ixN;simp[pos]) ?_
 have s02:=s1.trans s2
 have A0:StA N H2 (u0 N.length V.non) fun _=>none:=⟨by rw[z9],fun t ht=>.inl ⟨rfl,by rw[F0,if_pos ht]⟩⟩
 have A3:=A0.put (M:=[]) hs2 pos e2 fun p hp=>nomatch hp
 obtain⟨H3,hH3⟩:∃H3,H3=upd H2 sa (.lst ((u0 N.length V.non).set 0 (.ref d0))):=⟨_,rfl⟩
 have hs3:H3 sa=some (.lst ((u0 N.length V.non).set 0 (.ref d0))):=hH3 ▸ c6
 have s03:o6 H H3:=fun b o e=>by rw[hH3,c9 (c7 e hsa)];exact s02 _ _ e
 rw[<-hH3]at A3 ⊢
 have I3:StI N RC (a5A (fun _=>none) 0 []):=by
  have at_:∀t A,a5A (fun _=>none) 0 [] t=some A->t=0/\A=[]:=fun t A e=>by
   unfold a5A at e
   split at e
   ·rename_i q;cases e;exact⟨q,rfl⟩
   ·cases e
  exact⟨rfl,fun t A e=>by rw[(at_ t A e).2];exact a5l,fun t A e n v nv un=>by rw[(at_ t A e).1]at un;exact(un .zero).elim,fun t A e p hp=>by rw[(at_ t A e).2]at hp;cases hp⟩
 generalize (u0 N.length V.non).set 0 (.ref d0)=vs3 at hs3 A3
 generalize a5A (fun _=>none) 0 []=S3 at A3 I3
 nofun
 exact_mod_cast Q2 ?_
 exact_mod_cast b0w ?_
 refine⟨fun m σ Hi=>∃ch y4 y5 y6 y7 S vs,σ=[some (.ref ra),some (.ref na),some (.ref sa),some (.bl ch),y4,y5,y6,y7]/\Hi sa=some (.lst vs)/\StA N Hi vs S/\StI N RC S/\o6 H Hi/\(ch=false->∀k,ClS N RC S k)/\m=2 * muS N S+(if ch=true then 1 else 0),⟨_,true,_,_,_,_,S3,vs3,rfl,hs3,A3,I3,s03,(fun z=>nomatch z),rfl⟩,?_⟩
 rintro m _ Hi ⟨ch,y4,y5,y6,y7,S,vs,rfl,hsi,Ai,Ii,si,cl,rfl⟩
 ext
 cases ch with
 | false=>
  exists o4 rfl ?_
  exact k sa vs S Hi hsa hsi Ai Ii (cl rfl) si
 | true=>
 refine A7 rfl ?_
 refine⟨fun σ Hj=>∃ch y4 y5 y6 y7 S' vs,σ=[some (.ref ra),some (.ref na),some (.ref sa),some (.bl ch),y4,y5,y6,y7]/\Hj sa=some (.lst vs)/\StA N Hj vs S'/\StI N RC S'/\o6 H Hj/\(ch=false->∀k,ClS N RC S' k)/\2 * muS N S'+(if ch=true then 1 else 0)<2 * muS N S+1,?_,?_⟩
 ·rintro σ' Hj ⟨ch,y4,y5,y6,y7,S',vs,e,q1,q2,q3,q4,q5,q6⟩
  exact⟨_,q6,ch,y4,y5,y6,y7,S',vs,e,q1,q2,q3,q4,q5,rfl⟩
 nofun
 specialize Y6 (a0l ?_)
 refine M4 (si _ _ hra) ?_
 rw[a8,lrs]
 refine⟨N.length,rfl,by omega,by omega,?_⟩
 rw[u4]
 refine X7 (fun i σ Hj=>∃ch y4 y5 y6 y7 S' vs,σ=[some (.ref ra),some (.ref na),some (.ref sa),some (.bl ch),y4,y5,y6,y7]/\Hj sa=some (.lst vs)/\StA N Hj vs S'/\StI N RC S'/\o6 H Hj/\(ch=true->muS N S'<muS N S)/\(ch=false->S'=S/\∀k,k<i->ClS N RC S k)) ⟨false,_,_,_,_,S,vs,rfl,hsi,Ai,Ii,si,(fun z=>nomatch z),fun _=>⟨rfl,by omega⟩⟩ ?_ ?_
 ·rintro i _ Hj hi ⟨ch,y4,y5,y6,y7,S',vs',rfl,hsj,Aj,Ij,sj,c1,c2⟩
  rw[U1]
  have hl:=F1 hi
  obtain⟨l,hle⟩:∃l,l=N[i]:=⟨_,rfl⟩
  rw[<-hle]at hl
  obtain⟨us,y,f1,f2,f3,_⟩:=(hn.same sj).at hl
  obtain⟨rx,hrx⟩:∃rx,rs[i]? = some rx:=⟨_,d8 (by omega)⟩
  ext
  rcases Aj.2 i hi with ⟨e1,e2⟩ | ⟨A,dk,e1,e2,e3,flA⟩
  ·exists D9 hsj (J5 e2) ?_
   exists ⟨rfl,_,rfl,o4 rfl ?_⟩
   refine⟨ch,_,_,_,_,S',vs',rfl,hsj,Aj,Ij,sj,c1,fun z=>⟨(c2 z).1,fun k' hk'=>?_⟩⟩
   by_cases q:k'=i
   ·intro l' A' _ hA'
    rw[q,<-(c2 z).1,e1]at hA'
    cases hA'
   ·exact(c2 z).2 k' (by omega)
  ·exists D9 hsj (J5 e2) ?_
   refine⟨rfl,_,rfl,A7 rfl ?_⟩
   nofun
   exists D9 (sj _ _ hra) (J5 (by rw[b8,hrx];rfl)) ?_
   exists D9 hsj (J5 e2) ?_
   have lA:=Ij.le e1
   exists b6m ((hr i rx hrx).ts (o6.ts sj)) e3 (Ij.nd i A e1) flA (by omega) fun da A1 H5 hda d5 nd1 fl1 h1 s5=>?_
   have sj5:=sj.trans s5
   specialize Y6 (S0 ?_)
   refine D9 (s5 _ _ f1) f2 ?_
   refine⟨y,rfl,⟨_,SqL.of (s5 _ _ f3)⟩,a2q (xs:=IL l) (fun j σ Hk=>∃ch y6 y7 S'' vs,σ=[some (.ref ra),some (.ref na),some (.ref sa),some (.bl ch),some (.int (i:Int)),some (.ref da),y6,y7]/\Hk sa=some (.lst vs)/\StA N Hk vs S''/\StI N RC S''/\o6 H Hk/\Hk da=some (.dK (KD A1))/\Hk y=some (.lst (IL l))/\(ch=true->muS N S''<muS N S)/\(ch=false->S''=S/\S'=S/\(∀k,k<i->ClS N RC S k)/\∀t∈l.take j,∃A',S t=some A'/\∀n v,(n,v)∈A'->BhM (RC i) A n v)) ?_ ?_ ?_ ?_⟩
   ·exact⟨ch,_,_,S',vs',rfl,s5 _ _ hsj,Aj.same s5,Ij,sj5,d5,s5 _ _ f3,c1,fun z=>⟨(c2 z).1,(c2 z).1,(c2 z).2,fun t ht=>by simp at ht⟩⟩
   ·rintro j σ Hk _ ⟨_,_,_,_,_,_,_,_,_,_,_,q,_⟩
    exact SqL.of q
   ·rintro j v _ Hk hy ⟨ch',z6,z7,S'',vs'',rfl,hsk,Ak,Ik,sk,dk',yk,g1,g2⟩
    unfold IL at hy
    rw[b8]at hy
    obtain⟨t,ht,rfl⟩:=l6.mp hy
    have mt:=mI ht
    have htn:=hv.lt l (mI hl) t mt
    have tk:l.take (j+1)=l.take j++[t]:=by rw[E6,ht];rfl
    refine a7C ?_
    have yH:∀ {Hz:Hp},o6 H Hz->Hz y=some (.lst (IL l)):=fun sz=>by
     obtain⟨y',hy'⟩:∃y',as[i]? = some y':=⟨_,d8 (by omega)⟩
     have q1:=hat i y' l hy' hl
     have q2:y'=y:=by
      have a1:atI (as.map V.ref) (i:Int)=some (.ref y'):=J5 (by rw[b8,hy'];rfl)
      have a2:=hn.same sj |>.at hl
      rw[sj _ _ hna]at f1
      have:=HO.lst.inj (Option.some.inj f1)
      rw[<-this,a1]at f2
      exact V.ref.inj (Option.some.inj f2)
     rw[<-q2];exact sz _ _ q1
    refine c0S hsa sk hsk Ak Ik h400 hl mt htn (Ij.cp i A e1) (Ij.src i A e1) dk' nd1 fl1 h1 fun ch2 y7' H6 S6 vs6 s6 hs6 A6 I6 d6 r6=>?_
    refine⟨ch2,_,_,S6,vs6,rfl,hs6,A6,I6,s6,d6,yH s6,fun z=>?_,fun z=>?_⟩
    ·rcases r6 with ⟨r1,r2,_⟩ | ⟨_,r2⟩
     ·rw[r2];exact g1 (r1 ▸ z)
     ·cases ch' with
      | true=>exact b6q r2 (g1 rfl)
      | false=>rw[(g2 rfl).1]at r2;exact r2
    ·rcases r6 with ⟨r1,r2,r3⟩ | ⟨r1,_⟩
     ·obtain⟨p1,p2,p3,p4⟩:=g2 (r1 ▸ z)
      refine⟨r2.trans p1,p2,p3,fun u hu=>?_⟩
      rw[tk]at hu
      rcases o8.mp hu with q | q
      ·exact p4 u q
      ·rw[f6.mp q,<-p1];exact r3
     ·rw[r1]at z;cases z
   ·rintro _ Hk ⟨ch',z6,z7,S'',vs'',rfl,hsk,Ak,Ik,sk,dk',yk,g1,g2⟩
    rw[N6,M7]at g2
    refine⟨ch',_,_,_,_,S'',vs'',rfl,hsk,Ak,Ik,sk,g1,fun z=>?_⟩
    obtain⟨p1,p2,p3,p4⟩:=g2 z
    refine⟨p1,fun k' hk'=>?_⟩
    by_cases q:k'=i
    ·intro l' A' hl' hA' t ht
     rw[q,hl]at hl'
     cases hl'
     rw[q,<-p2,e1]at hA'
     cases hA'
     rw[q]
     exact p4 t ht
    ·exact p3 k' (by omega)
 ·rintro _ Hj ⟨ch,y4,y5,y6,y7,S',vs',rfl,hsj,Aj,Ij,sj,c1,c2⟩
  refine⟨ch,_,_,_,_,S',vs',rfl,hsj,Aj,Ij,sj,fun z=>?_,?_⟩
  ·obtain⟨p1,p2⟩:=c2 z
   rw[p1]
   intro k'
   by_cases q:k'<N.length
   ·exact p2 k' q
   ·intro l' A' hl'
    exact(q (gI hl')).elim
  ·cases ch with
   | true=>have:=c1 rfl;simp;omega
   | false=>rw[(c2 rfl).1];simp
end
def c0J(v:V):Key:=match v with
 | .str s=>Sum.inr s
 | .int i=>Sum.inl i
 | _=>Sum.inl 0
abbrev cpK(n:Str)(v:V):List Key:=[Sum.inr ("copy" : Str),Sum.inr n,c0J v]
def ckD(RC:Nat->List V)(i:Nat):Option (List Key):=match cpV (RC i)with
 | some (n,v)=>if v=.str n then none else some (cpK n v)
 | none=>none
section
variable {K:Fg}{c:Cn}{x:Addr}{n:Str}{E:XK}
theorem a7E(h:OpN v):kV (c0J v)=v:=by rcases h with ⟨s,rfl,_⟩ | ⟨i,rfl,_⟩ <;> rfl
theorem b5o(hr:b1j H p xs)(k:∀H',o6 H H'->Q (nmV (sbV xs)) H'):a3Y K [.ref p] H Q E:=by
 obtain⟨hp,rS⟩:=id hr
 refine⟨rfl,?_⟩
 unfold b1M
 obtain⟨k0,r,rfl⟩:=rS.head
 ext
 exists z5 hp (Q5 _ _) ?_
 refine D5 (by simp) fun l H1 hl e1 s1=>?_
 refine a4y e1 rfl rfl ?_
 refine⟨_,rfl,?_⟩
 have hp1:=s1 _ _ hp
 have k1:=k H1 s1
 cases rS with
 | set n p2 nm d2=>
  exists A7 (by decide +kernel) ?_
  exact z5 hp1 (a0o _ _ _) k1
 | copy n v nm o=>
  exists A7 (by decide +kernel) ?_
  exact z5 hp1 (a0o _ _ _) k1
 | take n nm=>
  exists A7 (by decide +kernel) ?_
  exact z5 hp1 (a0o _ _ _) k1
 | tell v o=>
  exists o4 (by decide +kernel) ?_
  rw[show sbV [.str "tell",v]=none by rcases o with ⟨s,rfl,_⟩ | ⟨i,rfl,_⟩ <;> rfl]at k1
  exact k1
 | ask v o=>
  exists o4 (by decide +kernel) ?_
  rw[show sbV [.str "ask",v]=none by rcases o with ⟨s,rfl,_⟩ | ⟨i,rfl,_⟩ <;> rfl]at k1
  exact k1
 | skip=>
  exists o4 (by decide +kernel) ?_
  exact k1
theorem c3J(h:OpN v)(g:OpN w):eqV v w=decide (v=w):=by
 rcases h with ⟨s,rfl,_⟩ | ⟨i,rfl,_⟩ <;> rcases g with ⟨u,rfl,_⟩ | ⟨m,rfl,_⟩ <;> first | rfl | (rw[L4];simp[eqV])
theorem b0R{s u:Str}:eqV (.str s) (.str u)=decide (s=u):=by rw[L4];simp[eqV]
theorem b7x(rS:a3P H xs)(o:OpN v):a8m xs [.str "copy",.str n,v]=a4k xs n v:=by
 have first:∀ {k0:Str} {r:List V},k0≠("copy" : Str)->a8m (.str k0::r) [.str "copy",.str n,v]=false:=fun {k0 r} h=>by
  unfold a8m
  rw[Bool.and_eq_false_iff]
  left
  rw[List.all_eq_false]
  refine⟨0,U7.mpr (by simp;omega),?_⟩
  show ¬eqP (.str k0) (.str "copy")=true
  unfold eqP
  rw[if_pos (show E9 (V.str k0)=true from rfl),b0R]
  simpa using h
 unfold a4k
 cases rS with
 | copy m w nm ow=>
  show a8m [.str "copy",.str m,w] [.str "copy",.str n,v]=decide (some (m,w)=some (n,v))
  unfold a8m
  rw[show min [V.str "copy",.str m,w].length [V.str "copy",.str n,v].length=3 from rfl,show y9 3=[0,1,2] from rfl]
  simp only[Q0,b4V,c5w]
  show(eqP (.str "copy") (.str "copy")&&(eqP (.str m) (.str n)&&eqP w v)&&_)=_
  unfold eqP
  rw[if_pos (show E9 (V.str _)=true from rfl),if_pos (show E9 (V.str _)=true from rfl),if_pos ow.flat,b0R,b0R,c3J ow o]
  by_cases e1:m=n <;> by_cases e2:w=v <;> simp[e1,e2]
 | set m p2 nm d2=>rw[first (by decide)];rfl
 | take m nm=>rw[first (by decide)];rfl
 | tell w ow=>rw[first (by decide),show cpV [.str "tell",w]=none by rcases ow with ⟨s,rfl,_⟩ | ⟨i,rfl,_⟩ <;> rfl];rfl
 | ask w ow=>rw[first (by decide),show cpV [.str "ask",w]=none by rcases ow with ⟨s,rfl,_⟩ | ⟨i,rfl,_⟩ <;> rfl];rfl
 | skip=>rw[first (by decide)];rfl
theorem b7w(rS:a3P H xs):∀z∈xs,c1d H z:=by
 intro z hz
 cases rS with
 | set m p2 nm d2=>
  simp only[c8,j7,or_false]at hz
  obtain⟨k,a,b,h,_⟩:=d2
  rcases hz with rfl | rfl | rfl
  ·exact .inl rfl
  ·exact .inl rfl
  ·exact .inr ⟨_,_,rfl,h⟩
 | copy m w nm o=>
  simp only[c8,j7,or_false]at hz
  rcases hz with rfl | rfl | rfl
  ·exact .inl rfl
  ·exact .inl rfl
  ·exact .inl o.flat
 | take m nm=>
  simp only[c8,j7,or_false]at hz
  rcases hz with rfl | rfl <;> exact .inl rfl
 | tell w o=>
  simp only[c8,j7,or_false]at hz
  rcases hz with rfl | rfl
  ·exact .inl rfl
  ·exact .inl o.flat
 | ask w o=>
  simp only[c8,j7,or_false]at hz
  rcases hz with rfl | rfl
  ·exact .inl rfl
  ·exact .inl o.flat
 | skip=>
  simp only[c8,j7,or_false]at hz
  rw[hz];exact .inl rfl
theorem b0V(ck:a3Q K c)(hp:a4D c H x N rs)(h400:N.length<=400)(hr:a3j H rs RC)
  (k:∀l bs H',H' l=some (.lst ((bs:List Addr).map V.ref))->b8L H' bs (a1D (ckD RC) N.length)->H l=none->o6 H H'->Q (.ref l) H'):a1j K [.ref x] H Q E:=by
 obtain⟨dx,fs,n0,r,h1,h2,h3,h4,h5,h6⟩:=hp.ex
 refine⟨rfl,?_⟩
 unfold a7g
 nofun
 intro fd hfd
 have s1:o6 H (upd H fd (.dT [])):=v0 hfd
 obtain⟨H1,hH1⟩:∃H1,H1=upd H fd (.dT []):=⟨_,rfl⟩
 have e1:H1 fd=some (.dT (KM (a1D (ckD RC) 0) fun _=>.bl true)):=hH1 ▸ c6
 rw[<-hH1]at s1 ⊢
 ext
 exact_mod_cast Q2 ?_
 specialize Y6 (S0 ?_)
 specialize a1b ?_
 refine⟨x,_,dx,_,.ref r,rfl,s1 _ _ h1,ck.J4,ck.G9,h4,?_⟩
 refine⟨r,rfl,⟨_,SqL.of (s1 _ _ h5)⟩,a2q (xs:=rs.map V.ref) (fun i σ H2=>∃y2,σ=[some (.ref x),some (.ref fd),y2]/\H2 fd=some (.dT (KM (a1D (ckD RC) i) fun _=>.bl true))/\o6 H H2) ⟨_,rfl,e1,s1⟩ ?_ ?_ ?_⟩
 ·rintro i σ H2 _ ⟨_,_,_,s2⟩
  exact SqL.of (s2 _ _ h5)
 ·rintro i v _ H2 hv ⟨y2,rfl,e2,s2⟩
  rw[b8]at hv
  obtain⟨p,hp',rfl⟩:=l6.mp hv
  have hi:=(gI hp')
  obtain⟨hx,rS⟩:=(hr i p hp').ts (o6.ts s2)
  have ln:=a6N (ckD RC) i
  have skip:ckD RC i=none->∃y2,[some (V.ref x),some (.ref fd),some (.ref p)]=[some (.ref x),some (.ref fd),y2]/\H2 fd=some (.dT (KM (a1D (ckD RC) (i+1)) fun _=>.bl true))/\o6 H H2:=fun z=>⟨_,rfl,by rw[a0B,z];exact e2,s2⟩
  generalize hxs:RC i=xs at hx rS
  have cd:ckD RC i=match cpV xs with
   | some (n,v)=>if v=.str n then none else some (cpK n v)
   | none=>none:=by unfold ckD;rw[hxs]
  obtain⟨k0,r0,rfl⟩:=rS.head
  ext
  exists z5 hx (Q5 _ _) ?_
  cases rS with
  | copy n v nm o=>
   exists A7 (by decide) ?_
   exists z5 hx (a0o _ _ _) ?_
   refine z5 hx (a6a _ _ _ _) ?_
   have cd:ckD RC i=if v=.str n then none else some (cpK n v):=cd
   refine⟨_,c1E (.inl ⟨n,rfl,nm⟩) o,?_⟩
   refine⟨_,rfl,?_⟩
   by_cases z:v=.str n
   ·exists o4 (by rw[c7r (show V.str n=v from z.symm)];rfl) ?_
    exact skip (by rw[cd,if_pos z])
   ·refine A7 (by rw[c7q (show ¬V.str n=v from fun q=>z q.symm)];rfl) ?_
    rw[if_neg z]at cd
    specialize a2K ?_
    have hk:H2 p=some (.tup ((cpK n v).map kV)):=by
     rw[hx]
     show _=some (HO.tup [.str "copy",.str n,kV (c0J v)])
     rw[a7E o]
    refine⟨fd,_,rfl,a5i.t e2 hk (E8 (by rw[c3Z];omega)),?_⟩
    refine⟨_,rfl,?_,fun b o q=>by rw[c9 (c7 q hfd)];exact s2 _ _ q⟩
    rw[c6,c3Y,a0B,cd]
    exact congrArg (fun g=>some (HO.dT (KM _ g))) (funext fun u'=>by split <;> rfl)
  | set n p2 nm d2=>
   refine o4 (by decide) ?_
   exists o4 rfl ?_
   exact skip cd
  | take n nm=>
   refine o4 (by decide) ?_
   exists o4 rfl ?_
   exact skip cd
  | tell v o=>
   refine o4 (by decide) ?_
   exists o4 rfl ?_
   exact skip (by rw[cd,show cpV [.str "tell",v]=none by rcases o with ⟨s,rfl,_⟩ | ⟨i,rfl,_⟩ <;> rfl])
  | ask v o=>
   refine o4 (by decide) ?_
   exists o4 rfl ?_
   exact skip (by rw[cd,show cpV [.str "ask",v]=none by rcases o with ⟨s,rfl,_⟩ | ⟨i,rfl,_⟩ <;> rfl])
  | skip=>
   refine o4 (by decide) ?_
   exists o4 rfl ?_
   exact skip cd
 ·rintro _ H2 ⟨y2,rfl,e2,s2⟩
  rw[a8,h6]at e2
  ext
  refine⟨fd,_,rfl,e2,fun bs kb l hl=>?_⟩
  rw[c1f]at kb
  have s3:o6 H2 (upd H2 l (.lst (bs.map V.ref))):=v0 hl
  exact k l bs _ c6 ⟨kb.1,fun i b k a1 a2=>s3 _ _ (kb.2 i b k a1 a2)⟩ (s2.free hl) (s2.trans s3)
theorem c3G(o:Option Str)(ov:OpN v):inV (nmV o) [.str n,v]=match o with
  | some m=>decide (m=n)||decide (v=.str m)
  | none=>false:=by
 unfold inV
 rw[P9,P9,List.any_nil,c5t]
 cases o with
 | none=>rcases ov with ⟨s,rfl,_⟩ | ⟨i,rfl,_⟩ <;> rfl
 | some m=>
  show(eqV (.str n) (.str m)||eqV v (.str m))=(decide (m=n)||decide (v=.str m))
  rw[b0R]
  congr 1
  ·exact decide_eq_decide.mpr eq_comm
  ·rcases ov with ⟨s,rfl,_⟩ | ⟨i,rfl,_⟩ <;> first | rfl | (rw[L4];simp[eqV])
theorem a5L(ck:a3Q K c)(hp:a4D c H x N rs)(hv:a0s N)(hr:a3j H rs RC)(hb:H b=some (.tup [.str "copy",.str n,v]))(o:OpN v)
  (k:∀d H' S kvs,CbK K H' d N (fun i=>a4k (RC i) n v) (fun i=>a8X (RC i) n v) S kvs->(∀t,t∈S↔UnC N RC n v t)->o6 H H'->Q (.ref d) H'):V6 K c [.ref x,.ref b] H Q E:=by
 have h400:=hv.le
 obtain⟨dx,fs,n0,r,h1,h2,h3,h4,h5,h6⟩:=hp.ex
 have fb:([.str "copy",.str n,v]:List V).all E9=true:=by
  rw[Q0,Q0,Q0,o.flat];rfl
 have bl:∀(f:Nat->Bool) (i:Nat),BL i f++[V.bl (f i)]=BL (i+1) f:=fun f i=>by unfold BL;rw[a0q,B9];rfl
 refine⟨rfl,?_⟩
 unfold a2l
 exact_mod_cast Q2 ?_
 refine a8h ?_
 exact_mod_cast S8 (S0 ?_)
 specialize a1b ?_
 refine⟨x,_,dx,_,.ref r,rfl,h1,ck.J4,ck.G9,h4,?_⟩
 refine⟨r,rfl,⟨_,SqL.of h5⟩,fun ma hma=>?_⟩
 refine P7 (xs:=rs.map V.ref) (fun i ys H4=>ys=BL i (fun i=>a4k (RC i) n v)/\H4 ma=some (.lst ys)/\o6 H H4) ⟨rfl,c6,v0 hma⟩ ?_ ?_ ?_ ?_
 ·rintro i ys H4 ⟨_,h,_⟩
  exact h
 ·rintro i ys H4 _ ⟨_,_,s4⟩
  exact SqL.of (s4 _ _ h5)
 ·rintro i y ys H4 hy ⟨rfl,hd,s4⟩ R hR
  rw[b8]at hy
  obtain⟨p,hp',rfl⟩:=l6.mp hy
  have hi:=(gI hp')
  obtain⟨hx,rS⟩:=(hr i p hp').ts (o6.ts s4)
  ext
  refine⟨p,b,_,_,rfl,rfl,hx,s4 _ _ hb,b7w rS,fb,?_⟩
  rw[b7x rS o]
  refine hR _ _ hd (E8 (by rw[b8R];omega)) ⟨bl _ i,c6,fun b o e=>by rw[c9 (c7 e hma)];exact s4 _ _ e⟩
 rintro ys H1 ⟨rfl,m1,s1⟩
 rw[a8,h6]at m1
 ext
 exact_mod_cast Q2 ?_
 refine a8h ?_
 exact_mod_cast S8 (S0 ?_)
 specialize a1b ?_
 refine⟨x,_,dx,_,.ref r,rfl,s1 _ _ h1,ck.J4,ck.G9,h4,?_⟩
 refine⟨r,rfl,⟨_,SqL.of (s1 _ _ h5)⟩,fun ba hba=>?_⟩
 refine P7 (xs:=rs.map V.ref) (fun i ys H4=>ys=BL i (fun i=>a8X (RC i) n v)/\H4 ba=some (.lst ys)/\o6 H1 H4) ⟨rfl,c6,v0 hba⟩ ?_ ?_ ?_ ?_
 ·rintro i ys H4 ⟨_,h,_⟩
  exact h
 ·rintro i ys H4 _ ⟨_,_,s4⟩
  exact SqL.of (s4 _ _ (s1 _ _ h5))
 ·rintro i y ys H4 hy ⟨rfl,hd,s4⟩ R hR
  rw[b8]at hy
  obtain⟨p,hp',rfl⟩:=l6.mp hy
  have hi:=(gI hp')
  have s04:=s1.trans s4
  have rx:=(hr i p hp').ts (o6.ts s04)
  obtain⟨hx,rS⟩:=id rx
  have fin:∀ {w:Bool} {H5:Hp},a8X (RC i) n v=w->o6 H4 H5->R (.bl w) H5:=fun {w H5} e s5=>by
   subst e
   exact hR _ _ (s5 _ _ hd) (E8 (by rw[b8R];omega)) ⟨bl _ i,c6,fun b o e=>by rw[c9 (c7 e hba)];exact s5 _ _ (s4 _ _ e)⟩
  ext
  refine⟨p,b,_,_,rfl,rfl,hx,s04 _ _ hb,b7w rS,fb,?_⟩
  rw[b7x rS o]
  ext
  cases hz:a4k (RC i) n v with
  | true=>
   refine o4 rfl ?_
   exact fin (by unfold a8X;rw[hz];rfl) (o6.refl _)
  | false=>
   exists A7 rfl ?_
   exists b5o rx fun H5 s5=>?_
   refine c1B (s5 _ _ (s04 _ _ hb)) (b2p _ _) fun q H6 hq e6 s6=>?_
   rw[c3M]at e6
   refine a4y e6 (by rcases b8f (sbV (RC i))with z | ⟨u,z⟩ <;> rw[z] <;> rfl) (by rw[Q0,Q0,o.flat];rfl) ?_
   rw[c3G _ o]
   exact fin (by unfold a8X;rw[hz];rfl) (s5.trans s6)
 rintro ys H2 ⟨rfl,b2,s2⟩
 rw[a8,h6]at b2
 ext
 have s02:=s1.trans s2
 refine a6o ck (hp.same s02) hv (s2 _ _ m1) b2 fun d H3 S kvs cb sh s3=>?_
 refine k d H3 S kvs cb (fun t=>⟨fun ht=>?_,b3h (mI cb.z) sh t⟩) (s02.trans s3)
 obtain⟨i,hi⟩:=E4.mp ht
 exact b6W cb i t hi
theorem b8D{k:List Key}(hr:a3j H rs RC)(lrs:rs.length=N.length)(hi:i<N.length)(h:ckD RC i=some k):∃n v,k=cpK n v/\OpN v/\NmS n/\v≠.str n/\cpV (RC i)=some (n,v):=by
 obtain⟨rx,hrx⟩:∃rx,rs[i]? = some rx:=⟨_,d8 (by omega)⟩
 obtain⟨hx,rS⟩:=hr i rx hrx
 unfold ckD at h
 generalize hxs:RC i=xs at hx rS h
 cases rS with
 | copy n v nm o=>
  have h:(if v=.str n then none else some (cpK n v))=some k:=h
  split at h
  ·cases h
  ·rename_i z
   cases h
   exact⟨n,v,rfl,o,nm,z,rfl⟩
 | set n p2 nm d2=>cases h
 | take n nm=>cases h
 | tell v o=>rw[show cpV [.str "tell",v]=none by rcases o with ⟨s,rfl,_⟩ | ⟨i,rfl,_⟩ <;> rfl]at h;cases h
 | ask v o=>rw[show cpV [.str "ask",v]=none by rcases o with ⟨s,rfl,_⟩ | ⟨i,rfl,_⟩ <;> rfl]at h;cases h
 | skip=>cases h
theorem a6R{D:Nat->Option (List Key)}{k:List Key}:∀m,k∈a1D D m->∃i,i<m/\D i=some k
 | 0,h=>nomatch h
 | m+1,h=>by
  rw[a0B]at h
  rcases b2x.mp h with z | z
  ·obtain⟨i,a,b⟩:=a6R m z
   exact⟨i,by omega,b⟩
  ·exact⟨m,by omega,z⟩
end
section
variable {K:Fg}{c:Cn}{PL:List Str}{n:Str}{E:XK}
theorem b4H(ck:a3Q K c)(hra:H ra=some (.lst (rs.map V.ref)))(hR:N5 H ra N)(hT:C8 H na N)(hv:a0s N)
  (k:∀x Z H',a4C K c Z rs H' x N->o6 H H'->Q (.ref x) H'):a5y K c [.ref ra,.ref na] H Q E:=by
 refine⟨rfl,?_⟩
 unfold b7f
 exact_mod_cast c1v ?_
 specialize b7r ?_
 exists a5H hra fun ra' H8 hra' e8 s8=>?_
 exists b4l (hT.same s8) hv.le rfl fun na' H9 T9 s9=>?_
 intro x dx hx hdx hne
 have sm:o6 H9 (upd (upd H9 dx (.own x)) x (.ins c.G7 dx [])):=fun b o e=>by
  rw[c9 (c7 e hx),c9 (c7 e hdx)];exact e
 obtain⟨H10,hH10⟩:∃H10,H10=upd (upd H9 dx (.own x)) x (.ins c.G7 dx []):=⟨_,rfl⟩
 have x10:H10 x=some (.ins c.G7 dx []):=hH10 ▸ c6
 rw[<-hH10]at sm ⊢
 have s59:=s8.trans s9
 have s510:=s59.trans sm
 have R9:N5 H9 ra' N:=by
  obtain⟨rs',q1,q2,q3⟩:=id (hR.same s59).ex
  rw[s59 _ _ hra]at q1
  obtain rfl:rs'=rs:=(V9 (f:=V.ref) (fun a b h=>V.ref.inj h) |>.mp (HO.lst.inj (Option.some.inj q1))).symm
  exact⟨rs',s9 _ _ e8,q2,q3⟩
 refine a5K (E:=E0) ck (sm _ _ (s9 _ _ e8)) (R9.same sm) (T9.same sm) hv x10 fun H11 pz old=>⟨rfl,?_⟩
 exact k x _ H11 pz fun b o e=>old b o (s510 _ _ e) (c7 (s59 _ _ e) hx)
theorem b7v(hR:N5 H ra N)(hra:H ra=some (.lst (rs.map V.ref))):∃RC,a3j H rs RC:=by
 obtain⟨rs',r1,r2,r3⟩:=hR.ex
 obtain rfl:rs'=rs:=by
  rw[hra]at r1
  exact(V9 (f:=V.ref) (fun a b h=>V.ref.inj h) |>.mp (HO.lst.inj (Option.some.inj r1))).symm
 refine⟨fun i=>match rs'[i]? with
  | some p=>(match H p with
   | some (.tup xs)=>xs
   | _=>[])
  | none=>[],fun i p hp=>?_⟩
 have hi:=(gI hp)
 obtain⟨xs,hx⟩:=(r3 i p _ hp (F1 (by omega))).x
 simp only[hp,hx.1]
 exact hx
end
structure KnI(N:Nt)(RC:Nat->List V)(ks:List (List Key))(m t:Nat)(A:Al):Prop where
 nd:ndA A
 le:A.length<=m
 mem:∀n v,(n,v)∈A↔OpN v/\(∃i,i<m/\ks[i]? = some (cpK n v))/\¬UnC N RC n v t
def SmX(ds:List Addr)(H H':Hp):Prop:=∀b o,H b=some o->b∉ds->H' b=some o
section
variable {K:Fg}{c:Cn}{x:Addr}{n:Str}{ks:List (List Key)}{t:Nat}{A:Al}{E:XK}
theorem b8i{α:Type}{l:List α}{a:α}(h:l.Nodup)(h1:l[i]? = some a)(h2:l[j]? = some a):i=j:=(c1i (gI h1) h).mp (h1.trans h2.symm)
theorem c5q(h:cpV xs=some (n,v)):sbV xs=some n:=by
 unfold cpV at h
 split at h
 ·rename_i k n' v'
  split at h
  ·rename_i e
   cases h
   unfold sbV
   exact if_pos (.inr (.inl e))
  ·cases h
 ·cases h
theorem b9h(r:Rc N t)(h:¬UnC N RC n v t):∃i,i<N.length/\cpV (RC i)=some (n,v):=by
 induction r with
 | zero=>exact(h .zero).elim
 | @step p t l _ hl ht ih=>
  by_cases d:a4k (RC p) n v=true
  ·exact⟨p,(gI hl),of_decide_eq_true d⟩
  ·exact ih fun z=>h (.step z (by simpa using d) hl ht)
theorem b6X(r:Rc N t)(h1:¬UnC N RC n v t)(h2:¬UnC N RC n w t):v=w:=by
 induction r with
 | zero=>exact(h1 .zero).elim
 | @step p t l _ hl ht ih=>
  have one:∀ {v w:V},a4k (RC p) n v=true->¬a4k (RC p) n w=true->¬UnC N RC n w t->False:=fun {v w} a b hw=>by
   refine hw (.spoil hl ht ?_)
   unfold a8X
   rw[c5q (of_decide_eq_true a),show a4k (RC p) n w=false by simpa using b]
   simp
  by_cases d1:a4k (RC p) n v=true
  ·by_cases d2:a4k (RC p) n w=true
   ·have a:=of_decide_eq_true d1
    rw[of_decide_eq_true d2]at a
    cases a
    rfl
   ·exact(one d1 d2 h2).elim
  ·by_cases d2:a4k (RC p) n w=true
   ·exact(one d2 d1 h1).elim
   ·exact ih (fun z=>h1 (.step z (by simpa using d1) hl ht)) fun z=>h2 (.step z (by simpa using d2) hl ht)
theorem b0U{n':Str}(o:OpN v)(o':OpN w)(e:cpK n v=cpK n' w):n=n'/\v=w:=by
 simp only[List.cons.injEq,and_true,true_and]at e
 exact⟨Sum.inr.inj e.1,by rw[<-a7E o,<-a7E o',e.2]⟩
theorem KnI.skip(h:KnI N RC ks m t A)(hk:ks[m]? = some (cpK n v))(o:OpN v)(un:UnC N RC n v t):KnI N RC ks (m+1) t A:=by
 refine⟨h.nd,by have:=h.le;omega,fun n' v'=>(h.mem n' v').trans ⟨fun⟨a,⟨i,b,c⟩,d⟩=>⟨a,⟨i,by omega,c⟩,d⟩,fun⟨a,⟨i,b,c⟩,d⟩=>⟨a,⟨i,?_,c⟩,d⟩⟩⟩
 by_cases q:i=m
 ·rw[q,hk]at c
  obtain⟨rfl,rfl⟩:=b0U o a (Option.some.inj c)
  exact(d un).elim
 ·omega
theorem KnI.put(h:KnI N RC ks m t A)(hk:ks[m]? = some (cpK n v))(o:OpN v)(un:¬UnC N RC n v t)(r:Rc N t)(nk:ks.Nodup):(∀w,(n,w)∉A)/\KnI N RC ks (m+1) t (A++[(n,v)]):=by
 have no:∀w,(n,w)∉A:=fun w hw=>by
  obtain⟨_,⟨i,a,b⟩,d⟩:=(h.mem n w).mp hw
  obtain rfl:=b6X r un d
  have:=b8i nk b hk
  omega
 refine⟨no,b2s h.nd no,by rw[o9];have:=h.le;simp;omega,fun n' v'=>?_⟩
 rw[o8,f6,h.mem]
 constructor
 ·rintro(⟨a,⟨i,b,c⟩,d⟩ | e)
  ·exact⟨a,⟨i,by omega,c⟩,d⟩
  ·cases e
   exact⟨o,⟨m,by omega,hk⟩,un⟩
 ·rintro⟨a,⟨i,b,c⟩,d⟩
  by_cases q:i=m
  ·rw[q,hk]at c
   obtain⟨rfl,rfl⟩:=b0U o a (Option.some.inj c)
   exact .inr rfl
  ·exact .inl ⟨a,⟨i,by omega,c⟩,d⟩
theorem a5M(ck:a3Q K c)(hp:a4D c H x N rs)(hv:a0s N)(hr:a3j H rs RC)
  (k:∀l ds (A:Nat->Al) H',H' l=some (.lst ((ds:List Addr).map V.ref))->ds.length=N.length->(∀(t:Nat) d,ds[t]? = some d->H' d=some (.dK (KD (A t))))->(∀t,t<N.length->ndA (A t)/\FlA (A t)/\∀n v,(n,v)∈A t↔v≠.str n/\¬UnC N RC n v t)->o6 H H'->Q (.ref l) H'):V7 K c [.ref x] H Q E:=by
 have h400:=hv.le
 obtain⟨dx,fs,n0,r,h1,h2,h3,h4,h5,h6⟩:=id hp.ex
 refine⟨rfl,?_⟩
 unfold a2m
 exact_mod_cast Q2 ?_
 refine a8h ?_
 exact_mod_cast S8 (S0 ?_)
 specialize a1b ?_
 refine⟨x,_,dx,_,.ref r,rfl,h1,ck.J4,ck.G9,h4,?_⟩
 refine⟨r,rfl,⟨_,SqL.of h5⟩,fun fl hfl=>?_⟩
 refine P7 (xs:=rs.map V.ref) (fun i ys H4=>∃ds:List Addr,ys=ds.map V.ref/\ds.length=i/\ds.Nodup/\(∀d∈ds,H4 d=some (.dK [])/\H d=none)/\H4 fl=some (.lst ys)/\o6 H H4) ⟨[],rfl,rfl,a5l,by simp,c6,v0 hfl⟩ ?_ ?_ ?_ ?_
 ·rintro i ys H4 ⟨_,_,_,_,_,h,_⟩
  exact h
 ·rintro i ys H4 _ ⟨_,_,_,_,_,_,s4⟩
  exact SqL.of (s4 _ _ h5)
 ·rintro i y ys H4 hy ⟨ds,rfl,rfl,nds,dds,hd,s4⟩ R hR
  have hi:=(gI hy)
  rw[a8,h6]at hi
  refine a6A fun d H5 hd5 e5 s5=>?_
  have n5:d∉ds:=fun z=>by rw[(dds d z).1]at hd5;cases hd5
  refine hR _ _ (s5 _ _ hd) (E8 (by rw[a8];omega)) ⟨ds++[d],by simp,by simp,O5.mpr ⟨nds,by simp,fun a ha b hb e=>n5 (by rw[<-f6.mp hb,<-e];exact ha)⟩,fun u hu=>?_,c6,fun b o e=>by rw[c9 (c7 e hfl)];exact s5 _ _ (s4 _ _ e)⟩
  rcases o8.mp hu with z | z
  ·rw[c9 (G0 (dds u z).1 hd (by intro z;cases z))]
   exact⟨s5 _ _ (dds u z).1,(dds u z).2⟩
  ·rw[f6.mp z,c9 (G0 e5 (s5 _ _ hd) (by intro z;cases z))]
   exact⟨e5,s4.free hd5⟩
 rintro ys H1 ⟨ds,rfl,lds,nds,dds,efl,s1⟩
 rw[a8,h6]at lds
 ext
 exact_mod_cast Q2 ?_
 specialize Y6 (S0 ?_)
 refine b0V ck (hp.same s1) h400 (hr.ts (o6.ts s1)) fun l bs H2 e2 kb hl s2=>?_
 have dd2:∀d∈ds,H2 d=some (.dK []):=fun d hd=>s2 _ _ (dds d hd).1
 have out:∀ {a:Addr} {o:HO},H2 a=some o->(∀kvs,o≠.dK kvs)->a∉ds:=fun {a o} e q z=>by
  rw[dd2 a z]at e
  cases e
  exact q _ rfl
 have outH:∀ {a:Addr} {o:HO},H a=some o->a∉ds:=fun {a o} e z=>by
  rw[(dds a z).2]at e
  cases e
 have s02:=s1.trans s2
 have sH:∀ {Hx:Hp},SmX ds H2 Hx->o6 H Hx:=fun sx b o e=>sx b o (s02 _ _ e) (outH e)
 obtain⟨ks,hks⟩:∃ks,ks=a1D (ckD RC) N.length:=⟨_,rfl⟩
 have nk:ks.Nodup:=hks ▸ b2r (ckD RC) N.length
 have lk:ks.length<=400:=by rw[hks];have:=a6N (ckD RC) N.length;omega
 rw[<-hks]at kb
 refine⟨l,rfl,⟨_,SqL.of e2⟩,a2q (xs:=bs.map V.ref) (fun j σ Hx=>∃y2 y3 y4,∃A:Nat->Al,σ=[some (.ref x),some (.ref fl),y2,y3,y4]/\SmX ds H2 Hx/\(∀(t:Nat) d,ds[t]? = some d->Hx d=some (.dK (KD (A t))))/\∀t,t<N.length->KnI N RC ks j t (A t)) ?_ ?_ ?_ ?_⟩
 ·exact⟨_,_,_,fun _=>[],rfl,fun b o e _=>e,fun t d e=>dd2 d (mI e),fun t _=>⟨a5l,d9 _,fun n v=>⟨fun z=>(nomatch z),fun⟨_,⟨i,z,_⟩,_⟩=>by omega⟩⟩⟩
 ·rintro j σ Hx _ ⟨_,_,_,_,_,sx,_⟩
  exact SqL.of (sx _ _ e2 (out e2 fun _ z=>nomatch z))
 ·rintro j y _ Hx hy ⟨y2,y3,y4,A,rfl,sx,dx',kn⟩
  rw[b8]at hy
  obtain⟨b,hb,rfl⟩:=l6.mp hy
  have hj:=(gI hb)
  obtain⟨kk,hk⟩:∃kk,ks[j]? = some kk:=⟨_,d8 (by rw[<-kb.1];exact hj)⟩
  obtain⟨i0,hi0,hc⟩:=a6R _ (by rw[hks]at hk;exact mI hk)
  obtain⟨n,v,rfl,o,nm,nv,cp⟩:=b8D hr h6 hi0 hc
  have hb2:H2 b=some (.tup [.str "copy",.str n,v]):=by
   have:=kb.2 j b _ hb hk
   rw[this]
   show some (HO.tup [.str "copy",.str n,kV (c0J v)])=_
   rw[a7E o]
  have hjk:=(gI hk)
  ext
  nofun
  have hbx:=sx _ _ hb2 (out hb2 fun _ z=>nomatch z)
  have s0x:=sH sx
  exists a5L ck (hp.same s0x) hv (hr.ts (o6.ts s0x)) hbx o fun d3 H3 S kvs cb hS s3=>?_
  have dd3:∀(t:Nat) d,ds[t]? = some d->H3 d=some (.dK (KD (A t))):=fun t d e=>s3 _ _ (dx' t d e)
  have sx3:SmX ds H2 H3:=fun b o e q=>s3 _ _ (sx b o e q)
  have n3:d3∉ds:=by
   intro z
   obtain⟨t,ht⟩:=E4.mp z
   have q1:=dd3 t d3 ht
   rw[cb.hd]at q1
   have q1:=HO.dK.inj (Option.some.inj q1)
   have q2:=cb.keys
   rw[q1]at q2
   obtain⟨a,st,q3,_⟩:=cb.at_ 0 0 cb.z
   rw[q1]at q3
   unfold KD at q3
   rw[b8]at q3
   obtain⟨_,_,q4⟩:=l6.mp q3
   cases q4
  have hr5:∀ {Hy:Hp},SmX ds H3 Hy->Hy r=some (.lst (rs.map V.ref)):=fun sy=>sy _ _ (sx3 _ _ (s02 _ _ h5) (outH h5)) (outH h5)
  have hx5:∀ {Hy:Hp},SmX ds H3 Hy->Hy x=some (.ins c.G7 dx fs):=fun sy=>sy _ _ (sx3 _ _ (s02 _ _ h1) (outH h1)) (outH h1)
  have hf5:∀ {Hy:Hp},SmX ds H3 Hy->Hy fl=some (.lst (ds.map V.ref)):=fun sy=>by
   have q:=out (s2 _ _ efl) fun _ z=>nomatch z
   exact sy _ _ (sx3 _ _ (s2 _ _ efl) q) q
  have hb5:∀ {Hy:Hp},SmX ds H3 Hy->Hy b=some (.tup [.str "copy",.str n,v]):=fun sy=>sy _ _ (s3 _ _ hbx) (out hb2 fun _ z=>nomatch z)
  specialize Y6 (a0l ?_)
  specialize a1b ?_
  exists ⟨x,_,dx,_,.ref r,rfl,hx5 (fun _ _ e _=>e),ck.J4,ck.G9,h4,?_⟩
  refine M4 (hr5 (fun _ _ e _=>e)) ?_
  rw[a8,h6]
  refine⟨N.length,rfl,by omega,by omega,?_⟩
  rw[u4]
  refine X7 (fun i σ Hy=>∃y4,∃A:Nat->Al,σ=[some (.ref x),some (.ref fl),some (.ref b),some (.ref d3),y4]/\SmX ds H3 Hy/\(∀(t:Nat) d,ds[t]? = some d->Hy d=some (.dK (KD (A t))))/\∀t,t<N.length->KnI N RC ks (if t<i then j+1 else j) t (A t)) ⟨_,A,rfl,(fun _ _ e _=>e),dd3,fun t ht=>by rw[if_neg (by omega)];exact kn t ht⟩ ?_ ?_
  ·rintro i _ Hy hi ⟨y4,A,rfl,sy,dy,kn⟩
   rw[U1]
   have kni:=kn i hi
   rw[if_neg (by omega)]at kni
   ext
   specialize a3z ?_
   refine⟨d3,_,rfl,a1a.k (k:=Sum.inl (i:Int)) (sy _ _ cb.hd n3),?_⟩
   rw[cb.in_ i]
   refine⟨_,rfl,?_⟩
   have a2N:∀ {A':Nat->Al},(∀t,t≠i->A' t=A t)->KnI N RC ks (j+1) i (A' i)->∀t,t<N.length->KnI N RC ks (if t<i+1 then j+1 else j) t (A' t):=fun {A'} q1 q2 t ht=>by
    by_cases q:t=i
    ·rw[q,if_pos (by omega)];exact q2
    ·rw[q1 t q]
     have:=kn t ht
     by_cases u:t<i
     ·rw[if_pos u]at this;rw[if_pos (by omega)];exact this
     ·rw[if_neg u]at this;rw[if_neg (by omega)];exact this
   by_cases hm:i∈S
   ·exists o4 (by rw[c7r hm];rfl) ?_
    exact⟨_,A,rfl,sy,dy,a2N (fun _ _=>rfl) (kni.skip hk o ((hS i).mp hm))⟩
   ·refine A7 (by rw[c7q hm];rfl) ?_
    obtain⟨no,kp⟩:=kni.put hk o (fun z=>hm ((hS i).mpr z)) (hv.rc i hi) nk
    obtain⟨di,hdi⟩:∃di,ds[i]? = some di:=⟨_,d8 (by omega)⟩
    have mdi:=mI hdi
    specialize a2K ?_
    exists z5 (hb5 sy) (a6a _ _ _ _) ?_
    exists D9 (hf5 sy) (J5 (by rw[b8,hdi];rfl)) ?_
    refine z5 (hb5 sy) (a0o _ _ _) ?_
    refine⟨di,_,rfl,a5i.k (k:=Sum.inr n) (dy i di hdi) (E8 (by rw[a2b];have:=kni.le;omega)),?_⟩
    rw[b1n no]
    refine⟨_,fun t=>if t=i then A i++[(n,v)] else A t,rfl,fun b' o' e q=>by rw[c9 (show b'≠di from fun z=>q (by rw[z];exact mdi))];exact sy _ _ e q,fun t d e=>?_,a2N (fun t q=>if_neg q) (by rw[if_pos rfl];exact kp)⟩
    by_cases q:t=i
    ·rw[q,hdi]at e
     cases e
     rw[c6]
     show _=some (HO.dK (KD (if t=i then _ else _)))
     rw[if_pos q]
    ·rw[c9]
     show _=some (HO.dK (KD (if t=i then _ else _)))
     rw[if_neg q]
     ·exact dy t d e
     ·rintro rfl
      exact q (b8i nds e hdi)
  ·rintro _ Hy ⟨y4,A,rfl,sy,dy,kn⟩
   exact⟨_,_,_,A,rfl,fun b' o' e q=>sy _ _ (sx3 _ _ e q) q,dy,fun t ht=>by have:=kn t ht;rw[if_pos ht]at this;exact this⟩
 ·rintro _ Hx ⟨y2,y3,y4,A,rfl,sx,dx',kn⟩
  rw[a8,kb.1]at kn
  ext
  refine k fl ds A Hx ?_ lds dx' (fun t ht=>?_) (sH sx)
  ·have q:=out (s2 _ _ efl) fun _ z=>nomatch z
   exact sx _ _ (s2 _ _ efl) q
  ·have g:=kn t ht
   refine⟨g.nd,fun p hp=>((g.mem p.1 p.2).mp hp).1,fun n v=>?_⟩
   rw[g.mem]
   constructor
   ·rintro⟨o,⟨i,hi,e⟩,un⟩
    refine⟨?_,un⟩
    obtain⟨i0,hi0,hc⟩:=a6R _ (by rw[hks]at e;exact mI e)
    obtain⟨n',v',e',o',_,nv,_⟩:=b8D hr h6 hi0 hc
    obtain⟨rfl,rfl⟩:=b0U o o' e'
    exact nv
   ·rintro⟨nv,un⟩
    obtain⟨i,hi,cp⟩:=b9h (hv.rc t ht) un
    have hc:ckD RC i=some (cpK n v):=by
     unfold ckD
     rw[cp]
     exact if_neg nv
    obtain⟨n',v',e',o',_,_,cp'⟩:=b8D hr h6 hi hc
    rw[cp]at cp'
    cases cp'
    obtain⟨j,hj⟩:=E4.mp (a9S N.length hi hc)
    rw[<-hks]at hj
    exact⟨o',⟨j,(gI hj),hj⟩,un⟩
end
def rdV(A:Al)(v:V):V:=match v with
 | .str s=>(U3 (KD A) (Sum.inr s)).getD v
 | _=>v
def FwX(H:Hp)(f:V->V)(xs:List V)(q:Addr):Prop:=match xs with
 | [.str k,.str n,.ref p]=>∃q2 kd a b,H p=some (.tup [kd,a,b])/\H q=some (.tup [.str k,.str n,.ref q2])/\H q2=some (.tup [kd,f a,f b])
 | [.str k,.str n,v]=>H q=some (.tup [.str k,.str n,f v])
 | [.str k,v]=>H q=some (.tup [.str k,if k=("take" : Str)then v else f v])
 | _=>H q=some (.tup xs)
section
variable {K:Fg}{c:Cn}{q q':Addr}{f g:V->V}{A:Al}{ask:Bool}{E:XK}
theorem a5E{td ty tx:TE}(h:td σ H fun x H1=>∃a,x=.ref a/\IsD H1 a/\ty σ H1 fun y H2=>tx σ H2 fun z H3=>∃o,a1a H3 a y o/\Q (o.getD z) H3):a4K td ty tx σ H Q:=h
theorem c4a{i:Int}:U3 (KD A) (Sum.inl i)=none:=by
 induction A with
 | nil=>rfl
 | cons p A ih=>rw[b1p,a2j (by intro z;cases z)];exact ih
theorem a8F(o:OpN v)(hd:H d=some (.dK (KD A))):∃w,a1a H d v w/\w.getD v=rdV A v:=by
 rcases o with ⟨s,rfl,_⟩ | ⟨i,rfl,_⟩
 ·exact⟨_,.inl ⟨_,Sum.inr s,.inl hd,rfl,rfl⟩,rfl⟩
 ·exact⟨_,.inl ⟨_,Sum.inl i,.inl hd,rfl,rfl⟩,by rw[c4a];rfl⟩
theorem c1y(o:OpN v)(nd:ndA A)(fl:FlA A):OpN (rdV A v):=by
 rcases id o with ⟨s,rfl,_⟩ | ⟨i,rfl,_⟩
 ·show OpN ((U3 (KD A) (Sum.inr s)).getD (.str s))
  cases z:U3 (KD A) (Sum.inr s)with
  | none=>exact o
  | some w=>exact fl _ ((a1F nd).mp z)
 ·exact o
theorem c4I(n1:ndA A)(n2:ndA B)(h:∀n v,(n,v)∈A↔(n,v)∈B):rdV A=rdV B:=by
 funext v
 cases v with
 | str s=>
  show(U3 (KD A) (Sum.inr s)).getD _=(U3 (KD B) (Sum.inr s)).getD _
  congr 1
  cases z:U3 (KD A) (Sum.inr s)with
  | none=>exact((b1o n2).mpr fun w m=>(b1o n1).mp z w ((h s w).mpr m)).symm
  | some w=>exact((a1F n2).mpr ((h s w).mp ((a1F n1).mp z))).symm
 | _=>rfl
theorem FwX.ts(h:FwX H f xs q)(t:O1 H H'):FwX H' f xs q:=by
 unfold FwX at h ⊢
 split
 ·obtain⟨q2,kd,a,b,h1,h2,h3⟩:=h
  exact⟨q2,kd,a,b,t _ _ h1,t _ _ h2,t _ _ h3⟩
 ·rename_i z
  split at h
  ·rename_i e;cases e;exact(z _ rfl).elim
  ·rename_i e;cases e;exact t _ _ h
  ·rename_i e;cases e
  ·rename_i z1 z2 z3;exact(z2 _ _ _ rfl).elim
 ·split at h
  ·rename_i e;cases e
  ·rename_i e;cases e
  ·rename_i e;cases e;exact t _ _ h
  ·rename_i z1 z2 z3;exact(z3 _ _ rfl).elim
 ·rename_i z1 z2 z3
  split at h
  ·exact(z1 _ _ _ rfl).elim
  ·exact(z2 _ _ _ rfl).elim
  ·exact(z3 _ _ rfl).elim
  ·exact t _ _ h
theorem a7I{n:Str}(o:OpN v):FwX H f [.str "copy",.str n,v] q=(H q=some (.tup [.str "copy",.str n,f v])):=by
 rcases o with ⟨s,rfl,_⟩ | ⟨i,rfl,_⟩ <;> rfl
theorem a7H(o:OpN v):FwX H f [.str "tell",v] q=(H q=some (.tup [.str "tell",f v])):=by
 rcases o with ⟨s,rfl,_⟩ | ⟨i,rfl,_⟩ <;> rfl
theorem b0P(o:OpN v):FwX H f [.str "ask",v] q=(H q=some (.tup [.str "ask",f v])):=by
 rcases o with ⟨s,rfl,_⟩ | ⟨i,rfl,_⟩ <;> rfl
theorem c5m(rS:a3P H xs)(h1:FwX H f xs q)(h2:FwX H f xs q')(hf:∀v,OpN v->OpN (f v)):Dq K H 2 (.ref q) (.ref q'):=by
 have flat:∀ {ys:List V},H q=some (.tup ys)->H q'=some (.tup ys)->(∀y∈ys,E9 y=true)->Dq K H 2 (.ref q) (.ref q'):=fun {ys} a b fy=>.tup (SqT.of a) (SqT.of b) rfl fun j u v e1 e2=>by
  rw[e1]at e2
  cases e2
  exact .flat (fy _ (mI e1))
 cases rS with
 | set n p2 nm d2=>
  obtain⟨a,kd,v1,v2,a1,a2,a3⟩:=h1
  obtain⟨b,kd',w1,w2,b1,b2,b3⟩:=h2
  rw[a1]at b1
  cases b1
  obtain⟨kd',u1,u2,g,o1,o2,_⟩:=d2
  rw[a1]at g
  cases g
  refine .tup (SqT.of a2) (SqT.of b2) rfl fun j u v e1 e2=>?_
  match j with
  | 0=>cases e1;cases e2;exact .flat rfl
  | 1=>cases e1;cases e2;exact .flat rfl
  | 2=>
   cases e1;cases e2
   refine .tup (SqT.of a3) (SqT.of b3) rfl fun j u v e1 e2=>?_
   rw[e1]at e2
   cases e2
   have m:=mI e1
   simp only[c8,j7,or_false]at m
   rcases m with rfl | rfl | rfl
   ·exact .flat rfl
   ·exact .flat (hf _ o1).flat
   ·exact .flat (hf _ o2).flat
  | j+3=>cases e1
 | copy n w nm o=>
  rw[a7I o]at h1 h2
  refine flat h1 h2 fun y hy=>?_
  simp only[c8,j7,or_false]at hy
  rcases hy with rfl | rfl | rfl
  ·rfl
  ·rfl
  ·exact(hf _ o).flat
 | take n nm=>
  refine flat (ys:=[.str "take",.str n]) h1 h2 fun y hy=>?_
  simp only[c8,j7,or_false]at hy
  rcases hy with rfl | rfl <;> rfl
 | tell w o=>
  rw[a7H o]at h1 h2
  refine flat h1 h2 fun y hy=>?_
  simp only[c8,j7,or_false]at hy
  rcases hy with rfl | rfl
  ·rfl
  ·exact(hf _ o).flat
 | ask w o=>
  rw[b0P o]at h1 h2
  refine flat h1 h2 fun y hy=>?_
  simp only[c8,j7,or_false]at hy
  rcases hy with rfl | rfl
  ·rfl
  ·exact(hf _ o).flat
 | skip=>
  refine flat (ys:=[.str "skip"]) h1 h2 fun y hy=>?_
  rw[f6.mp hy];rfl
theorem c0Q(rS:a3P H xs)(hq:∃k r,xs=.str k::r/\decide ((k:Str) = "ask")=ask)(h:FwX H' f xs q)(t:O1 H H')(hf:∀v,OpN v->OpN (f v)):a5h H' (.ref q) ask:=by
 obtain⟨k,r,rfl,hk⟩:=hq
 cases rS with
 | set n p2 nm d2=>
  obtain⟨q2,kd,a,b,h1,h2,h3⟩:=h
  obtain⟨kd',u1,u2,g,o1,o2,hkd⟩:=d2
  rw[t _ _ g]at h1
  cases h1
  exact⟨q,_,rfl,h2,.set n q2 nm ⟨kd',_,_,h3,hf _ o1,hf _ o2,hkd⟩,_,_,rfl,hk⟩
 | copy n w nm o=>rw[a7I o]at h;exact⟨q,_,rfl,h,.copy n _ nm (hf _ o),_,_,rfl,hk⟩
 | take n nm=>exact⟨q,_,rfl,h,.take n nm,_,_,rfl,hk⟩
 | tell w o=>rw[a7H o]at h;exact⟨q,_,rfl,h,.tell _ (hf _ o),_,_,rfl,hk⟩
 | ask w o=>rw[b0P o]at h;exact⟨q,_,rfl,h,.ask _ (hf _ o),_,_,rfl,hk⟩
 | skip=>exact⟨q,_,rfl,h,.skip,_,_,rfl,hk⟩
theorem a6T(hr:b1j H p xs)(hd:H d=some (.dK (KD A)))(k:∀q H',FwX H' (rdV A) xs q->o6 H H'->Q (.ref q) H'):X4 K [.ref p,.ref d] H Q E:=by
 obtain⟨hp,rS⟩:=hr
 refine⟨rfl,?_⟩
 unfold a3g
 have isd:∀ {H':Hp},o6 H H'->IsD H' d:=fun s=>.inl ⟨_,.inl (s _ _ hd)⟩
 exact_mod_cast Q2 ?_
 obtain⟨k0,r,rfl⟩:=rS.head
 ext
 exists z5 hp (Q5 _ _) ?_
 cases rS with
 | set n p2 nm d2=>
  obtain⟨kd,a,b,g,o1,o2,_⟩:=d2
  refine A7 (by decide) ?_
  nofun
  exists z5 hp (a6a _ _ _ _) ?_
  exists z5 hp (a0o _ _ _) ?_
  exists z5 g (Q5 _ _) ?_
  specialize a5E ?_
  exists ⟨d,rfl,isd (o6.refl _),?_⟩
  exists z5 g (a0o _ _ _) ?_
  refine z5 g (a0o _ _ _) ?_
  obtain⟨w1,g1,r1⟩:=a8F (A:=A) o1 hd
  refine⟨w1,g1,?_⟩
  rw[r1]
  ext
  specialize a5E ?_
  exists ⟨d,rfl,isd (o6.refl _),?_⟩
  exists z5 g (a6a _ _ _ _) ?_
  refine z5 g (a6a _ _ _ _) ?_
  obtain⟨w2,g2,r2⟩:=a8F (A:=A) o2 hd
  refine⟨w2,g2,?_⟩
  rw[r2]
  ext
  exists D5 (by simp) fun q2 H1 hq2 e1 s1=>?_
  refine D5 (by simp) fun q H2 hq e2 s2=>?_
  exact k q H2 ⟨q2,_,_,_,s2 _ _ (s1 _ _ g),e2,s2 _ _ e1⟩ (s1.trans s2)
 | copy n v nm o=>
  exists o4 (by decide) ?_
  nofun
  exists z5 hp (Q5 _ _) ?_
  exists A7 (by decide) ?_
  exists z5 hp (a0o _ _ _) ?_
  specialize a5E ?_
  exists ⟨d,rfl,isd (o6.refl _),?_⟩
  exists z5 hp (a6a _ _ _ _) ?_
  refine z5 hp (a6a _ _ _ _) ?_
  obtain⟨w1,g1,r1⟩:=a8F (A:=A) o hd
  refine⟨w1,g1,?_⟩
  rw[r1]
  ext
  refine D5 (by simp) fun q H2 hq e2 s2=>?_
  exact k q H2 (by rw[a7I o];exact e2) s2
 | take n nm=>
  exists o4 (by decide) ?_
  nofun
  exists z5 hp (Q5 _ _) ?_
  exists o4 (by decide) ?_
  nofun
  exists z5 hp (Q5 _ _) ?_
  refine D5 (by simp) fun l H1 hl e1 s1=>?_
  refine a4y e1 rfl rfl ?_
  refine⟨_,rfl,?_⟩
  exists o4 (by decide +kernel) ?_
  exact k p H1 (s1 _ _ hp) s1
 | tell v o=>
  exists o4 (by decide) ?_
  nofun
  exists z5 hp (Q5 _ _) ?_
  exists o4 (by decide) ?_
  nofun
  exists z5 hp (Q5 _ _) ?_
  refine D5 (by simp) fun l H1 hl e1 s1=>?_
  refine a4y e1 rfl rfl ?_
  refine⟨_,rfl,?_⟩
  refine A7 (by decide +kernel) ?_
  have hp1:=s1 _ _ hp
  ext
  exists z5 hp1 (Q5 _ _) ?_
  specialize a5E ?_
  exists ⟨d,rfl,isd s1,?_⟩
  exists z5 hp1 (a0o _ _ _) ?_
  refine z5 hp1 (a0o _ _ _) ?_
  obtain⟨w1,g1,r1⟩:=a8F (A:=A) o (s1 _ _ hd)
  refine⟨w1,g1,?_⟩
  rw[r1]
  ext
  refine D5 (by simp) fun q H2 hq e2 s2=>?_
  exact k q H2 (by rw[a7H o];exact e2) (s1.trans s2)
 | ask v o=>
  exists o4 (by decide) ?_
  nofun
  exists z5 hp (Q5 _ _) ?_
  exists o4 (by decide) ?_
  nofun
  exists z5 hp (Q5 _ _) ?_
  refine D5 (by simp) fun l H1 hl e1 s1=>?_
  refine a4y e1 rfl rfl ?_
  refine⟨_,rfl,?_⟩
  refine A7 (by decide +kernel) ?_
  have hp1:=s1 _ _ hp
  ext
  exists z5 hp1 (Q5 _ _) ?_
  specialize a5E ?_
  exists ⟨d,rfl,isd s1,?_⟩
  exists z5 hp1 (a0o _ _ _) ?_
  refine z5 hp1 (a0o _ _ _) ?_
  obtain⟨w1,g1,r1⟩:=a8F (A:=A) o (s1 _ _ hd)
  refine⟨w1,g1,?_⟩
  rw[r1]
  ext
  refine D5 (by simp) fun q H2 hq e2 s2=>?_
  exact k q H2 (by rw[b0P o];exact e2) (s1.trans s2)
 | skip=>
  exists o4 (by decide) ?_
  nofun
  exists z5 hp (Q5 _ _) ?_
  exists o4 (by decide) ?_
  nofun
  exists z5 hp (Q5 _ _) ?_
  refine D5 (by simp) fun l H1 hl e1 s1=>?_
  refine a4y e1 rfl rfl ?_
  refine⟨_,rfl,?_⟩
  exists o4 (by decide +kernel) ?_
  exact k p H1 (s1 _ _ hp) s1
theorem a5G(o:OpN v)(hd:H d=some (.dK (KD A)))(k:Q (rdV A v) H):a2E K [.ref d,v] H Q E:=by
 refine⟨rfl,?_⟩
 unfold b7c
 nofun
 rcases id o with ⟨s,rfl,_⟩ | ⟨i,rfl,_⟩
 ·refine a3C (s := "str") rfl (by decide) ?_
  refine⟨_,rfl,?_⟩
  exists A7 (by decide) ?_
  specialize b2e ?_
  refine⟨d,_,rfl,a1a.k (k:=Sum.inr s) hd,?_⟩
  refine⟨_,rfl,?_⟩
  have k:Q ((U3 (KD A) (Sum.inr s)).getD (.str s)) H:=k
  cases z:U3 (KD A) (Sum.inr s)with
  | none=>
   rw[z]at k
   exists o4 rfl ?_
   exact k
  | some w=>
   rw[z]at k
   exists A7 rfl ?_
   specialize a6B ?_
   exact⟨d,w,rfl,.inl ⟨_,Sum.inr s,.inl hd,rfl,z.symm⟩,k⟩
 ·refine a3C (s := "int") rfl (by decide) ?_
  refine⟨_,rfl,?_⟩
  refine o4 (by decide) ?_
  exists o4 (by decide) ?_
  exact k
end
def FwL(H:Hp)(rs':List Addr)(RC:Nat->List V)(F:Nat->Al):Prop:=∀(i:Nat) q,rs'[i]? = some q->FwX H (rdV (F i)) (RC i) q
section
variable {K:Fg}{c:Cn}{x:Addr}{A:Al}{E:XK}
theorem b2f(hr:b1j H p xs)(hd:H d=some (.dK (KD A)))(k:∀q H',FwX H' (rdV A) xs q->o6 H H'->Q (.ref q) H'):a1M K [.ref p,.ref d] H Q E:=by
 obtain⟨hp,rS⟩:=hr
 refine⟨rfl,?_⟩
 unfold a7X
 exact_mod_cast Q2 ?_
 obtain⟨k0,r,rfl⟩:=rS.head
 ext
 exists z5 hp (Q5 _ _) ?_
 cases rS with
 | set n p2 nm d2=>
  obtain⟨kd,a,b,g,o1,o2,_⟩:=d2
  refine A7 (by decide) ?_
  nofun
  refine z5 hp (a6a _ _ _ _) ?_
  exists ⟨p2,_,rfl,SqT.of g,rfl,_,_,rfl,_,_,rfl,_,_,rfl,rfl,?_⟩
  exists z5 hp (a0o _ _ _) ?_
  exists a5G o1 hd ?_
  exists a5G o2 hd ?_
  exists D5 (by simp) fun q2 H1 hq2 e1 s1=>?_
  refine D5 (by simp) fun q H2 hq e2 s2=>?_
  exact k q H2 ⟨q2,_,_,_,s2 _ _ (s1 _ _ g),e2,s2 _ _ e1⟩ (s1.trans s2)
 | copy n v nm o=>
  exists o4 (by decide) ?_
  nofun
  exists z5 hp (Q5 _ _) ?_
  exists A7 (by decide) ?_
  exists z5 hp (a0o _ _ _) ?_
  exists z5 hp (a6a _ _ _ _) ?_
  exists a5G o hd ?_
  refine D5 (by simp) fun q H2 hq e2 s2=>?_
  exact k q H2 (by rw[a7I o];exact e2) s2
 | take n nm=>
  exists o4 (by decide) ?_
  nofun
  exists z5 hp (Q5 _ _) ?_
  exists o4 (by decide) ?_
  nofun
  exists z5 hp (Q5 _ _) ?_
  exists o4 (by decide) ?_
  exists z5 hp (Q5 _ _) ?_
  exists o4 (by decide) ?_
  exact k p H hp (o6.refl _)
 | tell v o=>
  exists o4 (by decide) ?_
  nofun
  exists z5 hp (Q5 _ _) ?_
  exists o4 (by decide) ?_
  nofun
  exists z5 hp (Q5 _ _) ?_
  refine A7 (by decide) ?_
  exists A7 (by decide) ?_
  exists z5 hp (Q5 _ _) ?_
  exists z5 hp (a0o _ _ _) ?_
  exists a5G o hd ?_
  refine D5 (by simp) fun q H2 hq e2 s2=>?_
  exact k q H2 (by rw[a7H o];exact e2) s2
 | ask v o=>
  exists o4 (by decide) ?_
  nofun
  exists z5 hp (Q5 _ _) ?_
  exists o4 (by decide) ?_
  nofun
  exists z5 hp (Q5 _ _) ?_
  exists o4 (by decide) ?_
  exists z5 hp (Q5 _ _) ?_
  exists A7 (by decide) ?_
  exists z5 hp (Q5 _ _) ?_
  exists z5 hp (a0o _ _ _) ?_
  exists a5G o hd ?_
  refine D5 (by simp) fun q H2 hq e2 s2=>?_
  exact k q H2 (by rw[b0P o];exact e2) s2
 | skip=>
  exists o4 (by decide) ?_
  nofun
  exists z5 hp (Q5 _ _) ?_
  exists o4 (by decide) ?_
  nofun
  exists z5 hp (Q5 _ _) ?_
  exists o4 (by decide) ?_
  exists z5 hp (Q5 _ _) ?_
  exists o4 (by decide) ?_
  exact k p H hp (o6.refl _)
abbrev KnF(N:Nt)(RC:Nat->List V)(F:Nat->Al):Prop:=∀t,t<N.length->ndA (F t)/\FlA (F t)/\∀n v,(n,v)∈F t↔v≠.str n/\¬UnC N RC n v t
theorem FwL.ts{rs':List Addr}{F:Nat->Al}(h:FwL H rs' RC F)(t:O1 H H'):FwL H' rs' RC F:=fun i q e=>(h i q e).ts t
theorem c3K(hra:H ra=some (.lst (rs.map V.ref)))(lrs:rs.length=N.length)(hr:a3j H rs RC)(hn:C8 H na N)(hv:a0s N)
  (k:∀l rs' F H',H' l=some (.lst ((rs':List Addr).map V.ref))->rs'.length=N.length->FwL H' rs' RC F->KnF N RC F->o6 H H'->Q (.ref l) H'):b0o K [.ref ra,.ref na] H Q E:=by
 have h400:=hv.le
 refine⟨rfl,?_⟩
 unfold c1s
 nofun
 exists b1V hra lrs hr hn hv fun sa vs S H1 hsa e1 A1 I1 cl s1=>?_
 obtain⟨F,hF⟩:∃F:Nat->Al,F=fun t=>(S t).getD []:=⟨_,rfl⟩
 have at_:∀t,t<N.length->S t=some (F t)/\∃dt,vs[t]? = some (.ref dt)/\H1 dt=some (.dK (KD (F t)))/\FlA (F t):=fun t ht=>by
  obtain⟨A,e2,_⟩:=I1.fin hv cl ht
  obtain⟨q1,_⟩ | ⟨A',dA,q1,q2,q3,fl⟩:=A1.2 t ht
  ·rw[e2]at q1;cases q1
  ·have:F t=A':=by rw[hF];show(S t).getD []=A';rw[q1];rfl
   rw[this]
   exact⟨q1,dA,q2,q3,fl⟩
 have kF:KnF N RC F:=fun t ht=>by
  obtain⟨A,e2,nd,mem⟩:=I1.fin hv cl ht
  obtain⟨q1,_,_,_,fl⟩:=at_ t ht
  rw[e2]at q1
  rw[Option.some.inj q1]at nd mem
  exact⟨nd,fl,mem⟩
 specialize S8 (a0l ?_)
 refine M4 (s1 _ _ hra) ?_
 rw[a8,lrs]
 refine⟨N.length,rfl,by omega,by omega,fun l hl=>?_⟩
 rw[u4]
 refine a3N (fun i ys H4=>∃rs':List Addr,ys=rs'.map V.ref/\rs'.length=i/\FwL H4 rs' RC F/\H4 l=some (.lst ys)/\o6 H1 H4) ⟨[],rfl,rfl,fun i q e=>(nomatch e),c6,v0 hl⟩ ?_ ?_ ?_
 ·rintro i ys H4 ⟨_,_,_,_,h,_⟩
  exact h
 ·rintro i ys H4 hi ⟨rs',rfl,rfl,fw,hd,s4⟩ R hR
  rw[U1]
  obtain⟨rx,hrx⟩:∃rx,rs[rs'.length]? = some rx:=⟨_,d8 (by omega)⟩
  obtain⟨_,dt,q1,q2,_⟩:=at_ _ hi
  have s04:=s1.trans s4
  ext
  exists D9 (s04 _ _ hra) (J5 (by rw[b8,hrx];rfl)) ?_
  exists D9 (s4 _ _ e1) (J5 q1) ?_
  refine b2f ((hr _ rx hrx).ts (o6.ts s04)) (s4 _ _ q2) fun q H5 fx s5=>?_
  have hd5:=s5 _ _ hd
  refine hR _ _ hd5 (E8 (by rw[a8];omega)) ⟨rs'++[q],by simp,by simp,fun i p e=>?_,c6,fun b o e=>by rw[c9 (c7 e hl)];exact s5 _ _ (s4 _ _ e)⟩
  have tp:O1 H5 (upd H5 l (.lst (rs'.map V.ref++[V.ref q]))):=O1.put hd5
  by_cases z:i<rs'.length
  ·rw[v8 z]at e
   exact((fw i p e).ts (o6.ts s5)).ts tp
  ·have:=(gI e)
   rw[o9,D3]at this
   obtain rfl:i=rs'.length:=by omega
   rw[F2 (d9 _)]at e
   simp at e
   rw[<-e]
   exact fx.ts tp
 rintro ys H4 ⟨rs',rfl,lrs',fw,hd,s4⟩
 exact k l rs' F H4 hd lrs' fw kF (s1.trans s4)
theorem b0Q(ck:a3Q K c)(hp:a4C K c Z rs H x N)(hv:a0s N)(hr:a3j H rs RC)
  (k:∀y Z' rs' F H',a4C K c Z' rs' H' y N->rs'.length=N.length->FwL H' rs' RC F->KnF N RC F->o6 H H'->Q (.ref y) H'):a1i K c [.ref x] H Q E:=by
 have h400:=hv.le
 refine⟨rfl,?_⟩
 unfold a7f
 nofun
 exists a5M ck hp.r hv hr fun fl ds F H1 e1 lds dd kF s1=>?_
 have hp1:=hp.same s1
 obtain⟨dx,r,n',e',es,ns',h1,⟨h2,h2r⟩,h3,h4,h5,_⟩:=hp1.ex
 have lrs:rs.length=N.length:=by
  obtain⟨rs0,r1,r2,_⟩:=id h2.ex
  rw[h2r]at r1
  have:=congrArg a9A (HO.lst.inj (Option.some.inj r1))
  rw[a8,a8]at this
  omega
 have row:∀ {i:Nat} {p:Addr} {l:List Nat},rs[i]? = some p->N[i]? = some l->a5h H1 (.ref p) (l.length == 2):=fun {i p l} a b=>by
  obtain⟨rs0,r1,r2,r3⟩:=id h2.ex
  obtain rfl:rs0=rs:=by
   rw[h2r]at r1
   exact(V9 (f:=V.ref) (fun a b h=>V.ref.inj h) |>.mp (HO.lst.inj (Option.some.inj r1))).symm
  exact r3 i p l a b
 exact_mod_cast b7r ?_
 exact_mod_cast a4R ?_
 exact_mod_cast b0A (a4d ?_)
 refine a4R (a1b (a4x rfl ?_))
 refine⟨x,_,dx,_,.ref r,rfl,h1,ck.J4,ck.G9,rfl,?_⟩
 refine b4y ?_
 refine⟨r,rfl,⟨_,SqL.of h2r⟩,fun D hD=>?_⟩
 refine b4k N.length (fun i ys H9=>∃rs':List Addr,ys=rs'.map V.ref/\rs'.length=i/\FwL H9 rs' RC F/\(∀(j:Nat) q l,rs'[j]? = some q->N[j]? = some l->a5h H9 (.ref q) (l.length == 2))/\H9 D=some (.lst ys)/\o6 H1 H9) ⟨[],rfl,rfl,fun i q e=>(nomatch e),fun i q l e=>(nomatch e),c6,v0 hD⟩ ?_ ?_ ?_ ?_
 ·rintro i ys H9 ⟨_,_,_,_,_,h,_⟩
  exact h
 ·rintro ys H9 ⟨rs',rfl,lrs',fw,rn,hD9,s9⟩
  refine⟨⟨_,SqL.of (s9 _ _ h2r),by rw[a8,lrs];exact d9 _⟩,?_⟩
  exact_mod_cast a4R ?_
  specialize a1b ?_
  exists ⟨x,_,dx,_,.ref n',rfl,s9 _ _ h1,ck.J4,ck.L8,rfl,?_⟩
  intro y dy hy hdy hne
  have sm:o6 H9 (upd (upd H9 dy (.own y)) y (.ins c.G7 dy [])):=fun b o e=>by
   rw[c9 (c7 e hy),c9 (c7 e hdy)];exact e
  obtain⟨H10,hH10⟩:∃H10,H10=upd (upd H9 dy (.own y)) y (.ins c.G7 dy []):=⟨_,rfl⟩
  have y10:H10 y=some (.ins c.G7 dy []):=hH10 ▸ c6
  rw[<-hH10]at sm ⊢
  have s110:=s9.trans sm
  refine a5K (E:=E0) ck (sm _ _ hD9) (show N5 H10 D N from⟨rs',sm _ _ hD9,lrs',fun i q l a b=>(rn i q l a b).ts (o6.ts sm)⟩) (show C8 H10 n' N from⟨ns',s110 _ _ h3,h4,fun i u l a b=>s110 _ _ (h5 i u l a b)⟩) hv y10 fun H11 pz old=>⟨rfl,?_⟩
  have s911:o6 H9 H11:=fun b o e=>old b o (sm _ _ e) (c7 e hy)
  exact k y _ rs' F H11 pz lrs' (fw.ts (o6.ts s911)) kF ((s1.trans s9).trans s911)
 ·rintro i ys H9 hi ⟨_,_,_,_,_,_,s9⟩
  exact⟨_,.ref (rs[i]'(by omega)),SqL.of (s9 _ _ h2r),by rw[b8,d8 (by omega)];rfl⟩
 ·rintro i ys H9 hi ⟨rs',rfl,rfl,fw,rn,hD9,s9⟩ v H10 ⟨pp,w,hpp,rfl,rfl,gw⟩
  obtain⟨rx,hrx⟩:∃rx,rs[rs'.length]? = some rx:=⟨_,d8 (by omega)⟩
  have gw:=gw _ (SqL.of (s9 _ _ h2r))
  rw[b8,hrx]at gw
  cases gw
  refine⟨pp,_,_,rfl,SqT.of c6,fun R S hR hS=>?_⟩
  have s10:o6 H9 (upd H9 pp (.tup [V.int (rs'.length:Int),V.ref rx])):=v0 hpp
  have s110:=s9.trans s10
  obtain⟨dt,hdt⟩:∃dt,ds[rs'.length]? = some dt:=⟨_,d8 (by omega)⟩
  ext
  exists A7 rfl ?_
  exists D9 (s110 _ _ e1) (J5 (by rw[b8,hdt];rfl)) ?_
  have rX:=(hr _ rx hrx).ts (o6.ts (s1.trans s110))
  refine a6T rX (s110 _ _ (dd _ dt hdt)) fun q H11 fx s11=>?_
  have hd11:=s11 _ _ (s10 _ _ hD9)
  have tp:O1 H11 (upd H11 D (.lst (rs'.map V.ref++[V.ref q]))):=O1.put hd11
  have s911:=s10.trans s11
  obtain⟨nd,flF,_⟩:=kF _ hi
  refine hR _ _ hd11 (E8 (by rw[a8];omega)) ⟨rs'++[q],by simp,by simp,fun j p e=>?_,fun j p l e hl=>?_,c6,fun b o e=>by rw[c9 (c7 e hD)];exact s911 _ _ (s9 _ _ e)⟩
  ·by_cases z:j<rs'.length
   ·rw[v8 z]at e
    exact((fw j p e).ts (o6.ts s911)).ts tp
   ·have:=(gI e)
    rw[o9,D3]at this
    obtain rfl:j=rs'.length:=by omega
    rw[F2 (d9 _)]at e
    simp at e
    rw[<-e]
    exact fx.ts tp
  ·by_cases z:j<rs'.length
   ·rw[v8 z]at e
    exact((rn j p l e hl).ts (o6.ts s911)).ts tp
   ·have:=(gI e)
    rw[o9,D3]at this
    obtain rfl:j=rs'.length:=by omega
    rw[F2 (d9 _)]at e
    simp at e
    rw[<-e]
    obtain⟨p0,xs0,ep,hp0,rS0,hq0⟩:=(row hrx hl).ts (o6.ts s110)
    cases ep
    rw[rX.1]at hp0
    cases hp0
    refine a5h.ts (c0Q rS0 hq0 fx (o6.ts s11) fun v o=>c1y o nd flF) tp
end
section
variable {K:Fg}{c:Cn}{x:Addr}{E:XK}
theorem c3H{l1 l2:Addr}{r1 r2:List Addr}{F G:Nat->Al}(hr:a3j H rs RC)(lrs:rs.length=N.length)(h1:H l1=some (.lst (r1.map V.ref)))(n1:r1.length=N.length)(f1:FwL H r1 RC F)(k1:KnF N RC F)(h2:H l2=some (.lst (r2.map V.ref)))(n2:r2.length=N.length)(f2:FwL H r2 RC G)(k2:KnF N RC G):Dq K H 3 (.ref l1) (.ref l2):=by
 refine .lst (SqL.of h1) (SqL.of h2) (by rw[a8,a8,n1,n2]) fun j u v e1 e2=>?_
 rw[b8]at e1 e2
 obtain⟨p,hp,rfl⟩:=l6.mp e1
 obtain⟨q,hq,rfl⟩:=l6.mp e2
 have hj:=(gI hp)
 rw[n1]at hj
 obtain⟨rx,hrx⟩:∃rx,rs[j]? = some rx:=⟨_,d8 (by omega)⟩
 obtain⟨a1,a2,a3⟩:=k1 j hj
 obtain⟨b1,b2,b3⟩:=k2 j hj
 have ef:rdV (G j)=rdV (F j):=c4I b1 a1 fun n v=>(b3 n v).trans (a3 n v).symm
 have g2:=f2 j q hq
 rw[ef]at g2
 exact c5m (hr j rx hrx).2 (f1 j p hp) g2 fun v o=>c1y o a1 a2
theorem a8n(ck:a3Q K c)(hp:a4C K c Z rs H x N)(hv:a0s N)(hR:N5 H ra N)(hra:H ra=some (.lst (rs.map V.ref)))(hn:C8 H na N)
  (k:∀H',o6 H H'->Q (.bl true) H'):a2n K c [.ref x,.ref ra,.ref na] H Q E:=by
 obtain⟨RC,hr⟩:=b7v hR hra
 have lrs:rs.length=N.length:=by
  obtain⟨rs0,r1,r2,_⟩:=id hR.ex
  rw[hra]at r1
  have:=congrArg a9A (HO.lst.inj (Option.some.inj r1))
  rw[a8,a8]at this
  omega
 refine⟨rfl,?_⟩
 unfold b4u
 nofun
 exists b0Q ck hp hv hr fun y Z' rs1 F H1 pz1 l1 fw1 kF s1=>?_
 exact_mod_cast Q2 ?_
 have hp1:=hp.same s1
 obtain⟨dy,r1,n1,e1,es1,ns1,y1,⟨y2,y2r⟩,y3,y4,y5,_⟩:=id pz1.ex
 obtain⟨dx,r,n,e,es,ns,h1,⟨h2,h2r⟩,h3,h4,h5,_⟩:=id hp1.ex
 ext
 refine⟨y,c.G7,dy,_,rfl,y1,ck.c1j,?_⟩
 refine⟨_,rfl,?_⟩
 exists o4 rfl ?_
 specialize a1b ?_
 exists ⟨x,_,dx,_,.ref r,rfl,h1,ck.J4,ck.G9,rfl,?_⟩
 refine⟨r,ra,3,rfl,rfl,by omega,b9w (hR.same s1) (s1 _ _ hra) h2r,?_⟩
 refine⟨_,rfl,?_⟩
 exists o4 rfl ?_
 specialize a1b ?_
 exists ⟨x,_,dx,_,.ref n,rfl,h1,ck.J4,ck.L8,rfl,?_⟩
 refine⟨n,na,2,rfl,rfl,by omega,b8g ⟨ns,h3,h4,h5⟩ (hn.same s1),?_⟩
 refine⟨_,rfl,?_⟩
 exists o4 rfl ?_
 specialize a1b ?_
 exists ⟨y,_,dy,_,.ref r1,rfl,y1,ck.J4,ck.G9,rfl,?_⟩
 refine c3K (s1 _ _ hra) lrs (hr.ts (o6.ts s1)) (hn.same s1) hv fun l rs2 G H2 e2 l2 fw2 kG s2=>?_
 refine⟨r1,l,3,rfl,rfl,by omega,c3H (hr.ts (o6.ts (s1.trans s2))) lrs (s2 _ _ y2r) l1 (fw1.ts (o6.ts s2)) kF e2 l2 fw2 kG,?_⟩
 refine⟨_,rfl,?_⟩
 refine A7 rfl ?_
 exact_mod_cast c4A ?_
 specialize a1b ?_
 exists ⟨y,_,dy,_,.ref n1,rfl,s2 _ _ y1,ck.J4,ck.L8,rfl,?_⟩
 exact⟨n1,na,2,rfl,rfl,by omega,b8g ⟨ns1,s2 _ _ y3,y4,fun i u l a b=>s2 _ _ (y5 i u l a b)⟩ (hn.same (s1.trans s2)),k H2 (s1.trans s2)⟩
end
theorem law_reading(K:Fg)(hl:ns.length<=63)(hO:c1e H)(hS:SqL K H a (ns.map V.int)):a8e K [.ref a] H (fun v _=>v=.bl true) (fun _ _ _=>False):=by
 refine⟨rfl,fun c ck=>?_⟩
 unfold b7g
 nofun
 exists c3O hS hl fun b d H1 B1 s1 _=>?_
 nofun
 refine b4D B1 fun p1 ra na N rs PL H2 e2 R2 hra2 P2 l4 T2 hv l24 B2 k2=>?_
 refine⟨p1,_,rfl,SqT.of e2,rfl,_,_,rfl,_,_,rfl,rfl,?_⟩
 nofun
 refine b4D B2 fun p2 rb nb M ts PM H3 e3 R3 hrb3 P3 m4 T3 hw m24 B3 k3=>?_
 refine⟨p2,_,rfl,SqT.of e3,rfl,_,_,rfl,_,_,rfl,rfl,?_⟩
 have R2':=R2.kept B2 k3
 have T2':=T2.kept B2 hv.two k3
 have hra3:=k3.1 _ _ hra2 (a4e B2 hra2)
 nofun
 exists b4H ck hra3 R2' T2' hv fun x Z H4 pz4 s4=>?_
 nofun
 exists b4H ck (s4 _ _ hrb3) (R3.same s4) (T3.same s4) hw fun y Y H5 py5 s5=>?_
 have s35:=s4.trans s5
 nofun
 refine a8n ck (pz4.same s5) hv (R2'.same s35) (s35 _ _ hra3) (T2'.same s35) fun H6 s6=>?_
 refine⟨_,rfl,?_⟩
 exists o4 rfl ?_
 have s36:=s35.trans s6
 refine a8n ck (py5.same s6) hw (R3.same s36) (s36 _ _ hrb3) (T3.same s36) fun H7 s7=>?_
 refine⟨_,rfl,?_⟩
 exists o4 rfl ?_
 have s57:=s6.trans s7
 have s37:=s36.trans s7
 exact a8n ck ((pz4.same s5).same s57) hv (R2'.same s37) (s37 _ _ hra3) (T2'.same s37) fun H8 s8=>rfl
end RD
set_option maxHeartbeats 0
namespace PR
open PySem L2 RD Y
abbrev c6g:Str:="__init__"
abbrev c6h:Str:="_law_script"
abbrev c6i:Str:="_law_bag"
abbrev c6j:Str:="_law_bag_here"
abbrev c6k:Str:="_law_many"
abbrev c6l:Str:="_law_take"
abbrev c6m:Str:="_law_some"
abbrev c6n:Str:="_law_k"
abbrev c6o:Str:="_law_pool"
abbrev c6p:Str:="_law_nexts"
abbrev c6q:Str:="_law_net"
abbrev c6r:Str:="_law_good"
abbrev c6s:Str:="_law_turn"
abbrev c6t:Str:="_law_reached"
abbrev c6u:Str:="_law_one"
abbrev c6v:Str:="_law_order"
abbrev c6w:Str:="_law_mended"
abbrev c6x:Str:="_law_pool_here"
abbrev c6y:Str:="_law_operand"
abbrev c6z:Str:="_law_kinds"
abbrev c6A:Str:="_law_deed"
abbrev c6B:Str:="_law_deeds"
abbrev c6C:Str:="_law_row"
abbrev c6D:Str:="_law_rows"
abbrev c6E:Str:="_law_plan"
abbrev c6F:Str:="check_length"
abbrev c6G:Str:="thing"
abbrev c6H:Str:="is_whole"
abbrev c6I:Str:="is_value"
abbrev c6J:Str:="is_operand"
abbrev c6K:Str:="check_each"
abbrev c6L:Str:="is_below"
abbrev c6M:Str:="following"
abbrev c6N:Str:="place"
abbrev c6O:Str:="are_nexts"
abbrev c6P:Str:="rows"
abbrev c6Q:Str:="nexts"
abbrev c6R:Str:="check_nexts"
abbrev c6S:Str:="stops_of"
abbrev c6T:Str:="check_ways"
abbrev c6U:Str:="steps_of"
abbrev c6V:Str:="_law_made"
abbrev c6W:Str:="plan"
abbrev c6X:Str:="copies_of"
abbrev c6Y:Str:="unready_steps"
abbrev c6Z:Str:="copying"
abbrev c7a:Str:="places_without"
abbrev c7b:Str:="operands_known"
abbrev c7c:Str:="forwarded_row"
abbrev c7d:Str:="forwarded"
abbrev c7e:Str:="_law_row_here"
abbrev c7f:Str:="_law_behind"
abbrev c7g:Str:="_law_other"
abbrev c7h:Str:="_law_both"
abbrev c7i:Str:="_law_state"
abbrev c7j:Str:="_law_standing"
abbrev c7k:Str:="_law_standing_here"
abbrev c7l:Str:="_law_read"
abbrev c7m:Str:="_law_row_read"
abbrev c7n:Str:="_law_due"
abbrev c7o:Str:="_law_plan_here"
abbrev c7p:Str:="_law_right"
section
def top(i:Nat):Stmt:=PySem.Challenge.pw_oncedone_k84_forwarded.main.body.getD i (.Pass ⟨0,0,0,0⟩)
abbrev b4B:Stmt:=top 46
abbrev b3w:Stmt:=top 47
abbrev b0y:Stmt:=top 50
abbrev b7q:Stmt:=top 48
abbrev a2o:Stmt:=top 49
abbrev a6y:Stmt:=top 51
abbrev b3z:Stmt:=top 52
abbrev b7n:Stmt:=top 53
abbrev a8j:Stmt:=top 54
abbrev a1z:Stmt:=top 24
abbrev a4c:Stmt:=top 9
abbrev a4O:Stmt:=top 7
abbrev a4P:Stmt:=top 8
abbrev a2J:Stmt:=top 10
abbrev a6z:Stmt:=top 11
abbrev a8k:Stmt:=top 12
abbrev a2M:Stmt:=top 25
abbrev a4Q:Stmt:=top 23
abbrev a1Q:Stmt:=top 28
abbrev a0E:Stmt:=top 29
abbrev a6w:Stmt:=top 32
abbrev a5D:Stmt:=top 31
abbrev a2G:Stmt:=top 30
abbrev a2L:Stmt:=top 33
abbrev a2H:Stmt:=top 34
abbrev a0U:Stmt:=R0 (top 35) 2
abbrev a0b:Stmt:=R0 (top 35) 0
abbrev b0z:Stmt:=top 55
abbrev a3A:Stmt:=top 40
abbrev a8i:Stmt:=top 14
abbrev a6x:Stmt:=top 37
abbrev a0S:Stmt:=top 38
abbrev T8:Stmt:=top 41
abbrev X6:Stmt:=top 42
abbrev a0T:Stmt:=top 43
abbrev a1P:Stmt:=top 44
abbrev a8l:Stmt:=top 56
abbrev b3A:Stmt:=top 57
abbrev a2I:Stmt:=top 58
abbrev b3y:Stmt:=top 59
abbrev a4N:Stmt:=top 60
abbrev b4A:Stmt:=top 61
abbrev b0x:Stmt:=top 62
abbrev b4z:Stmt:=top 63
structure Txt(K:Fg)(mg:Str->Option Value)(c:Cn):Prop where
 c5B:mg "abs" = none
 c1M:mg "all" = none
 c5A:mg "any" = none
 c4i:mg "bool" = none
 a0c:mg "enumerate" = none
 c5z:mg "int" = none
 L9:mg "isinstance" = none
 N4:mg "len" = none
 a2c:mg "list" = none
 c5y:mg "min" = none
 W0:mg "range" = none
 b8X:mg "sorted" = none
 c1L:mg "str" = none
 b4Y:mg "tuple" = none
 c5x:mg "zip" = none
 c1k:∃u,mg "BOUND" = some u/\C4 (.int 1000000000000) u
 b1w:∃u,mg "DEED_KINDS" = some u/\C4 (.ref c.a3d) u
 b6t:∃u,mg "FIGURES" = some u/\C4 (.str "0123456789") u
 a3e:∃u,mg "FIRST_STEP" = some u/\C4 (.ref c.R6) u
 b0e:∃u,mg "LETTERS" = some u/\C4 (.str "abcdefghijklmnopqrstuvwxyz") u
 a9d:∃u,mg "LONGEST_NAME" = some u/\C4 (.int 8) u
 c4h:∃u,mg "MOST" = some u/\C4 (.int 400) u
 c4g:∃u,mg "Plan" = some u/\C4 (.ref c.G7) u
abbrev scF(ns:List (Str×a4u)):Scope:={ kind:=.function,names:=ns,isGenerator:=false,isCoroutine:=false,more:=[] }
local macro_rules | `(tactic| walk_at "c0") => `(tactic| exact ⟨rfl, by decide +kernel, by decide +kernel, rfl, by decide +kernel, by decide +kernel, rfl, by decide +kernel⟩)
local macro_rules | `(tactic| walk_at "c1") => `(tactic| exact ⟨rfl, by decide +kernel, by decide +kernel, rfl, b4L (by decide +kernel), by decide +kernel, rfl, by decide +kernel⟩)
local macro_rules | `(tactic| walk_at "c2") => `(tactic| exact ⟨rfl, by decide +kernel, by decide +kernel, rfl, rfl, by decide +kernel, by decide +kernel, rfl, rfl, by decide +kernel⟩)
local macro_rules | `(tactic| walk_at "c3") => `(tactic| exact ⟨rfl, by decide +kernel, by decide +kernel, rfl, rfl, b4L (by decide +kernel), by decide +kernel, rfl, rfl, by decide +kernel⟩)
def b8S(f:List Value->Prop):List Str->Prop
 | []=>f []
 | _::r=>∀u,b8S (fun us=>f (u::us)) r
theorem b8S.mp:∀ {ps:List Str} {f:List Value->Prop},b8S f ps->∀us,us.length=ps.length->f us
 | [],_,h,[],_=>h
 | _::_,_,h,u::us,e=>b8S.mp (h u) us (Nat.succ.inj e)
section
variable {P:w4}{w:World}{K:Fg}{mg:Str->Option Value}{base h:Heap}{c:Cn}{f C:Addr}{fd:W2}{x q:Str}{st:Stmt}{N ps:List Str}{k:Nat}{t:TS}{pm cd:Value}{sp:Sp}
open PySem.Spec PyProof.Rows in
theorem fk(F:Fun K x q st f fd)(S:v6 N ps (g8 st))(b:∀cdv A outer s H E,M5 k (A.deeper (b1B q (g8 st) s.heap.objs.size f cdv))->N.Nodup->a7S (b2H CX0 P w K mg base N q (g8 st) f cdv A outer s H E).nox (a0m st) t):G8 P w K mg base CX0 (k+1) f fd ps (spD ps.length N.length t):=
 b1G F S (fun _ _ _ _ h=>h.1) fun cdv A outer s H _ _ E hr h=>⟨t,b cdv A outer s H E hr S.nd,h.2⟩
abbrev fdM(x q:Str)(st:Stmt)(pm cd:Value):W2:=Y2 x q (a1S st) (a0m st) (g8 st) .none .none .none pm none cd .none
structure FnI(K:Fg)(x q:Str)(st:Stmt)(f:Addr)(pm cd:Value):Prop where
 l:K.lookup f=some ⟨.type "function",none,.func (fdM x q st pm cd),#[]⟩
 c:a4r K cd q=true
 k:P8 K (.ref f)=true
structure FnG(K:Fg)(x:Str)(st:Stmt)(f:Addr)(pm cd:Value):Prop where
 i:FnI K x x st f pm cd
 a:w6 K t5 x=some (some (.ref f))
structure FnM(K:Fg)(C:Addr)(x q:Str)(st:Stmt)(f:Addr)(pm cd:Value):Prop where
 i:FnI K x q st f pm cd
 a:C0 K (.ref C) x=some (some (.ref f))
 n:a7c K (.ref f)=true
theorem FnI.F(h:FnI K x q st f pm cd):Fun K x q st f (fdM x q st pm cd):=c3I h.l h.c h.k
abbrev BdA(x q:Str)(st:Stmt)(ps:List Str):Prop:=∀(kV doc pm:Value) (an:Option Addr) (cdv ct:Value),b8S (fun us=>bindArgs (Y2 x q (a1S st) (a0m st) (g8 st) .none kV doc pm an cdv ct) ⟨us,[]⟩=pure (ps.zip us)) ps
theorem mkC(X:K.In h)(G:h.Ns t5 mg)(g:FnG K x st f pm cd)(O:G8 P w K mg base CX0 k f (fdM x x st pm cd) ps sp)(B:BdA x x st ps):C6 P w K mg base k x ps sp:=b6e g.i.F O (M6 X G g.a) (g.i.F.binds fun _ _ _ _ _ _ us hl=>(B _ _ _ _ _ _).mp us hl)
theorem mkM(g:FnM K C x q st f pm cd)(cl:Cls K C)(O:G8 P w K mg base CX0 k f (fdM x q st pm cd) ps sp)(B:BdA x q st ps):a7J P w K mg base k x C ps sp:=⟨_,_,O,cl,⟨g.a,g.n,g.i.k⟩,g.i.F.binds fun _ _ _ _ _ _ us hl=>(B _ _ _ _ _ _).mp us hl⟩
theorem mkK{y:Str}(X:K.In h)(G:h.Ns t5 mg)(g:FnM K C c6g q st f pm cd)(y1:w6 K t5 y=some (some (.ref C)))(m:a3p K C=true)(kc:P8 K (.ref C)=true)(O:G8 P w K mg base CX0 k f (fdM c6g q st pm cd) ps sp)(B:BdA c6g q st ps):b2U P w K mg base k y C ps sp:=⟨_,_,O,M6 X G y1,⟨m,g.a,g.n,kc⟩,g.i.F.binds fun _ _ _ _ _ _ us hl=>(B _ _ _ _ _ _).mp us hl⟩
end
section
variable {P:w4}{w:World}{K:Fg}{mg:Str->Option Value}{base:Heap}{c:Cn}{f:Addr}{fd:W2}(T:Txt K mg c)
abbrev b8b:List Str:=[c6h]
theorem c1X:v6 [c6h] b8b (g8 b4B):=by walk_at "sc"
theorem b8F:K8 [c6h] (g8 b4B) (scF [ (".0",.local),("_law_cell",.local),("abs",.globalImplicit)]) "_law_cell" := by walk_at "c0"
include T in
theorem c3n(F:Fun K c6i c6i b4B f fd):G8 P w K mg base CX0 1 f fd b8b (b0p K):=fk F c1X fun _ _ _ _ _ _ hr nd=>b9 (l5 (J2 (b1D b6 b6 b6 (L1 b8F rfl (D7 (a2w b4Z (b7 0) a3W (a3V b6))) (fun _ _ _ _ _=>D1) (fun _ _ _ _ _=>j6 b1J rfl T.c5B PyProof.Rows.boot_abs (o7 (b7 0)))))))
variable(b4T:C6 P w K mg base 1 c6i b8b (b0p K))
abbrev b3I:List Str:=[c6j,c6k]
theorem b9o:v6 [c6j,c6k,"_law_more","_law_cell","_law_value","_law_first","_law_second"] b3I (g8 b3w):=by walk_at "sc"
include T in
theorem c0t(F:Fun K c6l c6l b3w f fd):G8 P w K mg base CX0 1 f fd b3I (K5 K):=fk F b9o fun _ _ _ _ _ _ hr nd=>b4 (u6 (C2 (A8 hr) (j8 (b7 0) b6) b6) (b4 (v4 2 nd b6) (b4 (u6 (C2 a0h (j8 (b7 0) b6) (j6 q9 rfl T.N4 j9 (o7 (j8 (b7 0) b6)))) (b4 (v4 3 nd (j8 (j8 (b7 0) b6) (j8 (b7 0) b6))) (b4 (b5b (b7 0) b6 b9c b6 b1F a3U) (b4 (u6 (C2 b6Q (b7 3) b6) (b9 (a0L (b7 3) (a3u (b7 0) b6 a3U))) l3) (b9 (v4 2 nd (D6 Q6 (D6 Z9 (b7 3) b6) b6)))))) l3) (b9 (a0L (D6 Z9 (D6 Q6 (D6 a2h (j8 (b7 0) b6) b6) (b7 2)) b6) (a3u (b7 0) b6 a3U))))) l3) (b4 (u6 (C2 a2i (j8 (b7 0) b6) b6) (b4 (v4 4 nd (D6 Z9 (j8 (b7 0) b6) (b7 1))) (b4 (a0L (D6 a9H (j8 (b7 0) b6) (b7 1)) (a3u (b7 0) b6 a3U)) (b9 (l5 (b7 4))))) l3) (b4 (v4 5 nd (D6 Z9 (D6 a2h (j8 (b7 0) b6) b6) b6)) (b4 (v4 6 nd (D6 Z9 (D6 a2h (b7 5) b6) b6)) (b4 (u6 (C2 a2i (b7 1) b6) (b9 (l5 (D6 Z9 (D6 Q6 (D6 a2h (b7 6) b6) (b7 5)) (b7 1)))) l3) (b9 (l5 (D6 Z9 (D6 a9H (b7 6) b6) (b7 1))))))))
variable(F5:C6 P w K mg base 1 c6l b3I (K5 K))
abbrev b3K:List Str:=[c6j]
theorem b9q:v6 [c6j,c6m,"_law_at"] b3K (g8 b0y):=by walk_at "sc"
theorem b6a:K8 [c6j,c6m,"_law_at"] (g8 b0y) (scF [ (".0",.local),(c6n,.local),("_law_at",.free),(c6m,.free)]) c6n := by walk_at "c0"
include T F5 in
theorem c0v(F:Fun K c6o c6o b0y f fd):G8 P w K mg base CX0 2 f fd b3K (a7z K):=fk F b9q fun _ _ _ _ _ _ hr nd=>b4 (v4 1 nd (J2 (E3 t7 (E3 t7 (E3 t7 (E3 t7 (E3 t7 (c1o t7 t7 t7 t7 t7)))))))) (b4 (v4 2 nd (p5 F5 hr (A2 (b7 0) b6))) (b9 (l5 (L1 b6a rfl (F6 rfl T.W0 (o7 (D6 Q6 b6 (p5 F5 hr (A2 (b7 0) b6))))) (fun _ _ _ _ _=>D1) (fun _ _ _ _ _=>j8 (b7 2) (D6 Z9 (D6 Q6 (b7 3) (D6 a2h b6 (b7 0))) b6))))))
variable(b1c:C6 P w K mg base 2 c6o b3K (a7z K))
abbrev b7Z:List Str:=[c6j,c6k]
theorem c1V:v6 [c6j,c6k,c6p,c6n,"_law_near",c6m,"_law_way"] b7Z (g8 b7q):=by walk_at "sc"
include T F5 in
theorem c3k(F:Fun K c6q c6q b7q f fd):G8 P w K mg base CX0 2 f fd b7Z (b0n K):=fk F c1V fun _ _ _ _ _ _ hr nd=>b4 (v4 2 nd (J2 Y4)) (b4 (K0 PassesOwn.never rfl (F6 rfl T.W0 (o7 (b7 1))) (F9 3 nd) (b4 (v4 4 nd (j6 (b1H rfl) rfl T.c5y PyProof.Rows.boot_min (A2 (D6 Q6 (b7 3) b6) (D6 a6m (b7 1) b6)))) (b4 (v4 5 nd (J2 (A2 (b7 4) (p5 F5 hr (A2 (b7 0) (b7 1)))))) (b4 (v4 6 nd (p5 F5 hr (A2 (b7 0) b6))) (b4 (u6 (C2 a0h (b7 6) b6) (b9 (v4 5 nd (J2 (A2 (j8 (b7 5) b6) (b7 4))))) l3) (b4 (u6 (C2 (A8 hr) (b7 6) b6) (b9 (v4 5 nd (J2 (A2 (j8 (b7 5) b6) (p5 F5 hr (A2 (b7 0) (b7 1))))))) l3) (b4 (u6 (M9 (W7 (M9 (a0J (C2 a2i (b7 6) b6) (Z8 (C2 a0h (b7 6) b6)))) (V0 (C2 (A8 hr) (b7 1) b6)))) (b9 (v4 5 nd (J2 (o7 (b7 4))))) l3) (b4 (u6 (M9 (a0J (C2 (A8 hr) (b7 6) b6) (Z8 (C2 a2i (b7 1) b6)))) (b9 (v4 5 nd (J2 (o7 (j8 (b7 5) b6))))) l3) (b4 (u6 (M9 (W7 (C2 (A8 hr) (b7 3) (D6 a6m (b7 1) b6)) (V0 (M9 (a0J (C2 (A8 hr) (b7 6) b6) (Z8 (C2 (A8 hr) (p5 F5 hr (A2 (b7 0) b6)) b6))))))) (b9 (v4 5 nd (J2 Y4))) l3) (b9 (O8 (a2y E5 Z6 Z5 a1e (b7 2) (o7 (b7 5)))))))))))))) (b9 (l5 (b7 2))))
variable(b4R:C6 P w K mg base 2 c6q b7Z (b0n K))
abbrev a8v:List Str:=[c6p]
theorem b5s:v6 [c6p,c6r,c6s,c6n,c6t,c6u,c6v] a8v (g8 a2o):=by walk_at "sc"
theorem b2P:K8 [c6p,c6r,c6s,c6n,c6t,c6u,c6v] (g8 a2o) (scF [ (".0",.local),(c6u,.local),(c6r,.free)]) c6u := by walk_at "c0"
theorem b2O:K8 [c6p,c6r,c6s,c6n,c6t,c6u,c6v] (g8 a2o) (scF [ (".0",.local),(c6n,.local),("len",.globalImplicit),(c6r,.free),(c6p,.free)]) c6n := by walk_at "c0"
theorem b2N:K8 [c6p,c6r,c6s,c6n,c6t,c6u,c6v] (g8 a2o) (scF [ (".0",.local),(c6n,.local),(c6p,.free),(c6v,.free)]) c6n := by walk_at "c0"
theorem b2M(env:Env):K8 [c6n,c6p,c6r,c6s,"._law_k",c6t,c6u,c6v] (a6j (scF [ (".0",.local),(c6n,.local),(c6p,.free),(c6v,.free)]) env) (scF [ (".0",.local),(c6u,.local),(c6v,.free)]) c6u := by walk_at "c1"
include T in
theorem b5G(F:Fun K c6w c6w a2o f fd):G8 P w K mg base CX0 1 f fd a8v (a3Z K):=fk F b5s fun _ _ _ _ _ _ hr nd=>b4 (v4 1 nd a0v) (b4 (K0 PassesOwn.never rfl (F6 rfl T.W0 (o7 (j6 q9 rfl T.N4 j9 (o7 (b7 0))))) (F9 2 nd) (b9 (K0 PassesOwn.never rfl (F6 rfl T.W0 (o7 (j6 q9 rfl T.N4 j9 (o7 (b7 0))))) (F9 3 nd) (b9 (u6 (M9 (W7 (C2 (A8 hr) (j8 (b7 0) (b7 3)) (J2 Y4)) (V0 (N7 (j6 (b1I rfl) rfl T.c5A PyProof.Rows.boot_any (o7 (L1 b2P rfl (D7 (j8 (b7 0) (b7 3))) (fun _ _ _ _ _=>D1) (fun _ _ _ _ _=>b6O hr (b7 0) (b7 2) rfl)))))))) (b9 (X0 hr (b7 1) (b7 3) V5)) l3))))) (b4 (v4 0 nd (L1 b2O rfl (F6 rfl T.W0 (o7 (j6 q9 rfl T.N4 j9 (o7 (b7 0))))) (fun _ _ _ _ _=>D1) (fun _ _ _ _ _=>a4G (a5n hr (b7 0) (b7 2) rfl) (j8 (b7 1) (b7 0)) (D6 Q6 (J2 (o7 (D6 a6m (j6 q9 rfl T.N4 j9 (o7 (b7 1))) b6))) (a2w b3d (j8 (b7 1) (b7 0)) (a3V b6) a3W))))) (b4 (v4 4 nd (a9E (a7P b6 V5 a9D))) (b4 (K0 PassesOwn.never rfl (F6 rfl T.W0 (o7 (j6 q9 rfl T.N4 j9 (o7 (b7 0))))) (F9 2 nd) (b9 (K0 PassesOwn.never rfl (F6 rfl T.W0 (o7 (j6 q9 rfl T.N4 j9 (o7 (b7 0))))) (F9 3 nd) (b9 (u6 (a5n hr (b7 3) (b7 4) rfl) (b9 (K0 PassesOwn.never rfl (D7 (j8 (b7 0) (b7 3))) (F9 5 nd) (b9 (X0 hr (b7 4) (b7 5) V5)))) l3))))) (b4 (v4 6 nd (j6 a7R rfl T.b8X PyProof.Rows.boot_sorted (o7 (W4 (a9i rfl) rfl T.a2c C7 (o7 (b7 4)))))) (b9 (l5 (L1 b2N rfl (D7 (b7 6)) (fun _ _ _ _ _=>D1) (fun _ _ _ _ _=>L1 (b2M _) rfl (D7 (j8 (b7 1) (b7 0))) (fun _ _ _ _ _=>D1) (fun _ _ _ _ _=>a2y E5 b1x PySem.F.type_list_index b1E (b7 8) (o7 (b7 0))))))))))))
variable(a5X:C6 P w K mg base 1 c6w a8v (a3Z K))
abbrev a6G:List Str:=[c6j,c6x]
theorem b3s:v6 [c6j,c6x,"_law_values"] a6G (g8 a6y):=by walk_at "sc"
include T F5 in
theorem b3S(F:Fun K c6y c6y a6y f fd):G8 P w K mg base CX0 2 f fd a6G (W5 K):=fk F b3s fun _ _ _ _ _ _ hr nd=>b4 (u6 (C2 (A8 hr) (p5 F5 hr (A2 (b7 0) b6)) b6) (b4 (v4 2 nd (J2 (b1D b6 b6 b6 (p5 F5 hr (A2 (b7 0) b6))))) (b9 (l5 (j8 (b7 2) (p5 F5 hr (A2 (b7 0) b6)))))) l3) (b9 (l5 (j8 (b7 1) (p5 F5 hr (A2 (b7 0) (j6 q9 rfl T.N4 j9 (o7 (b7 1))))))))
variable(V4:C6 P w K mg base 2 c6y a6G (W5 K))
abbrev b3N:List Str:=[c6j,c6x]
theorem b9t:v6 [c6j,c6x,c6z] b3N (g8 b3z):=by walk_at "sc"
include T F5 V4 in
theorem c0y(F:Fun K c6A c6A b3z f fd):G8 P w K mg base CX0 3 f fd b3N (a7A K):=fk F b9t fun _ _ _ _ _ _ hr nd=>b4 (v4 2 nd (J2 (c1o t7 t7 t7 t7 t7))) (b9 (l5 (E7 (a0M (j8 (b7 2) (p5 F5 hr (A2 (b7 0) b6))) (p5 V4 hr (A2 (b7 0) (b7 1))) (p5 V4 hr (A2 (b7 0) (b7 1)))))))
variable(b1d:C6 P w K mg base 3 c6A b3N (a7A K))
abbrev b7Y:List Str:=[c6j,c6x,c6B,"_law_asks"]
theorem c1U:v6 [c6j,c6x,c6B,"_law_asks","_law_way","_law_name"] b7Y (g8 b7n):=by walk_at "sc"
include T F5 V4 in
theorem c3j(F:Fun K c6C c6C b7n f fd):G8 P w K mg base CX0 3 f fd b7Y (b0m K):=fk F c1U fun _ _ _ _ _ _ hr nd=>b4 (u6 (N7 (b7 3)) (b9 (l5 (E7 (A2 t7 (p5 V4 hr (A2 (b7 0) (b7 1))))))) l3) (b4 (v4 4 nd (p5 F5 hr (A2 (b7 0) b6))) (b4 (v4 5 nd (j8 (b7 1) (p5 F5 hr (A2 (b7 0) (j6 q9 rfl T.N4 j9 (o7 (b7 1))))))) (b4 (u6 (C2 a0h (b7 4) b6) (b9 (l5 (E7 (a0M t7 (b7 5) (j8 (b7 2) (p5 F5 hr (A2 (b7 0) (j6 q9 rfl T.N4 j9 (o7 (b7 2)))))))))) l3) (b4 (u6 (C2 a0h (b7 4) b6) (b9 (l5 (E7 (a0M t7 (b7 5) (p5 V4 hr (A2 (b7 0) (b7 1))))))) l3) (b4 (u6 (C2 (A8 hr) (b7 4) b6) (b9 (l5 (j8 (J2 (A2 (E7 (A2 t7 (b7 5))) (E7 (A2 t7 (p5 V4 hr (A2 (b7 0) (b7 1))))))) (p5 F5 hr (A2 (b7 0) b6))))) l3) (b9 (l5 (E7 (o7 t7)))))))))
variable(b4Q:C6 P w K mg base 3 c6C b7Y (b0m K))
abbrev b3L:List Str:=[c6j]
theorem b9r:v6 [c6j,c6x,c6k,c6z,c6p,c6B,c6D] b3L (g8 a8j):=by walk_at "sc"
theorem b6c:K8 [c6j,c6x,c6k,c6z,c6p,c6B,c6D] (g8 a8j) (scF [ (".0",.local),(c6n,.local),(c6A,.globalImplicit),(c6j,.free),(c6x,.free)]) c6n := by walk_at "c0"
theorem b6b:K8 [c6j,c6x,c6k,c6z,c6p,c6B,c6D] (g8 a8j) (scF [ (".0",.local),(c6m,.local),(c6C,.globalImplicit),("len",.globalImplicit),(c6j,.free),(c6B,.free),(c6x,.free)]) c6m := by walk_at "c0"
include T F5 b1c b4R a5X b1d b4Q in
theorem c0w(F:Fun K c6E c6E a8j f fd):G8 P w K mg base CX0 4 f fd b3L (a5x K):=fk F b9r fun _ _ _ _ _ _ hr nd=>b4 (v4 1 nd (p5 b1c hr (o7 (b7 0)))) (b4 (v4 2 nd (D6 Q6 b6 (p5 F5 hr (A2 (b7 0) b6)))) (b4 (v4 3 nd (D6 Q6 b6 (p5 F5 hr (A2 (b7 0) b6)))) (b4 (u6 (C2 (A8 hr) (p5 F5 hr (A2 (b7 0) b6)) b6) (b4 (v4 2 nd (D6 Q6 b6 (p5 F5 hr (A2 (b7 0) b6)))) (b9 (v4 3 nd (D6 Q6 b6 (p5 F5 hr (A2 (b7 0) b6)))))) l3) (b4 (v4 4 nd (p5 a5X hr (o7 (p5 b4R hr (A2 (b7 0) (b7 2)))))) (b4 (v4 5 nd (L1 b6c rfl (F6 rfl T.W0 (o7 (b7 3))) (fun _ _ _ _ _=>D1) (fun _ _ _ _ _=>p5 b1d hr (A2 (b7 1) (b7 2))))) (b4 (W9 (n:=6) nd rfl rfl b6b rfl (D7 (b7 4)) (fun _ _ _ _ _=>D1) (fun _ _ _ _ _=>p5 b4Q hr (b1D (b7 1) (b7 2) (b7 6) (a4I (A8 hr) (j6 q9 rfl T.N4 j9 (o7 (b7 0))) b6)))) (b9 (l5 (E7 (A2 (b7 6) (b7 4)))))))))))
variable(a8V:C6 P w K mg base 4 c6E b3L (a5x K))
abbrev a1B:List Str:=["things","at","least"]
theorem a7t:v6 ["things","at","least"] a1B (g8 a1z):=by walk_at "sc"
include T in
theorem a7v(F:Fun K c6F c6F a1z f fd):G8 P w K mg base CX0 1 f fd a1B (Y9 K):=fk F a7t fun _ _ _ _ _ _ hr nd=>b4 (u6 (M9 (W7 (V1 (N7 (j6 Q8 rfl T.L9 y8 (A2 (b7 0) (X1 rfl T.a2c C7 rfl))))) (V0 (C2 a0h (j6 q9 rfl T.N4 j9 (o7 (b7 0))) (b7 2))))) (b9 a1t) l3) (b9 (u6 (C2 a2i (j6 q9 rfl T.N4 j9 (o7 (b7 0))) (P4 T.c4h rfl)) (b9 a1t) l3))
variable(a0n:C6 P w K mg base 1 c6F a1B (Y9 K))
abbrev a6H:List Str:=[c6G]
theorem b3t:v6 [c6G] a6H (g8 a4c):=by walk_at "sc"
theorem b0X:K8 [c6G] (g8 a4c) (scF [ (".0",.local),("sign",.local),("LETTERS",.globalImplicit),("FIGURES",.globalImplicit)]) "sign" := by walk_at "c0"
include T in
theorem b3T(F:Fun K "is_name" "is_name" a4c f fd):G8 P w K mg base CX0 1 f fd a6H (U4 K):=fk F b3t fun _ _ _ _ _ _ hr nd=>b4 (u6 (M9 (W7 (V1 (N7 (j6 Q8 rfl T.L9 y8 (A2 (b7 0) (X1 rfl T.c1L a9y rfl))))) (V0 (V1 (b3e a5o a5o b6 (j6 q9 rfl T.N4 j9 (o7 (b7 0))) (P4 T.a9d rfl)))))) (b9 (l5 V5)) l3) (b9 (l5 (N9 (V3 a0N (j8 (b7 0) b6) (P4 T.b0e rfl) rfl) (Q7 (j6 (a7e rfl) rfl T.c1M a9z (o7 (L1 b0X rfl (b6J (b7 0)) (fun _ _ _ _ _=>D1) (fun _ _ _ _ _=>V3 a0N (b7 0) (D6 Q6 (P4 T.b0e rfl) (P4 T.b6t rfl)) rfl))))))))
variable(Y0:C6 P w K mg base 1 "is_name" a6H (U4 K))
abbrev a4Y:List Str:=[c6G]
theorem b2b:v6 [c6G] a4Y (g8 a4O):=by walk_at "sc"
include T in
theorem b2m(F:Fun K c6H c6H a4O f fd):G8 P w K mg base CX0 1 f fd a4Y (a0P K):=fk F b2b fun _ _ _ _ _ _ hr nd=>b9 (l5 (N9 (j6 Q8 rfl T.L9 y8 (A2 (b7 0) (X1 rfl T.c5z PyProof.Rows.boot_int rfl))) (Q7 (b6L (j6 Q8 rfl T.L9 y8 (A2 (b7 0) (X1 rfl T.c4i PyProof.Rows.boot_bool rfl)))))))
variable(Z4:C6 P w K mg base 1 c6H a4Y (a0P K))
abbrev a4Z:List Str:=[c6G]
theorem b2c:v6 [c6G] a4Z (g8 a4P):=by walk_at "sc"
include T Z4 in
theorem b2n(F:Fun K c6I c6I a4P f fd):G8 P w K mg base CX0 2 f fd a4Z (a1N K):=fk F b2c fun _ _ _ _ _ _ hr nd=>b9 (l5 (N9 (p5 Z4 hr (o7 (b7 0))) (Q7 (a7Q a5o a0h b6 (b7 0) (P4 T.c1k rfl)))))
variable(a2Y:C6 P w K mg base 2 c6I a4Z (a1N K))
abbrev a2Q:List Str:=[c6G]
theorem a9k:v6 [c6G] a2Q (g8 a2J):=by walk_at "sc"
include T Y0 a2Y in
theorem a9o(F:Fun K c6J c6J a2J f fd):G8 P w K mg base CX0 3 f fd a2Q (R8 K):=fk F a9k fun _ _ _ _ _ _ hr nd=>b9 (l5 (b8Z (p5 Y0 hr (o7 (b7 0))) (Q7 (p5 a2Y hr (o7 (b7 0))))))
variable(O4:C6 P w K mg base 3 c6J a2Q (R8 K))
abbrev a6I:List Str:=[c6G]
theorem b3u:v6 [c6G] a6I (g8 a6z):=by walk_at "sc"
include T O4 in
theorem b3U(F:Fun K "is_deed" "is_deed" a6z f fd):G8 P w K mg base CX0 4 f fd a6I (a2F K c):=fk F b3u fun _ _ _ _ _ _ hr nd=>b4 (u6 (M9 (W7 (V1 (N7 (j6 Q8 rfl T.L9 y8 (A2 (b7 0) (X1 rfl T.b4Y a9c rfl))))) (V0 (C2 (a2g hr) (j6 q9 rfl T.N4 j9 (o7 (b7 0))) b6)))) (b9 (l5 V5)) l3) (b9 (l5 (N9 (V3 b5f (j8 (b7 0) b6) (P4 T.b1w rfl) rfl) (N9 (p5 O4 hr (o7 (j8 (b7 0) b6))) (Q7 (p5 O4 hr (o7 (j8 (b7 0) b6))))))))
variable(a4i:C6 P w K mg base 4 "is_deed" a6I (a2F K c))
abbrev a8w:List Str:=[c6G]
theorem b5t:v6 [c6G,"kind","rest"] a8w (g8 a8k):=by walk_at "sc"
include T Y0 O4 a4i in
theorem b5H(F:Fun K "is_row" "is_row" a8k f fd):G8 P w K mg base CX0 5 f fd a8w (a4a K c):=fk F b5t fun _ _ _ _ _ _ hr nd=>b4 (u6 (M9 (W7 (V1 (N7 (j6 Q8 rfl T.L9 y8 (A2 (b7 0) (X1 rfl T.b4Y a9c rfl))))) (V0 (C2 (A8 hr) (j6 q9 rfl T.N4 j9 (o7 (b7 0))) b6)))) (b9 (l5 V5)) l3) (b4 (v4 1 nd (j8 (b7 0) b6)) (b4 (v4 2 nd (a2w b3d (b7 0) (a3V b6) a3W)) (b4 (u6 (C2 (A8 hr) (b7 1) t7) (b9 (l5 (N9 (a4I (A8 hr) (j6 q9 rfl T.N4 j9 (o7 (b7 2))) b6) (N9 (p5 Y0 hr (o7 (j8 (b7 2) b6))) (Q7 (p5 a4i hr (o7 (j8 (b7 2) b6)))))))) l3) (b4 (u6 (C2 (A8 hr) (b7 1) t7) (b9 (l5 (N9 (a4I (A8 hr) (j6 q9 rfl T.N4 j9 (o7 (b7 2))) b6) (N9 (p5 Y0 hr (o7 (j8 (b7 2) b6))) (Q7 (p5 O4 hr (o7 (j8 (b7 2) b6)))))))) l3) (b4 (u6 (C2 (A8 hr) (b7 1) t7) (b9 (l5 (N9 (a4I (A8 hr) (j6 q9 rfl T.N4 j9 (o7 (b7 2))) b6) (Q7 (p5 Y0 hr (o7 (j8 (b7 2) b6))))))) l3) (b4 (u6 (W8 a0N (b7 1) (E7 (A2 t7 t7)) rfl) (b9 (l5 (N9 (a4I (A8 hr) (j6 q9 rfl T.N4 j9 (o7 (b7 2))) b6) (Q7 (p5 O4 hr (o7 (j8 (b7 2) b6))))))) l3) (b9 (l5 (N9 (a4I (A8 hr) (b7 1) t7) (Q7 (a4I (A8 hr) (j6 q9 rfl T.N4 j9 (o7 (b7 2))) b6)))))))))))
variable(a5Y:C6 P w K mg base 5 "is_row" a8w (a4a K c))
abbrev a2S:List Str:=["rights"]
theorem a9m:v6 ["rights","k","right"] a2S (g8 a2M):=by walk_at "sc"
include T in
theorem a9q(F:Fun K c6K c6K a2M f fd):G8 P w K mg base CX0 1 f fd a2S (Y5 K):=fk F a9m fun _ _ _ _ _ _ hr nd=>b9 (K0 PassesOwn.never rfl (a1m rfl T.a0c (o7 (b7 0))) (a1u rfl (J0 (F9 1 nd) (J0 (F9 2 nd) a0u))) (b9 (u6 (V1 (N7 (b7 2))) (b9 a1t) l3)))
variable(U5:C6 P w K mg base 1 c6K a2S (Y5 K))
abbrev a5a:List Str:=[c6G,"many"]
theorem b2d:v6 [c6G,"many"] a5a (g8 a4Q):=by walk_at "sc"
include T Z4 in
theorem b2o(F:Fun K c6L c6L a4Q f fd):G8 P w K mg base CX0 2 f fd a5a (a1O K):=fk F b2d fun _ _ _ _ _ _ hr nd=>b9 (l5 (N9 (p5 Z4 hr (o7 (b7 0))) (Q7 (a7Q a5o a0h b6 (b7 0) (b7 1)))))
variable(a2Z:C6 P w K mg base 2 c6L a5a (a1O K))
abbrev a3H:List Str:=["row",c6M,"many"]
theorem b0u:v6 ["row",c6M,"many","wanted"] a3H (g8 a1Q):=by walk_at "sc"
theorem a8Q:K8 ["row",c6M,"many","wanted"] (g8 a1Q) (scF [ (".0",.local),(c6N,.local),(c6L,.globalImplicit),("many",.free)]) c6N := by walk_at "c0"
include T a2Z in
theorem b0H(F:Fun K c6O c6O a1Q f fd):G8 P w K mg base CX0 3 f fd a3H (a1k K):=fk F b0u fun _ _ _ _ _ _ hr nd=>b4 (u6 (V1 (N7 (j6 Q8 rfl T.L9 y8 (A2 (b7 1) (X1 rfl T.a2c C7 rfl))))) (b9 (l5 V5)) l3) (b4 (v4 3 nd (a4G (C2 (A8 hr) (j8 (b7 0) b6) t7) (E7 (o7 b6)) (E7 (A2 b6 b6)))) (b9 (l5 (N9 (V3 a0N (j6 q9 rfl T.N4 j9 (o7 (b7 1))) (b7 3) rfl) (Q7 (j6 (a7e rfl) rfl T.c1M a9z (o7 (L1 a8Q rfl (D7 (b7 1)) (fun _ _ _ _ _=>D1) (fun _ _ _ _ _=>p5 a2Z hr (A2 (b7 0) (b7 3)))))))))))
variable(a1V:C6 P w K mg base 3 c6O a3H (a1k K))
abbrev a1Z:List Str:=[c6P,c6Q]
theorem a8g:v6 [c6P,c6Q] a1Z (g8 a0E):=by walk_at "sc"
theorem a6U:a1W [c6P,c6Q] (g8 a0E) (scF [ (".0",.local),("row",.local),(c6M,.local),(c6O,.globalImplicit),("len",.globalImplicit),(c6P,.free)]) "row" c6M := by walk_at "c2"
include T U5 a1V in
theorem a8y(F:Fun K c6R c6R a0E f fd):G8 P w K mg base CX0 4 f fd a1Z (a0j K):=fk F a8g fun _ _ _ _ _ _ hr nd=>b4 (u6 (M9 (W7 (V1 (N7 (j6 Q8 rfl T.L9 y8 (A2 (b7 1) (X1 rfl T.a2c C7 rfl))))) (V0 (C2 (a2g hr) (j6 q9 rfl T.N4 j9 (o7 (b7 1))) (j6 q9 rfl T.N4 j9 (o7 (b7 0))))))) (b9 a1t) l3) (b9 (O8 (p5 U5 hr (o7 (a4H a6U rfl (b6I rfl T.c5x (A2 (b7 0) (b7 1))) (fun _ _ _ _ _=>D1) (fun _ _ _ _ _=>p5 a1V hr (a0M (b7 0) (b7 1) (j6 q9 rfl T.N4 j9 (o7 (b7 2))))))))))
variable(a0G:C6 P w K mg base 4 c6R a1Z (a0j K))
abbrev a6E:List Str:=["begins","leads"]
theorem b3q:v6 ["begins","leads","seen","waiting",c6N] a6E (g8 a6w):=by walk_at "sc"
include T in
theorem b3Q(F:Fun K "reached" "reached" a6w f fd):G8 P w K mg base CX0 1 f fd a6E (a1w K):=fk F b3q fun _ _ _ _ _ _ hr nd=>b4 (v4 2 nd a0v) (b4 (v4 3 nd (W4 a0i rfl T.a2c C7 (o7 (b7 0)))) (b4 (a4F PassesOwn.never (C2 a2i (j6 q9 rfl T.N4 j9 (o7 (b7 3))) b6) (b4 (v4 4 nd (b6P E5 PySem.F.slot_list_pop PySem.F.type_list_pop b5i (b7 3))) (b9 (u6 (a0K hr (b7 4) (b7 2) rfl) (b4 (X0 hr (b7 2) (b7 4) V5) (b9 (O8 (a2y E5 b1t b1s a5p (b7 3) (o7 (j8 (b7 1) (b7 4))))))) l3)))) (b9 (l5 (b7 2)))))
variable(a2r:C6 P w K mg base 1 "reached" a6E (a1w K))
abbrev a8t:List Str:=[c6Q]
theorem b5q:v6 [c6Q,"sources",c6N,c6M,"target"] a8t (g8 a5D):=by walk_at "sc"
theorem b2L:K8 [c6Q,"sources",c6N,c6M,"target"] (g8 a5D) (scF [(".0",.local),(c6M,.local)]) c6M := by walk_at "c0"
include T in
theorem b5E(F:Fun K "turned" "turned" a5D f fd):G8 P w K mg base CX0 1 f fd a8t (a3X K):=fk F b5q fun _ _ _ _ _ _ hr nd=>b4 (W9 (n:=1) nd rfl rfl b2L rfl (D7 (b7 0)) (fun _ _ _ _ _=>D1) (fun _ _ _ _ _=>J2 Y4)) (b4 (K0 PassesOwn.never rfl (a1m rfl T.a0c (o7 (b7 0))) (a1u rfl (J0 (F9 2 nd) (J0 (F9 3 nd) a0u))) (b9 (K0 PassesOwn.never rfl (D7 (b7 3)) (F9 4 nd) (b9 (O8 (a2y E5 Z6 Z5 a1e (j8 (b7 1) (b7 4)) (o7 (b7 2)))))))) (b9 (l5 (b7 1))))
variable(a5V:C6 P w K mg base 1 "turned" a8t (a3X K))
abbrev a4U:List Str:=[c6Q]
theorem b1X:v6 [c6Q] a4U (g8 a2G):=by walk_at "sc"
theorem a9t:a1W [c6Q] (g8 a2G) (scF [ (".0",.local),(c6N,.local),(c6M,.local),("len",.globalImplicit)]) c6N c6M := by walk_at "c2"
include T in
theorem b2i(F:Fun K c6S c6S a2G f fd):G8 P w K mg base CX0 1 f fd a4U (a1J K):=fk F b1X fun _ _ _ _ _ _ hr nd=>b9 (l5 (a4H a9t rfl (a1m rfl T.a0c (o7 (b7 0))) (fun _ _ _ _ _=>b5a (C2 (A8 hr) (j6 q9 rfl T.N4 j9 (o7 (b7 1))) b6)) (fun _ _ _ _ _=>b7 0)))
variable(a2U:C6 P w K mg base 1 c6S a4U (a1J K))
abbrev a2R:List Str:=[c6Q]
theorem a9l:v6 [c6Q,"begun","ending",c6N] a2R (g8 a2L):=by walk_at "sc"
include T a2r a5V a2U in
theorem a9p(F:Fun K c6T c6T a2L f fd):G8 P w K mg base CX0 2 f fd a2R (a0D K):=fk F a9l fun _ _ _ _ _ _ hr nd=>b4 (v4 1 nd (p5 a2r hr (A2 (J2 (o7 b6)) (b7 0)))) (b4 (v4 2 nd (p5 a2r hr (A2 (p5 a2U hr (o7 (b7 0))) (p5 a5V hr (o7 (b7 0)))))) (b9 (K0 PassesOwn.never rfl (F6 rfl T.W0 (o7 (j6 q9 rfl T.N4 j9 (o7 (b7 0))))) (F9 3 nd) (b9 (u6 (M9 (W7 (a0K hr (b7 3) (b7 1) rfl) (V0 (a0K hr (b7 3) (b7 2) rfl)))) (b9 a1t) l3)))))
variable(a1l:C6 P w K mg base 2 c6T a2R (a0D K))
abbrev a4V:List Str:=[c6Q]
theorem b1Y:v6 [c6Q,"steps",c6N,c6M] a4V (g8 a2H):=by walk_at "sc"
theorem a9u:K8 [c6Q,"steps",c6N,c6M] (g8 a2H) (scF [ (".0",.local),("at",.local),(c6N,.free)]) "at" := by walk_at "c0"
include T in
theorem b2j(F:Fun K c6U c6U a2H f fd):G8 P w K mg base CX0 1 f fd a4V (a1K K c):=fk F b1Y fun _ _ _ _ _ _ hr nd=>b4 (v4 1 nd (J2 (o7 (P4 T.a3e rfl)))) (b4 (K0 PassesOwn.never rfl (a1m rfl T.a0c (o7 (b7 0))) (a1u rfl (J0 (F9 2 nd) (J0 (F9 3 nd) a0u))) (b9 (O8 (a2y E5 b1t b1s a5p (b7 1) (o7 (L1 a9u rfl (F6 rfl T.W0 (o7 (j6 q9 rfl T.N4 j9 (o7 (b7 3))))) (fun _ _ _ _ _=>D1) (fun _ _ _ _ _=>E7 (A2 (b7 3) (b7 0))))))))) (b9 (l5 (b7 1))))
variable(a2V:C6 P w K mg base 1 c6U a4V (a1K K c))
abbrev a0X:List Str:=["self","step"]
theorem a6v:v6 ["self","step"] a0X (g8 a0U):=by walk_at "sc"
include T in
theorem a6L(F:Fun K "leads_to" "Plan.leads_to" a0U f fd):G8 P w K mg base CX0 1 f fd a0X (X5 K c):=fk F a6v fun _ _ _ _ _ _ hr nd=>b4 (u6 (W8 (b5h hr) (b7 1) (P4 T.a3e rfl) (a2a _)) (b9 (l5 b6)) l3) (b9 (l5 (j8 (j8 (N8 (b7 0)) (j8 (b7 1) b6)) (j8 (b7 1) b6))))
variable(Z2:a7J P w K mg base 1 "leads_to" c.G7 a0X (X5 K c))
abbrev a3I:List Str:=["self",c6P,c6Q]
theorem b0v:v6 ["self",c6P,c6Q,"step"] a3I (g8 a0b):=by walk_at "sc"
theorem a8T:K8 ["self",c6P,c6Q,"step"] (g8 a0b) (scF [ (".0",.local),("row",.local),("is_row",.globalImplicit)]) "row" := by walk_at "c0"
theorem a8S:K8 ["self",c6P,c6Q,"step"] (g8 a0b) (scF [ (".0",.local),(c6M,.local),("list",.globalImplicit)]) c6M := by walk_at "c0"
theorem a8R:K8 ["self",c6P,c6Q,"step"] (g8 a0b) (scF [(".0",.local),("row",.local)]) "row" := by walk_at "c0"
include T a0n a5Y U5 a0G a1l a2V Z2 in
theorem b0I(F:Fun K c6g "Plan.__init__" a0b f fd):G8 P w K mg base CX0 6 f fd a3I (a0k K c):=fk F b0v fun _ _ _ _ _ _ hr nd=>b4 (O8 (p5 a0n hr (a0M (b7 1) b6 b6))) (b4 (O8 (p5 U5 hr (o7 (L1 a8T rfl (D7 (b7 1)) (fun _ _ _ _ _=>D1) (fun _ _ _ _ _=>p5 a5Y hr (o7 (b7 0))))))) (b4 (O8 (p5 a0G hr (A2 (b7 1) (b7 2)))) (b4 (O8 (p5 a1l hr (o7 (b7 2)))) (b4 (a7O (b7 0) (W4 a0i rfl T.a2c C7 (o7 (b7 1)))) (b4 (a7O (b7 0) (L1 a8S rfl (D7 (b7 2)) (fun _ _ _ _ _=>D1) (fun _ _ _ _ _=>W4 a0i rfl T.a2c C7 (o7 (b7 0))))) (b4 (a7O (b7 0) (L1 a8R rfl (D7 (b7 1)) (fun _ _ _ _ _=>D1) (fun _ _ _ _ _=>J2 Y4))) (b9 (K0 PassesOwn.never rfl (D7 (p5 a2V hr (o7 (N8 (b7 0))))) (F9 3 nd) (b9 (O8 (a2y E5 Z6 Z5 a1e (j8 (N8 (b7 0)) (b6M Z2 hr (by decide) (b7 0) (o7 (b7 3)))) (o7 (b7 3)))))))))))))
variable(a5c:b2U P w K mg base 6 "Plan" c.G7 a3I (a0k K c))
abbrev b3M:List Str:=[c6D,c6p]
theorem b9s:v6 [c6D,c6p] b3M (g8 b0z):=by walk_at "sc"
theorem b6d:K8 [c6D,c6p] (g8 b0z) (scF [ (".0",.local),(c6m,.local),("list",.globalImplicit)]) c6m := by walk_at "c0"
include T a5c in
theorem c0x(F:Fun K c6V c6V b0z f fd):G8 P w K mg base CX0 8 f fd b3M (a5y K c):=fk F b9s fun _ _ _ _ _ _ hr nd=>b9 (l5 (b6N a5c hr (A2 (W4 a0i rfl T.a2c C7 (o7 (b7 0))) (L1 b6d rfl (D7 (b7 1)) (fun _ _ _ _ _=>D1) (fun _ _ _ _ _=>W4 a0i rfl T.a2c C7 (o7 (b7 0)))))))
variable(a8W:C6 P w K mg base 8 c6V b3M (a5y K c))
abbrev a3G:List Str:=[c6W]
theorem b0t:v6 [c6W,"found","row"] a3G (g8 a3A):=by walk_at "sc"
include T in
theorem b0G(F:Fun K c6X c6X a3A f fd):G8 P w K mg base CX0 1 f fd a3G (a1j K):=fk F b0t fun _ _ _ _ _ _ hr nd=>b4 (v4 1 nd b3f) (b4 (K0 PassesOwn.never rfl (D7 (N8 (b7 0))) (F9 2 nd) (b9 (u6 (M9 (a0J (C2 (A8 hr) (j8 (b7 2) b6) t7) (Z8 (C2 (a2g hr) (j8 (b7 2) b6) (j8 (b7 2) b6))))) (b9 (X0 hr (b7 1) (b7 2) V5)) l3))) (b9 (l5 (W4 (a9h rfl) rfl T.a2c C7 (o7 (b7 1))))))
variable(a1U:C6 P w K mg base 1 c6X a3G (a1j K))
abbrev a8u:List Str:=["row"]
theorem b5r:v6 ["row"] a8u (g8 a8i):=by walk_at "sc"
include T in
theorem b5F(F:Fun K "set_by" "set_by" a8i f fd):G8 P w K mg base CX0 1 f fd a8u (a3Y K):=fk F b5r fun _ _ _ _ _ _ hr nd=>b9 (l5 (a4G (W8 a0N (j8 (b7 0) b6) (E7 (a0M t7 t7 t7)) rfl) (j8 (b7 0) b6) a3v))
variable(a5W:C6 P w K mg base 1 "set_by" a8u (a3Y K))
abbrev a6F:List Str:=[c6W,c6N,"come_by","order"]
theorem b3r:v6 [c6W,c6N,"come_by","order","at","target"] a6F (g8 a6x):=by walk_at "sc"
include T in
theorem b3R(F:Fun K "pass_on" "pass_on" a6x f fd):G8 P w K mg base CX0 1 f fd a6F (a1x K):=fk F b3r fun _ _ _ _ _ _ hr nd=>b9 (K0 PassesOwn.never rfl (a1m rfl T.a0c (o7 (j8 (N8 (b7 0)) (b7 1)))) (a1u rfl (J0 (F9 4 nd) (J0 (F9 5 nd) a0u))) (b9 (u6 (a0K hr (b7 5) (b7 2) rfl) (b4 (X0 hr (b7 2) (b7 5) (E7 (A2 (b7 1) (b7 4)))) (b9 (O8 (a2y E5 Z6 Z5 a1e (b7 3) (o7 (b7 5)))))) l3)))
variable(a2s:C6 P w K mg base 1 "pass_on" a6F (a1x K))
abbrev a0V:List Str:=[c6W,"made","broken"]
theorem a6t:v6 [c6W,"made","broken","come_by","order",c6N,"done"] a0V (g8 a0S):=by walk_at "sc"
include T a2s in
theorem a6J(F:Fun K c6Y c6Y a0S f fd):G8 P w K mg base CX0 2 f fd a0V (X3 K c):=fk F a6t fun _ _ _ _ _ _ hr nd=>b4 (v4 3 nd (a9E (a7P b6 (P4 T.a3e rfl) a9D))) (b4 (v4 4 nd (J2 (o7 b6))) (b4 (K0 PassesOwn.never rfl (F6 rfl T.W0 (o7 (j6 q9 rfl T.N4 j9 (o7 (N8 (b7 0)))))) (F9 5 nd) (b9 (u6 (N7 (j8 (b7 2) (b7 5))) (b9 (O8 (p5 a2s hr (b1D (b7 0) (b7 5) (b7 3) (b7 4))))) l3))) (b4 (v4 6 nd b6) (b4 (a4F PassesOwn.never (C2 a0h (b7 6) (j6 q9 rfl T.N4 j9 (o7 (b7 4)))) (b4 (v4 5 nd (j8 (b7 4) (b7 6))) (b4 (b6H (n:=6) nd rfl (Or.inl rfl) b6 b1F) (b9 (u6 (V1 (N7 (j8 (b7 1) (b7 5)))) (b9 (O8 (p5 a2s hr (b1D (b7 0) (b7 5) (b7 3) (b7 4))))) l3))))) (b9 (l5 (b7 3)))))))
variable(Z0:C6 P w K mg base 2 c6Y a0V (X3 K c))
abbrev a0y:List Str:=[c6W,c6Z]
theorem a5B:v6 [c6W,c6Z,"made","broken"] a0y (g8 T8):=by walk_at "sc"
theorem a4m:K8 [c6W,c6Z,"made","broken"] (g8 T8) (scF [ (".0",.local),("row",.local),(c6Z,.free)]) "row" := by walk_at "c0"
theorem a4l:K8 [c6W,c6Z,"made","broken"] (g8 T8) (scF [ (".0",.local),("row",.local),("set_by",.globalImplicit),(c6Z,.free)]) "row" := by walk_at "c0"
include T a5W Z0 in
theorem a5N(F:Fun K c7a c7a T8 f fd):G8 P w K mg base CX0 3 f fd a0y (V6 K c):=fk F a5B fun _ _ _ _ _ _ hr nd=>b4 (W9 (n:=2) nd rfl rfl a4m rfl (D7 (N8 (b7 0))) (fun _ _ _ _ _=>D1) (fun _ _ _ _ _=>V3 (b5g hr) (b7 0) (b7 2) (a2a _))) (b4 (W9 (n:=3) nd rfl rfl a4l rfl (D7 (N8 (b7 0))) (fun _ _ _ _ _=>D1) (fun _ _ _ _ _=>N9 (V3 (b5d hr) (b7 0) (b7 2) (a2a _)) (Q7 (V3 a0N (p5 a5W hr (o7 (b7 0))) (a2w b3d (b7 2) (a3V b6) a3W) rfl)))) (b9 (l5 (p5 Z0 hr (a0M (b7 0) (b7 2) (b7 3))))))
variable(X8:C6 P w K mg base 3 c7a a0y (V6 K c))
abbrev a0z:List Str:=[c6W]
theorem a5C:v6 [c6W,"found",c6Z,"without",c6N] a0z (g8 X6):=by walk_at "sc"
theorem a4n:K8 [c6W,"found",c6Z,"without",c6N] (g8 X6) (scF [(".0",.local),("row",.local)]) "row" := by walk_at "c0"
include T a1U X8 in
theorem a5O(F:Fun K c7b c7b X6 f fd):G8 P w K mg base CX0 4 f fd a0z (V7 K c):=fk F a5C fun _ _ _ _ _ _ hr nd=>b4 (W9 (n:=1) nd rfl rfl a4n rfl (D7 (N8 (b7 0))) (fun _ _ _ _ _=>D1) (fun _ _ _ _ _=>a0v)) (b4 (K0 PassesOwn.never rfl (D7 (p5 a1U hr (o7 (b7 0)))) (F9 2 nd) (b4 (v4 3 nd (p5 X8 hr (A2 (b7 0) (b7 2)))) (b9 (K0 PassesOwn.never rfl (F6 rfl T.W0 (o7 (j6 q9 rfl T.N4 j9 (o7 (N8 (b7 0)))))) (F9 4 nd) (b9 (u6 (a0K hr (b7 4) (b7 3) rfl) (b9 (X0 hr (j8 (b7 1) (b7 4)) (j8 (b7 2) b6) (j8 (b7 2) b6))) l3)))))) (b9 (l5 (b7 1))))
variable(X9:C6 P w K mg base 4 c7b a0z (V7 K c))
abbrev a0W:List Str:=["row","known"]
theorem a6u:v6 ["row","known","deed"] a0W (g8 a0T):=by walk_at "sc"
include T in
theorem a6K(F:Fun K c7c c7c a0T f fd):G8 P w K mg base CX0 1 f fd a0W (X4 K):=fk F a6u fun _ _ _ _ _ _ hr nd=>b4 (u6 (C2 (A8 hr) (j8 (b7 0) b6) t7) (b4 (v4 2 nd (j8 (b7 0) b6)) (b9 (l5 (E7 (a0M t7 (j8 (b7 0) b6) (E7 (a0M (j8 (b7 2) b6) (a2x hr (b7 1) (j8 (b7 2) b6) (j8 (b7 2) b6)) (a2x hr (b7 1) (j8 (b7 2) b6) (j8 (b7 2) b6))))))))) l3) (b4 (u6 (C2 (A8 hr) (j8 (b7 0) b6) t7) (b9 (l5 (E7 (a0M t7 (j8 (b7 0) b6) (a2x hr (b7 1) (j8 (b7 0) b6) (j8 (b7 0) b6)))))) l3) (b4 (u6 (W8 a0N (j8 (b7 0) b6) (E7 (A2 t7 t7)) rfl) (b9 (l5 (E7 (A2 (j8 (b7 0) b6) (a2x hr (b7 1) (j8 (b7 0) b6) (j8 (b7 0) b6)))))) l3) (b9 (l5 (b7 0)))))
variable(Z1:C6 P w K mg base 1 c7c a0W (X4 K))
abbrev a3F:List Str:=[c6W]
theorem b0s:v6 [c6W,"known"] a3F (g8 a1P):=by walk_at "sc"
theorem a8P:a1W [c6W,"known"] (g8 a1P) (scF [ (".0",.local),(c6N,.local),("row",.local),(c7c,.globalImplicit),("known",.free)]) c6N "row" := by walk_at "c2"
include T a5c X9 Z1 in
theorem b0F(F:Fun K c7d c7d a1P f fd):G8 P w K mg base CX0 8 f fd a3F (a1i K c):=fk F b0s fun _ _ _ _ _ _ hr nd=>b4 (v4 1 nd (p5 X9 hr (o7 (b7 0)))) (b9 (l5 (b6N a5c hr (A2 (a4H a8P rfl (a1m rfl T.a0c (o7 (N8 (b7 0)))) (fun _ _ _ _ _=>D1) (fun _ _ _ _ _=>p5 Z1 hr (A2 (b7 1) (j8 (b7 3) (b7 0))))) (N8 (b7 0))))))
variable(a1T:C6 P w K mg base 8 c7d a3F (a1i K c))
abbrev a8x:List Str:=[c7e,"_law_known"]
theorem b5u:v6 [c7e,"_law_known","_law_name","_law_after",c6u] a8x (g8 a8l):=by walk_at "sc"
include T in
theorem b5I(F:Fun K c7f c7f a8l f fd):G8 P w K mg base CX0 1 f fd a8x (a4b K):=fk F b5u fun _ _ _ _ _ _ hr nd=>b4 (v4 2 nd a3v) (b4 (u6 (W8 a0N (j8 (b7 0) b6) (J2 (a0M t7 t7 t7)) rfl) (b9 (v4 2 nd (j8 (b7 0) b6))) l3) (b4 (v4 3 nd a0v) (b4 (a9C PassesOwn.never rfl (b7 1) (F9 4 nd) (b9 (u6 (M9 (a0J (C2 (a2g hr) (b7 4) (b7 2)) (Z8 (C2 (a2g hr) (a1n hr (b7 1) (b7 4) (fun _ _=>rfl)) (b7 2))))) (b9 (X0 hr (b7 3) (b7 4) (a1n hr (b7 1) (b7 4) (fun _ _=>rfl)))) l3))) (b4 (u6 (M9 (a0J (C2 (A8 hr) (j8 (b7 0) b6) t7) (Z8 (C2 (a2g hr) (j8 (b7 0) b6) (b7 2))))) (b9 (X0 hr (b7 3) (b7 2) (j8 (b7 0) b6))) l3) (b9 (l5 (b7 3)))))))
variable(a5Z:C6 P w K mg base 1 c7f a8x (a4b K))
abbrev b3O:List Str:=[c6u,c7g]
theorem b9u:v6 [c6u,c7g,"_law_alike","_law_name"] b3O (g8 b3A):=by walk_at "sc"
include T in
theorem c0z(F:Fun K c7h c7h b3A f fd):G8 P w K mg base CX0 1 f fd b3O (a5z K):=fk F b9u fun _ _ _ _ _ _ hr nd=>b4 (v4 2 nd a0v) (b4 (a9C PassesOwn.never rfl (b7 0) (F9 3 nd) (b9 (u6 (M9 (a0J (a5n hr (b7 3) (b7 1) rfl) (Z8 (C2 (A8 hr) (a1n hr (b7 0) (b7 3) (fun _ _=>rfl)) (a1n hr (b7 1) (b7 3) (fun _ _=>rfl)))))) (b9 (X0 hr (b7 2) (b7 3) (a1n hr (b7 0) (b7 3) (fun _ _=>rfl)))) l3))) (b9 (l5 (b7 2))))
variable(b1e:C6 P w K mg base 1 c7h b3O (a5z K))
abbrev a4W:List Str:=[c6D,c6p]
theorem b1Z:v6 [c6D,c6p,c7i,"_law_changed",c6n,"_law_after",c6u,"_law_merged"] a4W (g8 a2I):=by walk_at "sc"
theorem a9v:K8 [c6D,c6p,c7i,"_law_changed",c6n,"_law_after",c6u,"_law_merged"] (g8 a2I) (scF [(".0",.local),(c7e,.local)]) c7e := by walk_at "c0"
include T a5Z b1e in
theorem b2k(F:Fun K c7j c7j a2I f fd):G8 P w K mg base CX0 2 f fd a4W (a1L K):=fk F b1Z fun _ _ _ _ _ _ hr nd=>b4 (W9 (n:=2) nd rfl rfl a9v rfl (D7 (b7 0)) (fun _ _ _ _ _=>D1) (fun _ _ _ _ _=>a3v)) (b4 (a0L a0v (a3u (b7 2) b6 a3U)) (b4 (v4 3 nd V5) (b4 (a4F PassesOwn.never (N7 (b7 3)) (b4 (v4 3 nd V5) (b9 (K0 PassesOwn.never rfl (F6 rfl T.W0 (o7 (j6 q9 rfl T.N4 j9 (o7 (b7 0))))) (F9 4 nd) (b9 (u6 (C2 a7d (j8 (b7 2) (b7 4)) a3v) (b4 (v4 5 nd (p5 a5Z hr (A2 (j8 (b7 0) (b7 4)) (j8 (b7 2) (b7 4))))) (b9 (K0 PassesOwn.never rfl (D7 (j8 (b7 1) (b7 4))) (F9 6 nd) (b4 (v4 7 nd (b7 5)) (b4 (u6 (C2 a7d (j8 (b7 2) (b7 6)) a3v) (b9 (v4 7 nd (p5 b1e hr (A2 (j8 (b7 2) (b7 6)) (b7 5))))) l3) (b9 (u6 (W8 (b5e hr) (b7 7) (j8 (b7 2) (b7 6)) (a2a _)) (b4 (a0L (b7 7) (a3u (b7 2) (b7 6) a3U)) (b9 (v4 3 nd V5))) l3))))))) l3)))))) (b9 (l5 (b7 2))))))
variable(a2W:C6 P w K mg base 2 c7j a4W (a1L K))
abbrev b3J:List Str:=[c7k,"_law_operand_here"]
theorem b9p:v6 [c7k,"_law_operand_here"] b3J (g8 b3y):=by walk_at "sc"
include T in
theorem c0u(F:Fun K c7l c7l b3y f fd):G8 P w K mg base CX0 1 f fd b3J (a2E K):=fk F b9p fun _ _ _ _ _ _ hr nd=>b4 (u6 (M9 (a0J (N7 (j6 Q8 rfl T.L9 y8 (A2 (b7 1) (X1 rfl T.c1L a9y rfl)))) (Z8 (a5n hr (b7 1) (b7 0) rfl)))) (b9 (l5 (a1n hr (b7 0) (b7 1) (fun _ _=>rfl)))) l3) (b9 (l5 (b7 1)))
variable(a5g:C6 P w K mg base 1 c7l b3J (a2E K))
abbrev a4X:List Str:=[c7e,c7k]
theorem b2a:v6 [c7e,c7k,"_law_kind",c6u,c7g] a4X (g8 a4N):=by walk_at "sc"
include T a5g in
theorem b2l(F:Fun K c7m c7m a4N f fd):G8 P w K mg base CX0 2 f fd a4X (a1M K):=fk F b2a fun _ _ _ _ _ _ hr nd=>b4 (u6 (C2 (A8 hr) (j8 (b7 0) b6) t7) (b4 (a0L (j8 (b7 0) b6) (a1u rfl (J0 (F9 2 nd) (J0 (F9 3 nd) (J0 (F9 4 nd) a0u))))) (b9 (l5 (E7 (a0M t7 (j8 (b7 0) b6) (E7 (a0M (b7 2) (p5 a5g hr (A2 (b7 1) (b7 3))) (p5 a5g hr (A2 (b7 1) (b7 4)))))))))) l3) (b4 (u6 (C2 (A8 hr) (j8 (b7 0) b6) t7) (b9 (l5 (E7 (a0M t7 (j8 (b7 0) b6) (p5 a5g hr (A2 (b7 1) (j8 (b7 0) b6))))))) l3) (b4 (u6 (M9 (W7 (C2 (A8 hr) (j8 (b7 0) b6) t7) (V0 (C2 (A8 hr) (j8 (b7 0) b6) t7)))) (b9 (l5 (E7 (A2 (j8 (b7 0) b6) (p5 a5g hr (A2 (b7 1) (j8 (b7 0) b6))))))) l3) (b9 (l5 (b7 0)))))
variable(a2X:C6 P w K mg base 2 c7m a4X (a1M K))
abbrev b8a:List Str:=[c6D,c6p]
theorem c1W:v6 [c6D,c6p,c7i] b8a (g8 b4A):=by walk_at "sc"
theorem b8E:K8 [c6D,c6p,c7i] (g8 b4A) (scF [ (".0",.local),(c6n,.local),(c7m,.globalImplicit),(c6D,.free),(c7i,.free)]) c6n := by walk_at "c0"
include T a2W a2X in
theorem c3m(F:Fun K c7n c7n b4A f fd):G8 P w K mg base CX0 3 f fd b8a (b0o K):=fk F c1W fun _ _ _ _ _ _ hr nd=>b4 (v4 2 nd (p5 a2W hr (A2 (b7 0) (b7 1)))) (b9 (l5 (L1 b8E rfl (F6 rfl T.W0 (o7 (j6 q9 rfl T.N4 j9 (o7 (b7 0))))) (fun _ _ _ _ _=>D1) (fun _ _ _ _ _=>p5 a2X hr (A2 (j8 (b7 1) (b7 0)) (j8 (b7 3) (b7 0)))))))
variable(b4S:C6 P w K mg base 3 c7n b8a (b0o K))
abbrev b0E:List Str:=[c7o,c6D,c6p]
theorem b7l:v6 [c7o,c6D,c6p,"_law_found"] b0E (g8 b0x):=by walk_at "sc"
include T a1T b4S in
theorem b8d(F:Fun K c7p c7p b0x f fd):G8 P w K mg base CX0 9 f fd b0E (a2n K c):=fk F b7l fun _ _ _ _ _ _ hr nd=>b4 (v4 3 nd (p5 a1T hr (o7 (b7 0)))) (b4 (u6 (M9 (W7 (V1 (N7 (j6 b0h rfl T.L9 y8 (A2 (b7 3) (P4 T.c4g rfl))))) (W7 (W8 (a9F hr) (N8 (b7 0)) (b7 1) (a2a _)) (V0 (W8 (a9F hr) (N8 (b7 0)) (b7 2) (a2a _)))))) (b9 (l5 V5)) l3) (b9 (l5 (N9 (V3 (a9G hr) (N8 (b7 3)) (p5 b4S hr (A2 (b7 1) (b7 2))) (a2a _)) (Q7 (V3 (a9G hr) (N8 (b7 3)) (b7 2) (a2a _)))))))
variable(a4h:C6 P w K mg base 9 c7p b0E (a2n K c))
abbrev c1D:List Str:=[c6h]
theorem b7m:v6 [c6h,c6j,c6D,c6p,"_law_others","_law_ways",c7o,c7g] c1D (g8 b4z):=by walk_at "sc"
include T b4T a8V a8W a4h in
theorem c3l(ck:a3Q K c)(F:Fun K "law" "law" b4z f fd):G8 P w K mg base CX0 10 f fd c1D (a8e K):=by
 refine b1G F b7m (fun vs H Q E h=>h.1) (fun cdv A outer s H vs Q E hr h=>⟨b7g K c,?_,h.2 c ck⟩)
 have nd:=b7m.nd
 exact b4 (v4 1 nd (p5 b4T hr (o7 (b7 0)))) (b4 (a0L (p5 a8V hr (o7 (b7 1))) (a1u rfl (J0 (F9 2 nd) (J0 (F9 3 nd) a0u)))) (b4 (a0L (p5 a8V hr (o7 (b7 1))) (a1u rfl (J0 (F9 4 nd) (J0 (F9 5 nd) a0u)))) (b4 (v4 6 nd (p5 a8W hr (A2 (b7 2) (b7 3)))) (b4 (v4 7 nd (p5 a8W hr (A2 (b7 4) (b7 5)))) (b4 (u6 (M9 (W7 (V1 (N7 (p5 a4h hr (a0M (b7 6) (b7 2) (b7 3))))) (V0 (V1 (N7 (p5 a4h hr (a0M (b7 7) (b7 4) (b7 5)))))))) (b9 (l5 V5)) l3) (b9 (l5 (p5 a4h hr (a0M (b7 6) (b7 2) (b7 3))))))))))
end
end
structure ClF(K:Fg)(y:Str)(C:Addr):Prop where
 y:w6 K t5 y=some (some (.ref C))
 pg:a0R K C Str.empty=true
 hd:a2e K C=true
 po:a7a K C=true
 sa:C0 K (.ref C) "__setattr__" = some (some (.builtin "object.__setattr__"))
 mm:a3p K C=true
 kc:P8 K (.ref C)=true
abbrev pm0:Value:=(.str "law_oncedone_k84_forwarded" 607)
abbrev pm1:Value:=(.str "oncedone.checks" 382)
abbrev pm2:Value:=(.str "oncedone.words" 194)
abbrev pm3:Value:=(.str "oncedone.plans" 412)
abbrev pm4:Value:=(.str "oncedone.copies" 569)
abbrev pm5:Value:=(.str "oncedone.deeds" 253)
abbrev pm6:Value:=(.str "oncedone.ready" 542)
theorem c3Q{l:PySem.W.OpenLaw}{w:World}{K:Fg}{h:Heap}{mg:Str->Option Value}{fa:Addr}(X:K.In h)(G:h.Ns t5 mg)(hfa:mg "law" = some (.ref fa))
  (y_Plan:ClF K "Plan" 276)
  (Z3:C0 K (.ref 276) "entries" = some none)
  (L8:C0 K (.ref 276) c6Q = some none)
  (G9:C0 K (.ref 276) c6P = some none)
  (ha_Plan:C0 K (.ref 276) "__class__" = some (some (.builtin "object.__class__"))) (hn_Plan:a2d K (.builtin "object.__class__") "__get__" = some (some (.builtin "getset_descriptor.__get__"))) (tk_Plan:a9a K (.builtin "object.__class__")=some true) (hm_Plan:b1r K 276 (.type "object")=some true)
  (y_DEED_KINDS:w6 K t5 "DEED_KINDS" = some (some (.ref 22))) (l_DEED_KINDS:K.lookup 22=some ⟨.type "tuple",none,.seq (([(.str "plus" 204),(.str "minus" 205),(.str "times" 206),(.str "less" 207),(.str "same" 208)]:List Value).toArray) 0,#[]⟩)
  (y_FIRST_STEP:w6 K t5 "FIRST_STEP" = some (some (.ref 180))) (l_FIRST_STEP:K.lookup 180=some ⟨.type "tuple",none,.seq (([(.int (-1) 415),(.int (0) 416)]:List Value).toArray) 0,#[]⟩)
  (x0:FnG K c6i b4B 328 pm0 (.ref 327))
  (x1:FnG K c6l b3w 335 pm0 (.ref 334))
  (x2:FnG K c6o b0y 352 pm0 (.ref 351))
  (x3:FnG K c6q b7q 342 pm0 (.ref 341))
  (x4:FnG K c6w a2o 347 pm0 (.ref 346))
  (x5:FnG K c6y a6y 359 pm0 (.ref 358))
  (x6:FnG K c6A b3z 366 pm0 (.ref 365))
  (x7:FnG K c6C b7n 373 pm0 (.ref 372))
  (x8:FnG K c6E a8j 378 pm0 (.ref 377))
  (x9:FnG K c6F a1z 172 pm1 (.ref 171))
  (x10:FnG K "is_name" a4c 41 pm2 (.ref 40))
  (x11:FnG K c6H a4O 29 pm2 (.ref 28))
  (x12:FnG K c6I a4P 36 pm2 (.ref 35))
  (x13:FnG K c6J a2J 48 pm2 (.ref 47))
  (x14:FnG K "is_deed" a6z 55 pm2 (.ref 54))
  (x15:FnG K "is_row" a8k 62 pm2 (.ref 61))
  (x16:FnG K c6K a2M 179 pm1 (.ref 178))
  (x17:FnG K c6L a4Q 165 pm1 (.ref 164))
  (x18:FnG K c6O a1Q 185 pm3 (.ref 184))
  (x19:FnG K c6R a0E 190 pm3 (.ref 189))
  (x20:FnG K "reached" a6w 207 pm3 (.ref 206))
  (x21:FnG K "turned" a5D 200 pm3 (.ref 199))
  (x22:FnG K c6S a2G 195 pm3 (.ref 194))
  (x23:FnG K c6T a2L 214 pm3 (.ref 213))
  (x24:FnG K c6U a2H 219 pm3 (.ref 218))
  (x25:FnM K 276 "leads_to" "Plan.leads_to" a0U 245 pm3 (.ref 244))
  (x26:FnM K 276 c6g "Plan.__init__" a0b 231 pm3 (.ref 230))
  (x27:FnG K c6V b0z 383 pm0 (.ref 382))
  (x28:FnG K c6X a3A 301 pm4 (.ref 300))
  (x29:FnG K "set_by" a8i 69 pm5 (.ref 68))
  (x30:FnG K "pass_on" a6x 287 pm6 (.ref 286))
  (x31:FnG K c6Y a0S 294 pm6 (.ref 293))
  (x32:FnG K c7a T8 306 pm4 (.ref 305))
  (x33:FnG K c7b X6 311 pm4 (.ref 310))
  (x34:FnG K c7c a0T 318 pm4 (.ref 317))
  (x35:FnG K c7d a1P 323 pm4 (.ref 322))
  (x36:FnG K c7f a8l 390 pm0 (.ref 389))
  (x37:FnG K c7h b3A 397 pm0 (.ref 396))
  (x38:FnG K c7j a2I 402 pm0 (.ref 401))
  (x39:FnG K c7l b3y 409 pm0 (.ref 408))
  (x40:FnG K c7m a4N 416 pm0 (.ref 415))
  (x41:FnG K c7n b4A 421 pm0 (.ref 420))
  (x42:FnG K c7p b0x 428 pm0 (.ref 427))
  (x43:FnG K "law" b4z 435 pm0 (.ref 434))
  (z_abs:w6 K t5 "abs" = some none)
  (z_all:w6 K t5 "all" = some none)
  (z_any:w6 K t5 "any" = some none)
  (z_bool:w6 K t5 "bool" = some none)
  (z_enumerate:w6 K t5 "enumerate" = some none)
  (z_int:w6 K t5 "int" = some none)
  (z_isinstance:w6 K t5 "isinstance" = some none)
  (z_len:w6 K t5 "len" = some none)
  (z_list:w6 K t5 "list" = some none)
  (z_min:w6 K t5 "min" = some none)
  (z_range:w6 K t5 "range" = some none)
  (z_sorted:w6 K t5 "sorted" = some none)
  (z_str:w6 K t5 "str" = some none)
  (z_tuple:w6 K t5 "tuple" = some none)
  (z_zip:w6 K t5 "zip" = some none)
  (y_BOUND:w6 K t5 "BOUND" = some (some (.int (1000000000000) 196)))
  (y_FIGURES:w6 K t5 "FIGURES" = some (some (.str "0123456789" 200)))
  (y_LETTERS:w6 K t5 "LETTERS" = some (some (.str "abcdefghijklmnopqrstuvwxyz" 198)))
  (y_LONGEST_NAME:w6 K t5 "LONGEST_NAME" = some (some (.int (8) 202)))
  (y_MOST:w6 K t5 "MOST" = some (some (.int (400) 384)))
  : ∃fd:W2,(∀(s:g9) (v:Value),b6F s fd ⟨[v],[]⟩ [(c6h,v)])/\∀base:Heap,K.In base->base.Ns t5 mg->G8 l.prog w K mg base CX0 10 fa fd [c6h] (a8e K):=by
 have e:=hfa.symm.trans (M6 X G x43.a)
 cases e
 let c:Cn:=⟨276,22,180⟩
 have ck:a3Q K c:=⟨⟨y_Plan.pg,y_Plan.hd,y_Plan.po,y_Plan.sa⟩,Z3,L8,G9,fun H=>.inr ⟨_,([(.str "plus" 204),(.str "minus" 205),(.str "times" 206),(.str "less" 207),(.str "same" 208)]:List Value).toArray,0,l_DEED_KINDS,rfl,rfl,by decide,.cons ⟨_,rfl⟩ ( .cons ⟨_,rfl⟩ ( .cons ⟨_,rfl⟩ ( .cons ⟨_,rfl⟩ ( .cons ⟨_,rfl⟩ ( .nil)))))⟩,fun H=>.inr ⟨_,([(.int (-1) 415),(.int (0) 416)]:List Value).toArray,0,l_FIRST_STEP,rfl,rfl,by decide,.cons ⟨_,rfl⟩ ( .cons ⟨_,rfl⟩ ( .nil))⟩,⟨⟨y_Plan.pg,y_Plan.hd,y_Plan.po,y_Plan.sa⟩,ha_Plan,hn_Plan,tk_Plan,hm_Plan⟩⟩
 have T:Txt K mg c:=⟨A4 X G z_abs,A4 X G z_all,A4 X G z_any,A4 X G z_bool,A4 X G z_enumerate,A4 X G z_int,A4 X G z_isinstance,A4 X G z_len,A4 X G z_list,A4 X G z_min,A4 X G z_range,A4 X G z_sorted,A4 X G z_str,A4 X G z_tuple,A4 X G z_zip,⟨_,M6 X G y_BOUND,⟨_,rfl⟩⟩,⟨_,M6 X G y_DEED_KINDS,rfl⟩,⟨_,M6 X G y_FIGURES,⟨_,rfl⟩⟩,⟨_,M6 X G y_FIRST_STEP,rfl⟩,⟨_,M6 X G y_LETTERS,⟨_,rfl⟩⟩,⟨_,M6 X G y_LONGEST_NAME,⟨_,rfl⟩⟩,⟨_,M6 X G y_MOST,⟨_,rfl⟩⟩,⟨_,M6 X G y_Plan.y,rfl⟩⟩
 refine⟨fdM "law" "law" b4z pm0 (.ref 434),fun s v=>.of_eq rfl,fun base _ _=>?_⟩
 have b4T:=mkC X G x0 (c3n (P:=l.prog) (w:=w) (base:=base) T x0.i.F) fun _ _ _ _ _ _ _=>rfl
 have F5:=mkC X G x1 (c0t (P:=l.prog) (w:=w) (base:=base) T x1.i.F) fun _ _ _ _ _ _ _ _=>rfl
 have b1c:=mkC X G x2 (c0v T F5 x2.i.F) fun _ _ _ _ _ _ _=>rfl
 have b4R:=mkC X G x3 (c3k T F5 x3.i.F) fun _ _ _ _ _ _ _ _=>rfl
 have a5X:=mkC X G x4 (b5G (P:=l.prog) (w:=w) (base:=base) T x4.i.F) fun _ _ _ _ _ _ _=>rfl
 have V4:=mkC X G x5 (b3S T F5 x5.i.F) fun _ _ _ _ _ _ _ _=>rfl
 have b1d:=mkC X G x6 (c0y T F5 V4 x6.i.F) fun _ _ _ _ _ _ _ _=>rfl
 have b4Q:=mkC X G x7 (c3j T F5 V4 x7.i.F) fun _ _ _ _ _ _ _ _ _ _=>rfl
 have a8V:=mkC X G x8 (c0w T F5 b1c b4R a5X b1d b4Q x8.i.F) fun _ _ _ _ _ _ _=>rfl
 have a0n:=mkC X G x9 (a7v (P:=l.prog) (w:=w) (base:=base) T x9.i.F) fun _ _ _ _ _ _ _ _ _=>rfl
 have Y0:=mkC X G x10 (b3T (P:=l.prog) (w:=w) (base:=base) T x10.i.F) fun _ _ _ _ _ _ _=>rfl
 have Z4:=mkC X G x11 (b2m (P:=l.prog) (w:=w) (base:=base) T x11.i.F) fun _ _ _ _ _ _ _=>rfl
 have a2Y:=mkC X G x12 (b2n T Z4 x12.i.F) fun _ _ _ _ _ _ _=>rfl
 have O4:=mkC X G x13 (a9o T Y0 a2Y x13.i.F) fun _ _ _ _ _ _ _=>rfl
 have a4i:=mkC X G x14 (b3U T O4 x14.i.F) fun _ _ _ _ _ _ _=>rfl
 have a5Y:=mkC X G x15 (b5H T Y0 O4 a4i x15.i.F) fun _ _ _ _ _ _ _=>rfl
 have U5:=mkC X G x16 (a9q (P:=l.prog) (w:=w) (base:=base) T x16.i.F) fun _ _ _ _ _ _ _=>rfl
 have a2Z:=mkC X G x17 (b2o T Z4 x17.i.F) fun _ _ _ _ _ _ _ _=>rfl
 have a1V:=mkC X G x18 (b0H T a2Z x18.i.F) fun _ _ _ _ _ _ _ _ _=>rfl
 have a0G:=mkC X G x19 (a8y T U5 a1V x19.i.F) fun _ _ _ _ _ _ _ _=>rfl
 have a2r:=mkC X G x20 (b3Q (P:=l.prog) (w:=w) (base:=base) T x20.i.F) fun _ _ _ _ _ _ _ _=>rfl
 have a5V:=mkC X G x21 (b5E (P:=l.prog) (w:=w) (base:=base) T x21.i.F) fun _ _ _ _ _ _ _=>rfl
 have a2U:=mkC X G x22 (b2i (P:=l.prog) (w:=w) (base:=base) T x22.i.F) fun _ _ _ _ _ _ _=>rfl
 have a1l:=mkC X G x23 (a9p T a2r a5V a2U x23.i.F) fun _ _ _ _ _ _ _=>rfl
 have a2V:=mkC X G x24 (b2j (P:=l.prog) (w:=w) (base:=base) T x24.i.F) fun _ _ _ _ _ _ _=>rfl
 have Z2:=mkM x25 ck.J4 (a6L (P:=l.prog) (w:=w) (base:=base) T x25.i.F) fun _ _ _ _ _ _ _ _=>rfl
 have a5c:=mkK X G x26 y_Plan.y y_Plan.mm y_Plan.kc (b0I T a0n a5Y U5 a0G a1l a2V Z2 x26.i.F) fun _ _ _ _ _ _ _ _ _=>rfl
 have a8W:=mkC X G x27 (c0x T a5c x27.i.F) fun _ _ _ _ _ _ _ _=>rfl
 have a1U:=mkC X G x28 (b0G (P:=l.prog) (w:=w) (base:=base) T x28.i.F) fun _ _ _ _ _ _ _=>rfl
 have a5W:=mkC X G x29 (b5F (P:=l.prog) (w:=w) (base:=base) T x29.i.F) fun _ _ _ _ _ _ _=>rfl
 have a2s:=mkC X G x30 (b3R (P:=l.prog) (w:=w) (base:=base) T x30.i.F) fun _ _ _ _ _ _ _ _ _ _=>rfl
 have Z0:=mkC X G x31 (a6J T a2s x31.i.F) fun _ _ _ _ _ _ _ _ _=>rfl
 have X8:=mkC X G x32 (a5N T a5W Z0 x32.i.F) fun _ _ _ _ _ _ _ _=>rfl
 have X9:=mkC X G x33 (a5O T a1U X8 x33.i.F) fun _ _ _ _ _ _ _=>rfl
 have Z1:=mkC X G x34 (a6K (P:=l.prog) (w:=w) (base:=base) T x34.i.F) fun _ _ _ _ _ _ _ _=>rfl
 have a1T:=mkC X G x35 (b0F T a5c X9 Z1 x35.i.F) fun _ _ _ _ _ _ _=>rfl
 have a5Z:=mkC X G x36 (b5I (P:=l.prog) (w:=w) (base:=base) T x36.i.F) fun _ _ _ _ _ _ _ _=>rfl
 have b1e:=mkC X G x37 (c0z (P:=l.prog) (w:=w) (base:=base) T x37.i.F) fun _ _ _ _ _ _ _ _=>rfl
 have a2W:=mkC X G x38 (b2k T a5Z b1e x38.i.F) fun _ _ _ _ _ _ _ _=>rfl
 have a5g:=mkC X G x39 (c0u (P:=l.prog) (w:=w) (base:=base) T x39.i.F) fun _ _ _ _ _ _ _ _=>rfl
 have a2X:=mkC X G x40 (b2l T a5g x40.i.F) fun _ _ _ _ _ _ _ _=>rfl
 have b4S:=mkC X G x41 (c3m T a2W a2X x41.i.F) fun _ _ _ _ _ _ _ _=>rfl
 have a4h:=mkC X G x42 (b8d T a1T b4S x42.i.F) fun _ _ _ _ _ _ _ _ _=>rfl
 exact c3l T b4T a8V a8W a4h ck x43.i.F
theorem walk{l:PySem.W.OpenLaw}{q:w4}{loose:List Str}{XP:(Str->Option Value)->Heap->Prop}{YP:World->Heap->Prop}{d:DefRec}{K:Params->Fg}(hn:l.most=some 63)(hdf:d.params.defaults=[])
  (hY:∀(w:World) (h:Heap),YP w h->(K w.params).In h)
  (F:∀(w:World) (mg:Str->Option Value) (fa:Addr) (h:Heap),(K w.params).In h->h.Ns t5 mg->mg d.name=some (.ref fa) ->
   ∃fd:W2,(∀(s:g9) (u:Value),b6F s fd ⟨[u],[]⟩ [(c6h,u)])/\∀base:Heap,(K w.params).In base->base.Ns t5 mg->G8 l.prog w (K w.params) mg base CX0 10 fa fd [c6h] (a8e (K w.params))) :
  PySem.W.WalkO q loose XP YP l.row.toRowW d [] (fun f vs=>b1q f vs):=
 L2.b9f (n:=63) (k:=10) (x := c6h) (CX:=fun _=>CX0) (sp:=fun w=>a8e (K w.params)) hn (by decide) hdf ⟨rfl,by decide,by decide⟩ hY F (fun _ _ a ns hl hO hS=>RD.law_reading _ hl hO hS) fun _ _ _ _ _ z=>z
end PR
open PySem PySem.W PyProof.Rows
set_option maxRecDepth 100000 in
set_option maxHeartbeats 0 in
theorem PySem.Challenge.cw_oncedone_k84_forwarded_holds : PySem.Challenge.rw_oncedone_k84_forwarded.Holds := by
 refine HD.fin fun d hd hdf=>PR.walk (l:=HD.row) (K:=HD.K) rfl hdf (fun w h Y=>PySem.W.kIn_of Y) ?F
 intro w mg fa h KX G hmg
 rw[hd]at hmg
 apply PR.c3Q KX G hmg <;> first | kernel_rfl | exact⟨⟨by kernel_rfl,by kernel_rfl,by kernel_rfl⟩,by kernel_rfl⟩ | exact⟨⟨by kernel_rfl,by kernel_rfl,by kernel_rfl⟩,by kernel_rfl,by kernel_rfl⟩ | exact⟨by kernel_rfl,by kernel_rfl,by kernel_rfl,by kernel_rfl,by kernel_rfl,by kernel_rfl,by kernel_rfl⟩
