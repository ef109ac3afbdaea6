import PyProof.Rows.All
import KE.KEqDict
import KE.KDictList
import KE.KIsAll
import KE.KDictOf
import KE.KItem
import KE.KRevIter
import Lean
import PySem.Challenge.RW_oncedone_k31_rows_done
open Array renaming getElem?_toList->V0,length_toList->X3,getElem?_eq_getElem->a0r
open Bool renaming false_ne_true->u9,eq_iff_iff->a0N,and_eq_true->a1x,false_eq_true->a7r,true_and->b3I,and_eq_true_iff->b7Z,false_or->c7p
open Int renaming toNat_natCast->A7,eq_ofNat_of_zero_le->C7,emod_lt_of_pos->Q7,emod_nonneg->T6,zero_add->a0u,toNat->b6m
open List renaming length_map->c7,getElem?_map->d4,getElem?_eq_getElem->g8,size_toArray->o9,mem_cons->p8,length_append->t5,replicate->u5,getElem?_eq_some_iff->u7,mem_singleton->v9,length_cons->C1,mem_append_right->C2,mem_append->C6,length_singleton->C9,mem_cons_of_mem->E1,map_append->E2,mem_map->E3,not_mem_nil->E5,map_cons->F8,getElem_mem->G9,length_replicate->J2,lookup_cons->J3,length_take->J4,mem_cons_self->K5,nodup_cons->K6,getElem?_replicate->L6,range->M0,mem_append_left->M3,getElem?_set_self->M8,getElem?_set_ne->O0,all_eq_true->O1,take_add_one->P5,getD->Q5,length_set->T3,replicate_succ->T8,getElem?_append_right->U9,mem_iff_getElem?->V7,getElem?_append_left->W5,map_map->W7,take_length->X9,map_inj_right->Y7,find?_cons->Z0,any_cons->Z6,mem_of_getElem?->a0f,take_of_length_le->a1e,flatten_cons->a1f,length_filter_le->a1w,lookup->a1M,mem_filter->a2e,length_nil->a2f,mem_range->a2E,getD_eq_getElem?_getD->a2F,filter_append->a2G,drop_eq_getElem_cons->a2S,length_erase_of_mem->a3G,length_pos_of_mem->a4I,concat_eq_append->a4V,replicate_succ'->a5s,map_congr_left->a6g,filterMap_cons->a6h,length_range->a7S,length_drop->a9s,length->a9N,range_succ->b0u,of_mem_zip->b0v,append_nil->b0w,mem_or_eq_of_mem_set->b3B,idxOf_lt_length_iff->b3G,all_cons->b3H,length_eq_zero_iff->b5m,getElem?_cons_zero->b5n,map_nil->b6k,drop_of_length_le->b6l,getElem?_eq_none->b7Q,mem_erase_of_ne->b7W,map_id->b7X,getLast?_concat->b7Y,length_reverse->c0U,getElem?_range->c0V,mem_filterMap->c0Z,foldl->c1a,reverse_cons->c3c,pairwise_map->c3d,nodup_append->c3e,mem_reverse->c3E,any_eq_true->c3F,idxOf_cons->c6d,forIn_cons->c6e,drop_zero->c6i,map_set->c7v,all_nil->c7w
open Nat renaming le_refl->i9,ne_of_lt->B0,lt_of_lt_of_le->D4,le_trans->I0,zero_le->K0,lt_irrefl->L1,le_succ->U4,le_add_right->a4s,ne_of_gt->a4O,succ_mul->b7O,le_of_lt->b7P,lt_succ_self->c6c
open Option renaming map_eq_some_iff->G8,isSome_iff_exists->W6,getD_some->a3F,map_some->a4r,isSome_map->a7q,getD_none->c0Y
open PyProof.Rows renaming boot_isinstance->o8,boot_list->C0,callWith_type1->N7,boot_int->T5,boot_dict->X1,boot_tuple->a0n,slot_tuple_getitem->a0A,boot_str->a0M,boot_bool->a2D,boot_all->a9M,AllBare->b0A,envOfC->b2o,subscriptTail->c3I,IntsAre->c3L,subscriptTail_builtinR->c6g
open PySem renaming wpAny_bind->d5,starEach->i8,Shared->l4,boot_len->t6,sizeLine->u8,wpAny_pure->v6,compareOp->A3,mainGlobals->A4,Program->D6,mem_of_lookup->D9,Around->K7,wpAny_truthy_bool->L5,foldedSetIterable->P6,behindInMarks->Q3,wpAny_newObj_type->R9,bootBuiltins->U0,binaryOp->X0,wpAny_mono->X8,backTo->Y0,attributeBase->Y1,FuncData->Y9,wpAny_typeNameOfWhole_keyiter->a0g,sysModules->a0o,wpAny_Call_Name_kw->a0v,wpAny_passesOwn->a0B,assignEach->a0P,lookup_relabel_local->a0Q,wpAny_call_entry->a1p,wpAny_holding->a1N,tupleKind_room_in1->a1O,swapsWith->a1P,importedModules->a1Q,strIterType->a2v,keywordEach->a2w,DictEntry->a2H,sizeLine_eq->a2R,codeAny->a2T,sliceBounds->a3K,letOwnedTupleGo->a3L,holding->a3M,NameKind->a4P,wpAny_comprehension_free->a5t,call_meets->a5u,wpAny_callSpecial?_slot->a6i,relabel->a6j,Keyword->a6k,wpAny_execs_nil->a7V,backToKw->a9r,assign->a9O,getItem->b0z,call->b2c,tupleKind->b2n,PassesOwn->b2p,wpAny_pyIter_list->b3J,wpAny_dictEntries->b3K,wpAny_assign_Name->b3L,codeAny_mono->b5q,Result->b5r,compEnvC->b7S,Operator->b7T,wpAny_dictEpoch->b8a,valueAt->b8b,subscripted->b8c,standAt->b8d,getMethod->b8e,callerA->b8f,BindsTo->b8g,typeLookup->c3f,PlainAttrs->c3g,IsPart->c3h,wpAny_standAt->c3H,setItem->c3J,plainId_quiet->c3K,codeAny_compStart_list->c6h,wpAny_isTrue_Compare1->c6k,wpAny_isOneOf_keyiter->c6l,seqIndex_neg->c6m,pyNext->c6n,lastMarks->c6o,builtinLookup_eq_fast->c6p,wpAny_newFunctionEnv->c7u,wpAny_field->c7x,seqIndex_of->c7y
open PySem.F renaming plainAttrs_list->u4,type_list_append->A8,slot_list_append->A9,slot_dict_clear->a3w,plainAttrs_dict->a3x,slot_dict_get->a4q,slot_list_ne->a4N,type_list_extend->b2d,slot_list_extend->b2e,type_list_clear->b2i,type_dict_clear->b2j,slot_list_index->b2k,slot_list_clear->b2l,args_dict_get_3->b2m,entry_dict_get->b3A,type_list_pop->b3C,slot_tuple_ne->b3D,slot_tuple_eq->b3E,slot_list_pop->b3F
open PySem.Heap renaming get?_push_of_some->g9,lt_size->o6,get?_push_size->C3,get?_update_other->a4J,get?_update_self->a4W,size_push->c6j
open PySem.Heap.SameBut renaming update->b2f
open PySem.W renaming nsIn->D0,mg_none_of->D2,findIn->F3,kia_one->L7,emptyDict->O6,mg_of->T7,keepIn->U3,instObj->V8,fnOf->a0d,plainGet->a1n,hasDictIn->a2C,makesIn->a3J,lookIn->a4L,codeIn->a4M,plainGet_of->a5r,callWith_K->a6f,specialIn->a6T,plainOver->a6U,methodObj->a6V,isFn->a6W,takerIn->a9o,cellsFrom_some->b3z,kitx_tuple->b7N,kitx_list->b7U,kitx_dict->b7V,handedIn->c0T,takesIn->c0X,kitOne->c3b,mroIn->c3D
set_option Elab.async false
set_option linter.all false
set_option maxRecDepth 100000
set_option maxHeartbeats 0
abbrev Fg:=PySem.W.Frag
abbrev Nt:=List (List Nat)
theorem gI{α:Type}{l:List α}{i:Nat}{a:α}(h:l[i]?=some a):i<l.length:=(u7.mp h).1
theorem mI{α:Type}{l:List α}{i:Nat}{a:α}(h:l[i]?=some a):a∈l:=a0f h
theorem c9r{p:Prop}[Decidable p](h:¬p):decide p=false:=decide_eq_false h
theorem c9s{p:Prop}[Decidable p](h:p):decide p=true:=decide_eq_true h
namespace L2
open PySem
def V4(s:Stmt)(j:Nat):Stmt:=match s with
 | .ClassDef _ _ _ body _ _ _ _ _ _ _=>body.getD j (.Pass ⟨0,0,0,0⟩)
 | _=>.Pass ⟨0,0,0,0⟩
def a2q(s:Stmt):Arguments:=match s with
 | .FunctionDef _ a _ _ _ _ _ _ _ _=>a
 | _=>{ posonlyargs:=[],args:=[],vararg:=none,kwonlyargs:=[],kw_defaults:=[],kwarg:=none,defaults:=[] }
def a0H(s:Stmt):List Stmt:=match s with
 | .FunctionDef _ _ b _ _ _ _ _ _ _=>b
 | _=>[]
def o5(s:Stmt):Scope:=match s with
 | .FunctionDef _ _ _ _ _ _ sc _ _ _=>sc
 | _=>{ kind:=.function,names:=[],isGenerator:=false,isCoroutine:=false }
end L2
namespace HD
open PySem PySem.W L2
abbrev P:D6:=PySem.Challenge.pw_oncedone_k31_rows_done
def top(i:Nat):Stmt:=P.main.body.getD i (.Pass ⟨0,0,0,0⟩)
def kE(Q:Params)(n:Str)(t:Nat)(v:Value):a2H:=⟨PyData.keyHash Q n,.str n t,v⟩
def kD(es:List a2H)(n:Nat):Obj:=⟨.type "dict",none,.dict es.toArray n,#[]⟩
def kF(x qual:Str)(st:Stmt)(pm cd:Value):Obj:=⟨.type "function",none,.func (fnOf x qual (a2q st) (a0H st) (o5 st) .none .none .none pm none cd .none),#[]⟩
def kC(n q:Str)(a b c:Nat)(i3 i4 i5 i6 i7:Int)(r8:Nat)(i10:Int)(r11 r13 r14 r15:Nat)(i16 i17:Int)(d:Nat):Obj:=⟨.type "code",none,.fields ([.str n a,.str q b,.str "/claim/cut.py" c,.int i3 0,.int i4 0,.int i5 0,.int i6 0,.int i7 0,.ref r8,.bool true,.int i10 0,.ref r11,.none,.ref r13,.ref r14,.ref r15,.int i16 0,.int i17 0,.str "/claim/cut.py" d]:List Value).toArray,([]:List (Option Value)).toArray⟩
def kN(n q:Str)(a b c:Nat)(i3 i4 i5 i6 i7:Int)(r8:Nat)(i10:Int)(r11 r15:Nat)(i16 i17:Int)(d:Nat):Obj:=⟨.type "code",none,.fields ([.str n a,.str q b,.str "/claim/cut.py" c,.int i3 0,.int i4 0,.int i5 0,.int i6 0,.int i7 0,.ref r8,.bool true,.int i10 0,.ref r11,.none,.none,.none,.ref r15,.int i16 0,.int i17 0,.str "/claim/cut.py" d]:List Value).toArray,([]:List (Option Value)).toArray⟩
abbrev m0:Value:=(.str "__main__" 164)
abbrev m1:Value:=(.str "oncedone.words" 194)
abbrev m2:Value:=(.str "oncedone.deeds" 253)
abbrev m3:Value:=(.str "oncedone.errors" 281)
abbrev m4:Value:=(.str "oncedone.checks" 401)
abbrev m5:Value:=(.str "oncedone.plans" 431)
abbrev m6:Value:=(.str "oncedone.runs" 561)
abbrev m7:Value:=(.str "law_oncedone_k31_rows_done" 599)
def K1(Q:Params):Frag:=[
 (3,kD [kE Q "__name__" 165 (.str "law_oncedone_k31_rows_done" 599),kE Q "__doc__" 166 .none,kE Q "__package__" 167 .none,kE Q "__loader__" 168 (.builtin "__main__.__loader__#opaque"),kE Q "__spec__" 169 .none,kE Q "__annotations__" 170 (.ref 6),kE Q "__builtins__" 171 (.ref 4),kE Q "__file__" 173 (.str "/claim/cut.py" 172),kE Q "__cached__" 174 .none,kE Q "_wall" 193 (.ref 21),kE Q "BOUND" 197 (.int (1000000000000) 196),kE Q "LETTERS" 199 (.str "abcdefghijklmnopqrstuvwxyz" 198),kE Q "FIGURES" 201 (.str "0123456789" 200),kE Q "LONGEST_NAME" 203 (.int (8) 202),kE Q "DEED_KINDS" 209 (.ref 22),kE Q "is_whole" 216 (.ref 29),kE Q "is_value" 223 (.ref 36),kE Q "is_name" 229 (.ref 41),kE Q "is_operand" 236 (.ref 48),kE Q "is_deed" 243 (.ref 55),kE Q "is_row" 252 (.ref 62),kE Q "worth_of" 262 (.ref 69),kE Q "worth" 273 (.ref 76),kE Q "set_by" 280 (.ref 83),kE Q "OnceError" 300 (.ref 93),kE Q "Wrong" 325 (.ref 113),kE Q "NoThing" 350 (.ref 132),kE Q "TooMany" 375 (.ref 151),kE Q "NoWay" 400 (.ref 170),kE Q "MOST" 404 (.int (400) 403),kE Q "is_below" 412 (.ref 179),kE Q "check_length" 421 (.ref 186),kE Q "check_each" 430 (.ref 193),kE Q "FIRST_STEP" 436 (.ref 194),kE Q "are_nexts" 442 (.ref 199),kE Q "check_nexts" 448 (.ref 204),kE Q "stops_of" 454 (.ref 209),kE Q "turned" 460 (.ref 214),kE Q "reached" 471 (.ref 221),kE Q "check_ways" 481 (.ref 228),kE Q "steps_of" 487 (.ref 233),kE Q "Plan" 560 (.ref 290),kE Q "worth_set" 571 (.ref 301),kE Q "step_behind" 580 (.ref 308),kE Q "run" 598 (.ref 315),kE Q "_law_bag" 606 (.ref 320),kE Q "_law_take" 619 (.ref 327),kE Q "_law_net" 632 (.ref 334),kE Q "_law_mended" 638 (.ref 339),kE Q "_law_base" 644 (.ref 344),kE Q "_law_names" 661 (.ref 351),kE Q "_law_value" 668 (.ref 358),kE Q "_law_operand" 676 (.ref 365),kE Q "_law_deed" 685 (.ref 372),kE Q "_law_row" 697 (.ref 379),kE Q "_law_plan" 703 (.ref 384),kE Q "_law_lists" 709 (.ref 389),kE Q "_law_whole" 716 (.ref 396),kE Q "_law_does" 724 (.ref 403),kE Q "_law_spoils" 732 (.ref 410),kE Q "_law_leads" 740 (.ref 417),kE Q "_law_is_step" 748 (.ref 424),kE Q "_law_places" 759 (.ref 431),kE Q "_law_of" 767 (.ref 438),kE Q "_law_worth" 777 (.ref 445),kE Q "_law_run" 796 (.ref 452),kE Q "_law_start" 802 (.ref 457),kE Q "_law_taken" 808 (.ref 462),kE Q "_law_kinds" 818 (.ref 469),kE Q "_law_most" 825 (.ref 476),kE Q "_law_asked" 841 (.ref 483),kE Q "law" 859 (.ref 490)] 72),
 (20,kC "_wall" "_wall" 187 188 189 1 1 0 0 3 15 181 16 17 18 19 191 1 192),
 (21,kF "_wall" "_wall" (top 0) m0 (.ref 20)),
 (22,⟨(.type "tuple"),none,.seq ([(.str "plus" 204),(.str "minus" 205),(.str "times" 206),(.str "less" 207),(.str "same" 208)]:List Value).toArray 0,([]:List (Option Value)).toArray⟩),
 (28,kC "is_whole" "is_whole" 210 211 212 10 1 0 0 3 23 181 24 25 26 27 214 10 215),
 (29,kF "is_whole" "is_whole" (top 7) m1 (.ref 28)),
 (35,kC "is_value" "is_value" 217 218 219 12 1 0 0 3 30 181 31 32 33 34 221 12 222),
 (36,kF "is_value" "is_value" (top 8) m1 (.ref 35)),
 (40,kN "is_name" "is_name" 224 225 226 14 1 0 0 3 37 181 38 39 227 14 228),
 (41,kF "is_name" "is_name" (top 9) m1 (.ref 40)),
 (47,kC "is_operand" "is_operand" 230 231 232 18 1 0 0 3 42 181 43 44 45 46 234 18 235),
 (48,kF "is_operand" "is_operand" (top 10) m1 (.ref 47)),
 (54,kC "is_deed" "is_deed" 237 238 239 20 1 0 0 3 49 181 50 51 52 53 241 20 242),
 (55,kF "is_deed" "is_deed" (top 11) m1 (.ref 54)),
 (61,kC "is_row" "is_row" 244 245 246 24 1 0 0 3 56 181 57 58 59 60 250 24 251),
 (62,kF "is_row" "is_row" (top 12) m1 (.ref 61)),
 (68,kC "worth_of" "worth_of" 255 256 257 39 2 0 0 3 63 181 64 65 66 67 260 39 261),
 (69,kF "worth_of" "worth_of" (top 14) m2 (.ref 68)),
 (75,kC "worth" "worth" 263 264 265 43 2 0 0 3 70 181 71 72 73 74 271 43 272),
 (76,kF "worth" "worth" (top 15) m2 (.ref 75)),
 (82,kC "set_by" "set_by" 274 275 276 56 1 0 0 3 77 181 78 79 80 81 278 56 279),
 (83,kF "set_by" "set_by" (top 16) m2 (.ref 82)),
 (92,kD [kE Q "__module__" 290 (.str "oncedone.errors" 281),kE Q "__firstlineno__" 294 (.int (59) 293),kE Q "__static_attributes__" 295 (.ref 91),kE Q "__weakref__" 297 (.ref 94),kE Q "__doc__" 298 .none] 3),
 (93,⟨(.type "type"),none,.cls { name := "OnceError",bases:=[(.type "ValueError")],mro:=[(.ref 93),(.type "ValueError"),(.type "Exception"),(.type "BaseException"),(.type "object")],ns:=92,qualname := "OnceError",hasDict:=true,subclasses:=[(.ref 113),(.ref 132),(.ref 151),(.ref 170)] },([some (.ref 84),none,some (.str "OnceError" 283),some (.str "OnceError" 291),some (.builtin "ValueError.__new__"),some (.bool true)]:List (Option Value)).toArray⟩),
 (109,kC "__init__" "Wrong.__init__" 313 314 315 63 2 0 0 3 104 181 105 106 107 108 318 63 319),
 (110,kF "__init__" "Wrong.__init__" (V4 (top 19) 0) m3 (.ref 109)),
 (112,kD [kE Q "__module__" 308 (.str "oncedone.errors" 281),kE Q "__firstlineno__" 312 (.int (61) 311),kE Q "__init__" 320 (.ref 110),kE Q "__static_attributes__" 322 (.ref 111),kE Q "__doc__" 323 .none] 2),
 (113,⟨(.type "type"),none,.cls { name := "Wrong",bases:=[(.ref 93)],mro:=[(.ref 113),(.ref 93),(.type "ValueError"),(.type "Exception"),(.type "BaseException"),(.type "object")],ns:=112,qualname := "Wrong",hasDict:=true,subclasses:=[] },([some (.ref 97),none,some (.str "Wrong" 301),some (.str "Wrong" 309),some (.builtin "ValueError.__new__"),some (.bool true)]:List (Option Value)).toArray⟩),
 (128,kC "__init__" "NoThing.__init__" 338 339 340 67 2 0 0 3 123 181 124 125 126 127 343 67 344),
 (129,kF "__init__" "NoThing.__init__" (V4 (top 20) 0) m3 (.ref 128)),
 (131,kD [kE Q "__module__" 333 (.str "oncedone.errors" 281),kE Q "__firstlineno__" 337 (.int (65) 336),kE Q "__init__" 345 (.ref 129),kE Q "__static_attributes__" 347 (.ref 130),kE Q "__doc__" 348 .none] 2),
 (132,⟨(.type "type"),none,.cls { name := "NoThing",bases:=[(.ref 93)],mro:=[(.ref 132),(.ref 93),(.type "ValueError"),(.type "Exception"),(.type "BaseException"),(.type "object")],ns:=131,qualname := "NoThing",hasDict:=true,subclasses:=[] },([some (.ref 116),none,some (.str "NoThing" 326),some (.str "NoThing" 334),some (.builtin "ValueError.__new__"),some (.bool true)]:List (Option Value)).toArray⟩),
 (147,kC "__init__" "TooMany.__init__" 363 364 365 71 2 0 0 3 142 181 143 144 145 146 368 71 369),
 (148,kF "__init__" "TooMany.__init__" (V4 (top 21) 0) m3 (.ref 147)),
 (150,kD [kE Q "__module__" 358 (.str "oncedone.errors" 281),kE Q "__firstlineno__" 362 (.int (69) 361),kE Q "__init__" 370 (.ref 148),kE Q "__static_attributes__" 372 (.ref 149),kE Q "__doc__" 373 .none] 2)]
def c5V:List Addr:=[3,20,21,22,28,29,35,36,40,41,47,48,54,55,61,62,68,69,75,76,82,83,92,93,109,110,112,113,128,129,131,132,147,148,150]
def K2(Q:Params):Frag:=[
 (151,⟨(.type "type"),none,.cls { name := "TooMany",bases:=[(.ref 93)],mro:=[(.ref 151),(.ref 93),(.type "ValueError"),(.type "Exception"),(.type "BaseException"),(.type "object")],ns:=150,qualname := "TooMany",hasDict:=true,subclasses:=[] },([some (.ref 135),none,some (.str "TooMany" 351),some (.str "TooMany" 359),some (.builtin "ValueError.__new__"),some (.bool true)]:List (Option Value)).toArray⟩),
 (166,kC "__init__" "NoWay.__init__" 388 389 390 75 2 0 0 3 161 181 162 163 164 165 393 75 394),
 (167,kF "__init__" "NoWay.__init__" (V4 (top 22) 0) m3 (.ref 166)),
 (169,kD [kE Q "__module__" 383 (.str "oncedone.errors" 281),kE Q "__firstlineno__" 387 (.int (73) 386),kE Q "__init__" 395 (.ref 167),kE Q "__static_attributes__" 397 (.ref 168),kE Q "__doc__" 398 .none] 2),
 (170,⟨(.type "type"),none,.cls { name := "NoWay",bases:=[(.ref 93)],mro:=[(.ref 170),(.ref 93),(.type "ValueError"),(.type "Exception"),(.type "BaseException"),(.type "object")],ns:=169,qualname := "NoWay",hasDict:=true,subclasses:=[] },([some (.ref 154),none,some (.str "NoWay" 376),some (.str "NoWay" 384),some (.builtin "ValueError.__new__"),some (.bool true)]:List (Option Value)).toArray⟩),
 (178,kC "is_below" "is_below" 405 406 407 79 2 0 0 3 173 181 174 175 176 177 410 79 411),
 (179,kF "is_below" "is_below" (top 25) m4 (.ref 178)),
 (185,kC "check_length" "check_length" 413 414 415 81 3 0 0 3 180 181 181 182 183 184 419 81 420),
 (186,kF "check_length" "check_length" (top 26) m4 (.ref 185)),
 (192,kC "check_each" "check_each" 422 423 424 86 1 0 0 3 187 181 188 189 190 191 428 86 429),
 (193,kF "check_each" "check_each" (top 27) m4 (.ref 192)),
 (194,⟨(.type "tuple"),none,.seq ([(.int (-1) 434),(.int (0) 435)]:List Value).toArray 0,([]:List (Option Value)).toArray⟩),
 (198,kN "are_nexts" "are_nexts" 437 438 439 92 3 0 0 3 195 181 196 197 440 92 441),
 (199,kF "are_nexts" "are_nexts" (top 30) m5 (.ref 198)),
 (203,kN "check_nexts" "check_nexts" 443 444 445 97 2 0 0 3 200 181 201 202 446 97 447),
 (204,kF "check_nexts" "check_nexts" (top 31) m5 (.ref 203)),
 (208,kN "stops_of" "stops_of" 449 450 451 101 1 0 0 3 205 181 206 207 452 101 453),
 (209,kF "stops_of" "stops_of" (top 32) m5 (.ref 208)),
 (213,kN "turned" "turned" 455 456 457 103 1 0 0 3 210 181 211 212 458 103 459),
 (214,kF "turned" "turned" (top 33) m5 (.ref 213)),
 (220,kC "reached" "reached" 461 462 463 109 2 0 0 3 215 181 216 217 218 219 469 109 470),
 (221,kF "reached" "reached" (top 34) m5 (.ref 220)),
 (227,kC "check_ways" "check_ways" 472 473 474 118 1 0 0 3 222 181 223 224 225 226 479 118 480),
 (228,kF "check_ways" "check_ways" (top 35) m5 (.ref 227)),
 (232,kN "steps_of" "steps_of" 482 483 484 124 1 0 0 3 229 181 230 231 485 124 486),
 (233,kF "steps_of" "steps_of" (top 36) m5 (.ref 232)),
 (244,kN "__init__" "Plan.__init__" 500 501 502 131 3 0 0 3 241 181 242 243 503 131 504),
 (245,kF "__init__" "Plan.__init__" (V4 (top 37) 0) m5 (.ref 244)),
 (251,kC "steps" "Plan.steps" 506 507 508 142 1 0 0 3 246 181 247 248 249 250 510 142 511),
 (252,kF "steps" "Plan.steps" (V4 (top 37) 1) m5 (.ref 251)),
 (258,kC "leads_to" "Plan.leads_to" 513 514 515 145 2 0 0 3 253 181 254 255 256 257 518 145 519),
 (259,kF "leads_to" "Plan.leads_to" (V4 (top 37) 2) m5 (.ref 258)),
 (265,kC "steps_into" "Plan.steps_into" 521 522 523 150 2 0 0 3 260 181 261 262 263 264 526 150 527),
 (266,kF "steps_into" "Plan.steps_into" (V4 (top 37) 3) m5 (.ref 265)),
 (272,kC "stops" "Plan.stops" 529 530 531 153 1 0 0 3 267 181 268 269 270 271 533 153 534)]
def c2W:List Addr:=[151,166,167,169,170,178,179,185,186,192,193,194,198,199,203,204,208,209,213,214,220,221,227,228,232,233,244,245,251,252,258,259,265,266,272]
def K3(Q:Params):Frag:=[
 (273,kF "stops" "Plan.stops" (V4 (top 37) 4) m5 (.ref 272)),
 (279,kC "deeds" "Plan.deeds" 536 537 538 156 1 0 0 3 274 181 275 276 277 278 540 156 541),
 (280,kF "deeds" "Plan.deeds" (V4 (top 37) 5) m5 (.ref 279)),
 (286,kC "names" "Plan.names" 543 544 545 159 1 0 0 3 281 181 282 283 284 285 547 159 548),
 (287,kF "names" "Plan.names" (V4 (top 37) 6) m5 (.ref 286)),
 (289,kD [kE Q "__module__" 495 (.str "oncedone.plans" 431),kE Q "__firstlineno__" 499 (.int (129) 498),kE Q "__init__" 505 (.ref 245),kE Q "steps" 512 (.ref 252),kE Q "leads_to" 520 (.ref 259),kE Q "steps_into" 528 (.ref 266),kE Q "stops" 535 (.ref 273),kE Q "deeds" 542 (.ref 280),kE Q "names" 549 (.ref 287),kE Q "__static_attributes__" 553 (.ref 288),kE Q "__dict__" 555 (.ref 291),kE Q "__weakref__" 557 (.ref 292),kE Q "__doc__" 558 .none] 4),
 (290,⟨(.type "type"),none,.cls { name := "Plan",bases:=[(.type "object")],mro:=[(.ref 290),(.type "object")],ns:=289,qualname := "Plan",hasDict:=true,subclasses:=[] },([none,none,some (.str "Plan" 488),some (.str "Plan" 496),some (.builtin "object.__new__"),some (.bool true)]:List (Option Value)).toArray⟩),
 (300,kC "worth_set" "worth_set" 563 564 565 162 3 0 0 3 295 181 296 297 298 299 569 162 570),
 (301,kF "worth_set" "worth_set" (top 39) m6 (.ref 300)),
 (307,kC "step_behind" "step_behind" 572 573 574 168 3 0 0 3 302 181 303 304 305 306 578 168 579),
 (308,kF "step_behind" "step_behind" (top 40) m6 (.ref 307)),
 (314,kC "run" "run" 581 582 583 172 4 0 0 3 309 181 310 311 312 313 596 172 597),
 (315,kF "run" "run" (top 41) m6 (.ref 314)),
 (319,kN "_law_bag" "_law_bag" 601 602 603 191 1 0 0 3 316 181 317 318 604 191 605),
 (320,kF "_law_bag" "_law_bag" (top 43) m7 (.ref 319)),
 (326,kC "_law_take" "_law_take" 607 608 609 193 2 0 0 3 321 181 322 323 324 325 617 193 618),
 (327,kF "_law_take" "_law_take" (top 44) m7 (.ref 326)),
 (333,kC "_law_net" "_law_net" 620 621 622 212 2 0 0 3 328 181 329 330 331 332 630 212 631),
 (334,kF "_law_net" "_law_net" (top 45) m7 (.ref 333)),
 (338,kN "_law_mended" "_law_mended" 633 634 635 230 1 0 0 3 335 181 336 337 636 230 637),
 (339,kF "_law_mended" "_law_mended" (top 46) m7 (.ref 338)),
 (343,kN "_law_base" "_law_base" 639 640 641 245 2 0 0 3 340 181 341 342 642 245 643),
 (344,kF "_law_base" "_law_base" (top 47) m7 (.ref 343)),
 (350,kC "_law_names" "_law_names" 645 646 647 249 2 0 0 3 345 181 346 347 348 349 659 249 660),
 (351,kF "_law_names" "_law_names" (top 48) m7 (.ref 350)),
 (357,kC "_law_value" "_law_value" 662 663 664 264 1 0 0 3 352 181 353 354 355 356 666 264 667),
 (358,kF "_law_value" "_law_value" (top 49) m7 (.ref 357)),
 (364,kC "_law_operand" "_law_operand" 669 670 671 266 2 0 0 3 359 181 360 361 362 363 674 266 675),
 (365,kF "_law_operand" "_law_operand" (top 50) m7 (.ref 364)),
 (371,kC "_law_deed" "_law_deed" 677 678 679 270 2 0 0 3 366 181 367 368 369 370 683 270 684),
 (372,kF "_law_deed" "_law_deed" (top 51) m7 (.ref 371)),
 (378,kC "_law_row" "_law_row" 686 687 688 273 4 0 0 3 373 181 374 375 376 377 695 273 696),
 (379,kF "_law_row" "_law_row" (top 52) m7 (.ref 378)),
 (383,kN "_law_plan" "_law_plan" 698 699 700 285 1 0 0 3 380 181 381 382 701 285 702),
 (384,kF "_law_plan" "_law_plan" (top 53) m7 (.ref 383))]
def c2V:List Addr:=[273,279,280,286,287,289,290,300,301,307,308,314,315,319,320,326,327,333,334,338,339,343,344,350,351,357,358,364,365,371,372,378,379,383,384]
def K4(Q:Params):Frag:=[
 (388,kN "_law_lists" "_law_lists" 704 705 706 300 1 0 0 3 385 181 386 387 707 300 708),
 (389,kF "_law_lists" "_law_lists" (top 54) m7 (.ref 388)),
 (395,kC "_law_whole" "_law_whole" 710 711 712 302 1 0 0 3 390 181 391 392 393 394 714 302 715),
 (396,kF "_law_whole" "_law_whole" (top 55) m7 (.ref 395)),
 (402,kC "_law_does" "_law_does" 717 718 719 304 2 0 0 3 397 181 398 399 400 401 722 304 723),
 (403,kF "_law_does" "_law_does" (top 56) m7 (.ref 402)),
 (409,kC "_law_spoils" "_law_spoils" 725 726 727 306 2 0 0 3 404 181 405 406 407 408 730 306 731),
 (410,kF "_law_spoils" "_law_spoils" (top 57) m7 (.ref 409)),
 (416,kC "_law_leads" "_law_leads" 733 734 735 308 2 0 0 3 411 181 412 413 414 415 738 308 739),
 (417,kF "_law_leads" "_law_leads" (top 58) m7 (.ref 416)),
 (423,kC "_law_is_step" "_law_is_step" 741 742 743 312 2 0 0 3 418 181 419 420 421 422 746 312 747),
 (424,kF "_law_is_step" "_law_is_step" (top 59) m7 (.ref 423)),
 (430,kC "_law_places" "_law_places" 749 750 751 318 2 0 0 3 425 181 426 427 428 429 757 318 758),
 (431,kF "_law_places" "_law_places" (top 60) m7 (.ref 430)),
 (437,kC "_law_of" "_law_of" 760 761 762 327 2 0 0 3 432 181 433 434 435 436 765 327 766),
 (438,kF "_law_of" "_law_of" (top 61) m7 (.ref 437)),
 (444,kC "_law_worth" "_law_worth" 768 769 770 331 2 0 0 3 439 181 440 441 442 443 775 331 776),
 (445,kF "_law_worth" "_law_worth" (top 62) m7 (.ref 444)),
 (451,kC "_law_run" "_law_run" 778 779 780 343 5 0 0 3 446 181 447 448 449 450 794 343 795),
 (452,kF "_law_run" "_law_run" (top 63) m7 (.ref 451)),
 (456,kN "_law_start" "_law_start" 797 798 799 366 2 0 0 3 453 181 454 455 800 366 801),
 (457,kF "_law_start" "_law_start" (top 64) m7 (.ref 456)),
 (461,kN "_law_taken" "_law_taken" 803 804 805 374 1 0 0 3 458 181 459 460 806 374 807),
 (462,kF "_law_taken" "_law_taken" (top 65) m7 (.ref 461)),
 (468,kC "_law_kinds" "_law_kinds" 809 810 811 376 2 0 0 3 463 181 464 465 466 467 816 376 817),
 (469,kF "_law_kinds" "_law_kinds" (top 66) m7 (.ref 468)),
 (475,kC "_law_most" "_law_most" 819 820 821 388 1 0 0 3 470 181 471 472 473 474 823 388 824),
 (476,kF "_law_most" "_law_most" (top 67) m7 (.ref 475)),
 (482,kC "_law_asked" "_law_asked" 826 827 828 390 4 0 0 3 477 181 478 479 480 481 839 390 840),
 (483,kF "_law_asked" "_law_asked" (top 68) m7 (.ref 482)),
 (489,kC "law" "law" 842 843 844 405 1 0 0 3 484 181 485 486 487 488 857 405 858),
 (490,kF "law" "law" (top 69) m7 (.ref 489))]
def c2U:List Addr:=[388,389,395,396,402,403,409,410,416,417,423,424,430,431,437,438,444,445,451,452,456,457,461,462,468,469,475,476,482,483,489,490]
def K(Q:Params):Frag:=K1 Q++(K2 Q++(K3 Q++K4 Q))
def adr:List Addr:=c5V++(c2W++(c2V++c2U))
def q:D6:=view P [69]
def loose:List Str:=(["_wall","BOUND","LETTERS","FIGURES","LONGEST_NAME","DEED_KINDS","is_whole","is_value","is_name","is_operand","is_deed","is_row","worth_of","worth","set_by","OnceError","Wrong","NoThing","TooMany","NoWay","MOST","is_below","check_length","check_each","FIRST_STEP","are_nexts","check_nexts","stops_of","turned","reached","check_ways","steps_of","Plan","worth_set","step_behind","run","_law_bag","_law_take","_law_net","_law_mended","_law_base","_law_names","_law_value","_law_operand","_law_deed","_law_row","_law_plan","_law_lists","_law_whole","_law_does","_law_spoils","_law_leads","_law_is_step","_law_places","_law_of","_law_worth","_law_run","_law_start","_law_taken","_law_kinds","_law_most","_law_asked"]:List String).map Str.ofString
theorem c0m{p q:D6}{loose:List Str}{Xt:l4->Bool}{α:Type}{Yf:l4->α}{Ya:World->α}{N m₀:Nat}{ann:Option Value}(e:opening p=plainProg p.main.scope.names)(hN:Nat.ble 600 N=true)(f:∀s,fenceModules? p s=some s)
  (size:∀w:World,((boot_heap w.params).isNs A4,(boot_heap w.params).objs.size,(boot_heap w.params).nsMap A4 "__annotations__")=(true,m₀,ann))
  {r:World->OsState->Option l4} (hr:∀w os x,r w os=some x->topRun treeTable p w m₀ ann N ⟨boot_heap w.params,Array.mk [],boot_drawn,boot_toks,os⟩ (topStub p)=some x)
  (ra:∀w os,(r w os).map (fun s₁=>staticsOk (a1Q p.main.body) (boot_heap w.params) s₁.heap&&namesBound p s₁.heap&&gensDone s₁&&laidKept (boot_heap w.params) s₁.heap)=some true)
  (rb:∀w os,(r w os).map (openSeen q loose (a1Q p.main.body) Xt true)=some (openGood q loose))
  (rc:∀w os,(r w os).map Yf=some (Ya w)) :
  LeftO p q loose Xt Yf Ya N:=fun w=>by
 obtain⟨⟨h,gs,d,k,os⟩,e1,e2⟩:=G8.mp (boot_open e hN f w)
 obtain⟨rfl,rfl,rfl,rfl⟩:h=boot_heap w.params/\gs=Array.mk []/\d=boot_drawn/\k=boot_toks:=by simpa using e2
 obtain⟨z1,z2,z3⟩:_/\_/\_:=by simpa only[Prod.mk.injEq]using size w
 obtain⟨s₁,r1,r3⟩:=G8.mp (ra w os)
 have rb:=rb w os
 have rc:=rc w os
 rw[r1]at rb rc
 have r1:=hr w os _ r1
 have r4:(openSeen q loose (a1Q p.main.body) Xt true s₁,Yf s₁)=(openGood q loose,Ya w):=Prod.ext (Option.some.inj rb) (Option.some.inj rc)
 have t:topFrom treeTable p w N ⟨boot_heap w.params,Array.mk [],boot_drawn,boot_toks,os⟩=some s₁:=by
  unfold topFrom
  dsimp only
  rw[z1,z2,z3,r1]
  show(match staticsOk (a1Q p.main.body) (boot_heap w.params) s₁.heap&&namesBound p s₁.heap&&gensDone s₁&&laidKept (boot_heap w.params) s₁.heap with | true=>some s₁ | false=>none)=_
  rw[r3]
 unfold openEnds
 rw[e1]
 show(topFrom treeTable p w N _).map _=_
 rw[t]
 exact congrArg some r4
abbrev a9C:Hook:=kHook K adr (fun _=>by kernel_rfl)
abbrev row:OpenLaw:=PySem.Challenge.rw_oncedone_k31_rows_done
def kZ(x q:Str)(st:Stmt):Obj:=⟨.none,none,.func { fnOf x q (a2q st) (a0H st) (o5 st) .none .none .none .none none .none .none with globals:=0 },#[]⟩
def kS(xs:List Value)(n:Nat):Obj:=⟨.type "tuple",none,.seq xs.toArray n,([]:List (Option Value)).toArray⟩
noncomputable section
def kk(a:Addr)(Q:Params):Obj:=((K Q).lookup a).getD (boot_o_4 Q)
def h1(Q:Params):List Obj:=[
boot_o_0 Q,
boot_o_1 Q,
boot_o_2 Q,
kD [kE Q "__name__" 165 (.str "oncedone.checks" 401),kE Q "__doc__" 166 .none,kE Q "__package__" 167 .none,kE Q "__loader__" 168 (.builtin "__main__.__loader__#opaque"),kE Q "__spec__" 169 .none,kE Q "__annotations__" 170 (.ref 6),kE Q "__builtins__" 171 (.ref 4),kE Q "__file__" 173 (.str "/claim/cut.py" 172),kE Q "__cached__" 174 .none,kE Q "_wall" 193 (.ref 21),kE Q "BOUND" 197 (.int (1000000000000) 196),kE Q "LETTERS" 199 (.str "abcdefghijklmnopqrstuvwxyz" 198),kE Q "FIGURES" 201 (.str "0123456789" 200),kE Q "LONGEST_NAME" 203 (.int (8) 202),kE Q "DEED_KINDS" 209 (.ref 22),kE Q "is_whole" 216 (.ref 29),kE Q "is_value" 223 (.ref 36),kE Q "is_name" 229 (.ref 41),kE Q "is_operand" 236 (.ref 48),kE Q "is_deed" 243 (.ref 55),kE Q "is_row" 252 (.ref 62),kE Q "worth_of" 262 (.ref 69),kE Q "worth" 273 (.ref 76),kE Q "set_by" 280 (.ref 83),kE Q "OnceError" 300 (.ref 93),kE Q "Wrong" 325 (.ref 113),kE Q "NoThing" 350 (.ref 132),kE Q "TooMany" 375 (.ref 151),kE Q "NoWay" 400 (.ref 170),kE Q "MOST" 404 (.int (400) 403),kE Q "is_below" 412 (.ref 179)] 31,
boot_o_4 Q,
boot_o_5 Q,
boot_o_6 Q,
boot_o_7 Q,
boot_o_8 Q,
boot_o_9 Q,
boot_o_10 Q,
kS [] 0,
⟨.none,none,.fields ([(.int (1) 0),(.int (0) 0),(.ref 20),(.int (10) 0),(.int (0) 0),(.ref 28),(.int (12) 0),(.int (0) 0),(.ref 35),(.int (14) 0),(.int (0) 0),(.ref 40),(.int (18) 0),(.int (0) 0),(.ref 47),(.int (20) 0),(.int (0) 0),(.ref 54),(.int (24) 0),(.int (0) 0),(.ref 61),(.int (39) 0),(.int (0) 0),(.ref 68),(.int (43) 0),(.int (0) 0),(.ref 75),(.int (56) 0),(.int (0) 0),(.ref 82),(.int (59) 0),(.int (0) 0),(.ref 89),(.int (61) 0),(.int (0) 0),(.ref 102),(.int (65) 0),(.int (0) 0),(.ref 121),(.int (69) 0),(.int (0) 0),(.ref 140),(.int (73) 0),(.int (0) 0),(.ref 159),(.int (79) 0),(.int (0) 0),(.ref 178)]:List Value).toArray,([]:List (Option Value)).toArray⟩,
⟨(.type "code"),none,.fields ([(.str "<module>" 182),(.str "<module>" 183),(.str "/claim/cut.py" 184),(.int (1) 0),(.int (0) 0),(.int (0) 0),(.int (0) 0),(.int (0) 0),(.ref 11),(.bool false),(.int (181) 0),(.ref 12),.none,.none,.none,.none,(.int (185) 0),(.int (1) 0),(.str "/claim/cut.py" 186)]:List Value).toArray,([]:List (Option Value)).toArray⟩,
⟨(.type "frame"),none,.plain,([some (.ref 13),some (.ref 3),some (.ref 3),none,some (.str "__main__" 164),none,some (.ref 0)]:List (Option Value)).toArray⟩,
kS [] 0,
⟨.none,none,.fields ([]:List Value).toArray,([]:List (Option Value)).toArray⟩,
kS [(.str "k" 190)] 0,
kS [] 0,
kZ "_wall" "_wall" (top 0),
kk 20 Q,
kk 21 Q,
kk 22 Q,
kS [] 0,
⟨.none,none,.fields ([]:List Value).toArray,([]:List (Option Value)).toArray⟩,
kS [(.str "thing" 213)] 0,
kS [] 0,
kZ "is_whole" "is_whole" (top 7),
kk 28 Q,
kk 29 Q,
kS [] 0,
⟨.none,none,.fields ([]:List Value).toArray,([]:List (Option Value)).toArray⟩,
kS [(.str "thing" 220)] 0,
kS [] 0,
kZ "is_value" "is_value" (top 8),
kk 35 Q,
kk 36 Q,
kS [] 0,
⟨.none,none,.fields ([]:List Value).toArray,([]:List (Option Value)).toArray⟩,
kZ "is_name" "is_name" (top 9),
kk 40 Q,
kk 41 Q,
kS [] 0,
⟨.none,none,.fields ([]:List Value).toArray,([]:List (Option Value)).toArray⟩,
kS [(.str "thing" 233)] 0,
kS [] 0,
kZ "is_operand" "is_operand" (top 10),
kk 47 Q,
kk 48 Q,
kS [] 0,
⟨.none,none,.fields ([]:List Value).toArray,([]:List (Option Value)).toArray⟩,
kS [(.str "thing" 240)] 0,
kS [] 0,
kZ "is_deed" "is_deed" (top 11),
kk 54 Q,
kk 55 Q,
kS [] 0,
⟨.none,none,.fields ([]:List Value).toArray,([]:List (Option Value)).toArray⟩,
kS [(.str "thing" 247),(.str "kind" 248),(.str "rest" 249)] 0,
kS [] 0,
kZ "is_row" "is_row" (top 12),
kk 61 Q,
kk 62 Q,
kS [] 0,
⟨.none,none,.fields ([]:List Value).toArray,([]:List (Option Value)).toArray⟩,
kS [(.str "operand" 258),(.str "store" 259)] 0,
kS [] 0,
kZ "worth_of" "worth_of" (top 14),
kk 68 Q,
kk 69 Q,
kS [] 0,
⟨.none,none,.fields ([]:List Value).toArray,([]:List (Option Value)).toArray⟩,
kS [(.str "deed" 266),(.str "store" 267),(.str "kind" 268),(.str "one" 269),(.str "other" 270)] 0,
kS [] 0,
kZ "worth" "worth" (top 15),
kk 75 Q,
kk 76 Q,
kS [] 0,
⟨.none,none,.fields ([]:List Value).toArray,([]:List (Option Value)).toArray⟩,
kS [(.str "row" 277)] 0,
kS [] 0,
kZ "set_by" "set_by" (top 16),
kk 82 Q,
kk 83 Q,
kS [(.type "ValueError")] 0,
⟨(.type "builtin_function_or_method"),none,.fields ([(.builtin "type.__prepare__"),(.type "type")]:List Value).toArray,([]:List (Option Value)).toArray⟩,
kD [kE Q "__module__" 290 (.str "oncedone.errors" 281),kE Q "__qualname__" 292 (.str "OnceError" 291),kE Q "__firstlineno__" 294 (.int (59) 293),kE Q "__static_attributes__" 295 (.ref 91)] 4,
kS [] 0,
⟨.none,none,.fields ([]:List Value).toArray,([]:List (Option Value)).toArray⟩,
⟨(.type "code"),none,.fields ([(.str "OnceError" 285),(.str "OnceError" 286),(.str "/claim/cut.py" 287),(.int (59) 0),(.int (0) 0),(.int (0) 0),(.int (0) 0),(.int (0) 0),(.ref 87),(.bool false),(.int (181) 0),(.ref 88),.none,.none,.none,.none,(.int (288) 0),(.int (59) 0),(.str "/claim/cut.py" 289)]:List Value).toArray,([]:List (Option Value)).toArray⟩,
⟨(.type "frame"),none,.plain,([some (.ref 89),some (.ref 3),some (.ref 86),none,some (.str "oncedone.errors" 281),none,some (.ref 0)]:List (Option Value)).toArray⟩,
kS [] 0,
kk 92 Q,
kk 93 Q,
⟨(.type "getset_descriptor"),none,.fields ([(.str "__weakref__" 296),(.ref 93),(.builtin "ExceptionGroup.__weakref__"),.none]:List Value).toArray,([]:List (Option Value)).toArray⟩,
⟨(.type "super"),none,.fields ([(.ref 93),(.ref 93),(.ref 93)]:List Value).toArray,([]:List (Option Value)).toArray⟩,
⟨(.type "builtin_function_or_method"),none,.fields ([(.builtin "object.__init_subclass__"),(.ref 93)]:List Value).toArray,([]:List (Option Value)).toArray⟩,
kS [(.ref 93)] 0,
⟨(.type "builtin_function_or_method"),none,.fields ([(.builtin "type.__prepare__"),(.type "type")]:List Value).toArray,([]:List (Option Value)).toArray⟩,
kD [kE Q "__module__" 308 (.str "oncedone.errors" 281),kE Q "__qualname__" 310 (.str "Wrong" 309),kE Q "__firstlineno__" 312 (.int (61) 311),kE Q "__init__" 320 (.ref 110),kE Q "__static_attributes__" 322 (.ref 111)] 5,
kS [] 0,
⟨.none,none,.fields ([(.int (63) 0),(.int (4) 0),(.ref 109)]:List Value).toArray,([]:List (Option Value)).toArray⟩,
⟨(.type "code"),none,.fields ([(.str "Wrong" 303),(.str "Wrong" 304),(.str "/claim/cut.py" 305),(.int (61) 0),(.int (0) 0),(.int (0) 0),(.int (0) 0),(.int (0) 0),(.ref 100),(.bool false),(.int (181) 0),(.ref 101),.none,.none,.none,.none,(.int (306) 0),(.int (61) 0),(.str "/claim/cut.py" 307)]:List Value).toArray,([]:List (Option Value)).toArray⟩,
⟨(.type "frame"),none,.plain,([some (.ref 102),some (.ref 3),some (.ref 99),none,some (.str "oncedone.errors" 281),none,some (.ref 0)]:List (Option Value)).toArray⟩,
kS [] 0,
⟨.none,none,.fields ([]:List Value).toArray,([]:List (Option Value)).toArray⟩,
kS [(.str "self" 316),(.str "at" 317)] 0,
kS [] 0,
kZ "__init__" "Wrong.__init__" (V4 (top 19) 0),
kk 109 Q,
kk 110 Q,
kS [(.str "at" 321)] 0,
kk 112 Q,
kk 113 Q,
⟨(.type "super"),none,.fields ([(.ref 113),(.ref 113),(.ref 113)]:List Value).toArray,([]:List (Option Value)).toArray⟩,
⟨(.type "builtin_function_or_method"),none,.fields ([(.builtin "object.__init_subclass__"),(.ref 113)]:List Value).toArray,([]:List (Option Value)).toArray⟩,
kS [(.ref 93)] 0,
⟨(.type "builtin_function_or_method"),none,.fields ([(.builtin "type.__prepare__"),(.type "type")]:List Value).toArray,([]:List (Option Value)).toArray⟩,
kD [kE Q "__module__" 333 (.str "oncedone.errors" 281),kE Q "__qualname__" 335 (.str "NoThing" 334),kE Q "__firstlineno__" 337 (.int (65) 336),kE Q "__init__" 345 (.ref 129),kE Q "__static_attributes__" 347 (.ref 130)] 5,
kS [] 0,
⟨.none,none,.fields ([(.int (67) 0),(.int (4) 0),(.ref 128)]:List Value).toArray,([]:List (Option Value)).toArray⟩,
⟨(.type "code"),none,.fields ([(.str "NoThing" 328),(.str "NoThing" 329),(.str "/claim/cut.py" 330),(.int (65) 0),(.int (0) 0),(.int (0) 0),(.int (0) 0),(.int (0) 0),(.ref 119),(.bool false),(.int (181) 0),(.ref 120),.none,.none,.none,.none,(.int (331) 0),(.int (65) 0),(.str "/claim/cut.py" 332)]:List Value).toArray,([]:List (Option Value)).toArray⟩,
⟨(.type "frame"),none,.plain,([some (.ref 121),some (.ref 3),some (.ref 118),none,some (.str "oncedone.errors" 281),none,some (.ref 0)]:List (Option Value)).toArray⟩,
kS [] 0,
⟨.none,none,.fields ([]:List Value).toArray,([]:List (Option Value)).toArray⟩,
kS [(.str "self" 341),(.str "at" 342)] 0,
kS [] 0,
kZ "__init__" "NoThing.__init__" (V4 (top 20) 0),
kk 128 Q,
kk 129 Q,
kS [(.str "at" 346)] 0,
kk 131 Q,
kk 132 Q,
⟨(.type "super"),none,.fields ([(.ref 132),(.ref 132),(.ref 132)]:List Value).toArray,([]:List (Option Value)).toArray⟩,
⟨(.type "builtin_function_or_method"),none,.fields ([(.builtin "object.__init_subclass__"),(.ref 132)]:List Value).toArray,([]:List (Option Value)).toArray⟩,
kS [(.ref 93)] 0,
⟨(.type "builtin_function_or_method"),none,.fields ([(.builtin "type.__prepare__"),(.type "type")]:List Value).toArray,([]:List (Option Value)).toArray⟩,
kD [kE Q "__module__" 358 (.str "oncedone.errors" 281),kE Q "__qualname__" 360 (.str "TooMany" 359),kE Q "__firstlineno__" 362 (.int (69) 361),kE Q "__init__" 370 (.ref 148),kE Q "__static_attributes__" 372 (.ref 149)] 5,
kS [] 0,
⟨.none,none,.fields ([(.int (71) 0),(.int (4) 0),(.ref 147)]:List Value).toArray,([]:List (Option Value)).toArray⟩,
⟨(.type "code"),none,.fields ([(.str "TooMany" 353),(.str "TooMany" 354),(.str "/claim/cut.py" 355),(.int (69) 0),(.int (0) 0),(.int (0) 0),(.int (0) 0),(.int (0) 0),(.ref 138),(.bool false),(.int (181) 0),(.ref 139),.none,.none,.none,.none,(.int (356) 0),(.int (69) 0),(.str "/claim/cut.py" 357)]:List Value).toArray,([]:List (Option Value)).toArray⟩,
⟨(.type "frame"),none,.plain,([some (.ref 140),some (.ref 3),some (.ref 137),none,some (.str "oncedone.errors" 281),none,some (.ref 0)]:List (Option Value)).toArray⟩,
kS [] 0,
⟨.none,none,.fields ([]:List Value).toArray,([]:List (Option Value)).toArray⟩,
kS [(.str "self" 366),(.str "most" 367)] 0,
kS [] 0,
kZ "__init__" "TooMany.__init__" (V4 (top 21) 0),
kk 147 Q,
kk 148 Q,
kS [(.str "most" 371)] 0,
kk 150 Q,
kk 151 Q,
⟨(.type "super"),none,.fields ([(.ref 151),(.ref 151),(.ref 151)]:List Value).toArray,([]:List (Option Value)).toArray⟩,
⟨(.type "builtin_function_or_method"),none,.fields ([(.builtin "object.__init_subclass__"),(.ref 151)]:List Value).toArray,([]:List (Option Value)).toArray⟩,
kS [(.ref 93)] 0,
⟨(.type "builtin_function_or_method"),none,.fields ([(.builtin "type.__prepare__"),(.type "type")]:List Value).toArray,([]:List (Option Value)).toArray⟩,
kD [kE Q "__module__" 383 (.str "oncedone.errors" 281),kE Q "__qualname__" 385 (.str "NoWay" 384),kE Q "__firstlineno__" 387 (.int (73) 386),kE Q "__init__" 395 (.ref 167),kE Q "__static_attributes__" 397 (.ref 168)] 5,
kS [] 0,
⟨.none,none,.fields ([(.int (75) 0),(.int (4) 0),(.ref 166)]:List Value).toArray,([]:List (Option Value)).toArray⟩,
⟨(.type "code"),none,.fields ([(.str "NoWay" 378),(.str "NoWay" 379),(.str "/claim/cut.py" 380),(.int (73) 0),(.int (0) 0),(.int (0) 0),(.int (0) 0),(.int (0) 0),(.ref 157),(.bool false),(.int (181) 0),(.ref 158),.none,.none,.none,.none,(.int (381) 0),(.int (73) 0),(.str "/claim/cut.py" 382)]:List Value).toArray,([]:List (Option Value)).toArray⟩,
⟨(.type "frame"),none,.plain,([some (.ref 159),some (.ref 3),some (.ref 156),none,some (.str "oncedone.errors" 281),none,some (.ref 0)]:List (Option Value)).toArray⟩,
kS [] 0,
⟨.none,none,.fields ([]:List Value).toArray,([]:List (Option Value)).toArray⟩,
kS [(.str "self" 391),(.str "at" 392)] 0,
kS [] 0,
kZ "__init__" "NoWay.__init__" (V4 (top 22) 0),
kk 166 Q,
kk 167 Q,
kS [(.str "at" 396)] 0,
kk 169 Q,
kk 170 Q,
⟨(.type "super"),none,.fields ([(.ref 170),(.ref 170),(.ref 170)]:List Value).toArray,([]:List (Option Value)).toArray⟩,
⟨(.type "builtin_function_or_method"),none,.fields ([(.builtin "object.__init_subclass__"),(.ref 170)]:List Value).toArray,([]:List (Option Value)).toArray⟩,
kS [] 0,
⟨.none,none,.fields ([]:List Value).toArray,([]:List (Option Value)).toArray⟩,
kS [(.str "thing" 408),(.str "many" 409)] 0,
kS [] 0,
kZ "is_below" "is_below" (top 25),
kk 178 Q,
kk 179 Q]
abbrev bd:List Stmt:=behindTheImports P
abbrev en:Env:={ scope:=P.main.scope,locals:=mainNs,globals:=mainNs,cells:=[],code:=(.ref 13),frame:=some 14 }
abbrev cE:Code:=.body bd en
abbrev fB:List Frame:=[topFrame ⟨0,0,0,0⟩]
abbrev s0(w:World)(os:OsState):l4:=⟨boot_heap w.params,Array.mk [],boot_drawn,boot_toks,os⟩
def sa(w:World)(os:OsState):l4:=((topGo treeTable P w 11 (some (.ref 6)) 12 (s0 w os) (topStub P)).map (·.1)).getD (s0 w os)
abbrev s1(w:World)(os:OsState):l4:=⟨⟨Array.mk (h1 w.params),(boot_heap w.params).life⟩,Array.mk [],boot_drawn,413,os⟩
abbrev rn(w:World)(os:OsState):Option l4:=PySem.W.Fast.tw14082659384304107361 PySem.W.Fast.tw14364793385576792824 P w 11 (some (.ref 6)) 5598 (s1 w os) (restOf (bd.drop 26) en cE ⟨79,0,80,48⟩ fB)
end
theorem c7Q(w:World)(os:OsState):topGo treeTable P w 11 (some (.ref 6)) 12 (s0 w os) (topStub P)=some (sa w os,⟨denote treeTable cE,cE,⟨0,0,0,0⟩,fB⟩):=by kernel_rfl
theorem c7P(w:World)(os:OsState):segRun treeTable P w 11 (some (.ref 6)) 1 1 (sa w os) (blockOf bd en cE ⟨0,0,0,0⟩ fB)=some (.next,sa w os,cE,⟨0,0,0,0⟩):=by kernel_rfl
theorem c7O(w:World)(os:OsState):segRun treeTable P w 11 (some (.ref 6)) 1 1587 (sa w os) (piecesOf (bd.take 26) en cE ⟨0,0,0,0⟩ fB)=some (.next,s1 w os,cE,⟨79,0,80,48⟩):=by kernel_rfl
theorem c7N(w:World)(os:OsState)(x:l4)(h:rn w os=some x):topRun treeTable P w 11 (some (.ref 6)) 7198 (s0 w os) (topStub P)=some x:=by
 have h:topRun treeTable P w 11 (some (.ref 6)) 5598 (s1 w os) (restOf (bd.drop 26) en cE ⟨79,0,80,48⟩ fB)=some x:=by rw[PySem.W.Fast.te14082659384304107361,PySem.W.Fast.te14364793385576792824];exact h
 have h:=piece_app (c7O w os) h
 rw[List.take_append_drop]at h
 exact go_top (c7Q w os) (piece_block (c7P w os) h)
theorem c5y(w:World)(os:OsState):(rn w os).map (fun s₁=>staticsOk (a1Q P.main.body) (boot_heap w.params) s₁.heap&&namesBound P s₁.heap&&gensDone s₁&&laidKept (boot_heap w.params) s₁.heap)=some true:=by kernel_rfl
theorem c5x(w:World)(os:OsState):(rn w os).map (PySem.W.Fast.tw4187177175401517315 q loose (a1Q P.main.body) (fun s=>xlAt q [] s&&recOk (RowW.records row.row.toRowW) s) true)=some (openGood q loose):=by kernel_rfl
theorem c2A(w:World)(os:OsState):(rn w os).map (fun s=>c5V.map s.heap.get?)=some ((K1 w.params).map fun p=>some p.2):=by kernel_rfl
theorem c2z(w:World)(os:OsState):(rn w os).map (fun s=>c2W.map s.heap.get?)=some ((K2 w.params).map fun p=>some p.2):=by kernel_rfl
theorem c2y(w:World)(os:OsState):(rn w os).map (fun s=>c2V.map s.heap.get?)=some ((K3 w.params).map fun p=>some p.2):=by kernel_rfl
theorem c2x(w:World)(os:OsState):(rn w os).map (fun s=>c2U.map s.heap.get?)=some ((K4 w.params).map fun p=>some p.2):=by kernel_rfl
theorem c5w(w:World)(os:OsState):(rn w os).map (Hook.obs a9C)=some (Hook.val a9C w):=by
 obtain⟨s,h1,h2⟩:=G8.mp (c2A w os)
 have h3:=c2z w os
 have h4:=c2y w os
 have h5:=c2x w os
 rw[h1]at h3 h4 h5 ⊢
 have h3:c2W.map s.heap.get? = _:=Option.some.inj h3
 have h4:c2V.map s.heap.get? = _:=Option.some.inj h4
 have h5:c2U.map s.heap.get? = _:=Option.some.inj h5
 show some ((c5V++(c2W++(c2V++c2U))).map s.heap.get?)=some ((K1 w.params++(K2 w.params++(K3 w.params++K4 w.params))).map fun p=>some p.2)
 rw[E2,E2,E2,E2,E2,E2,h2,h3,h4,h5]
theorem left:LeftO P q loose (fun s=>xlAt q [] s&&recOk (RowW.records row.row.toRowW) s) (Hook.obs a9C) (Hook.val a9C) 7198:=
 c0m (m₀:=11) (ann:=(some (.ref 6))) (r:=rn) (by kernel_rfl) (by kernel_rfl) (fun s=>by kernel_rfl) (fun w=>by kernel_rfl) c7N c5y (by rw[PySem.W.Fast.te4187177175401517315];exact c5x) c5w
theorem c6u:row.wellSaid=true:=by
 rw[PySem.W.Fast.te9446332074065402090]
 kernel_rfl
theorem fin(hc:∀d:DefRec,d.name = "law" -> d.params.defaults=[]->WalkO q loose (XL q []) (Hook.says a9C) row.row.toRowW d [] (fun f vs=>b2c f vs)):row.Holds:=by
 refine holds_law (l:=row) c6u fun said=>?_
 refine holds_open (q:=q) (loose:=loose) (Xt:=fun s=>xlAt q [] s&&recOk (RowW.records row.row.toRowW) s) (XP:=XL q []) (Yf:=Hook.obs a9C) (Ya:=Hook.val a9C) (YP:=Hook.says a9C) (N:=7198) left (Hook.of a9C) (Hook.keeps a9C) (fun s e=>xl_of s (b7Z.mp e).1) XL.keeps (by rfl) (by rfl) (by rfl) (fun s e=>recFacts_of (b7Z.mp e).2) (by rfl) said (by decide +kernel) ⟨rfl,rfl,rfl,rfl,rfl,by decide +kernel⟩ ?hw (hc _ rfl rfl)
 case hw=>w_witness2
end HD
set_option Elab.async false
set_option linter.all false
set_option maxRecDepth 100000
namespace L2
open PySem PySem.Spec PyProof.Rows
variable{us:List Value}{i t':Nat}{u:Value}{C a b dx f:Addr}{w:World}{h h':Heap}{pins:List (Addr×Obj)}{s:l4}{c e tg:Expr}{p pos:Pos}{Q:Value->l4->Prop}{es:List Expr}{ps:List Str}{m:Str->Option Value}
abbrev Key:=Sum Int Str
def a8U:Key->Value->Bool
 | .inl k,v=>Value.isInt k v
 | .inr x,v=>Value.isStrOf x v
def c7L(w:World):Key->Int
 | .inl k=>hashInt k
 | .inr x=>hashStr w x
theorem T2:∀ {k:Key} {v:Value},a8U k v=true->(∃i t,k=Sum.inl i/\v=Value.int i t)\/(∃x t,k=Sum.inr x/\v=Value.str x t)
 | .inl i,v,h=>by
  obtain⟨t,e⟩:=Value.isInt_shape (k:=i) (v:=v) h
  exact .inl ⟨i,t,rfl,e⟩
 | .inr x,v,h=>by
  obtain⟨t,e⟩:=Value.isStrOf_shape (x:=x) (v:=v) h
  exact .inr ⟨x,t,rfl,e⟩
theorem b7n(i:Int)(t:Tok):a8U (.inl i) (.int i t)=true:=by simp[a8U,Value.isInt]
theorem b7m(x:Str)(t:Tok):a8U (.inr x) (.str x t)=true:=by simp[a8U,Value.isStrOf]
theorem c5E(a b:Int):decide ((Sum.inl a:Key)=Sum.inl b)=(a == b):=by
 by_cases e:a=b
 ·subst e;simp
 ·have h:¬(Sum.inl a:Key)=Sum.inl b:=fun q=>e (Sum.inl.inj q)
  rw[c9r h]
  exact(beq_eq_false_iff_ne.mpr e).symm
theorem c5B(a b:Str):decide ((Sum.inr a:Key)=Sum.inr b)=decide (a=b):=by
 by_cases e:a=b
 ·subst e;simp
 ·have h:¬(Sum.inr a:Key)=Sum.inr b:=fun q=>e (Sum.inr.inj q)
  rw[c9r h,c9r e]
theorem c5D(a:Int)(b:Str):decide ((Sum.inl a:Key)=Sum.inr b)=false:=c9r (fun q=>nomatch q)
theorem c5C(a:Str)(b:Int):decide ((Sum.inr a:Key)=Sum.inl b)=false:=c9r (fun q=>nomatch q)
def O9(prog:D6)(w:World):PySem.KeyKind prog w Key where
 is:=a8U
 hash:=c7L w
 inj:=fun v a b ha hb=>by
  rcases T2 ha with ⟨i,t,rfl,rfl⟩ | ⟨x,t,rfl,rfl⟩
  ·rcases T2 hb with ⟨j,u,rfl,e⟩ | ⟨y,u,rfl,e⟩
   ·injection e with e1 _;rw[e1]
   ·exact nomatch e
  ·rcases T2 hb with ⟨j,u,rfl,e⟩ | ⟨y,u,rfl,e⟩
   ·exact nomatch e
   ·injection e with e1 _;rw[e1]
 byValue:=fun k v h=>by
  rcases T2 h with ⟨i,t,rfl,rfl⟩ | ⟨x,t,rfl,rfl⟩ <;> rfl
 pyHash:=fun hv h=>by
  rcases T2 hv with ⟨i,t,rfl,rfl⟩ | ⟨x,t,rfl,rfl⟩
  ·exact wpAny_pyHash_int h
  ·exact wpAny_pyHash_str h
 eqBool:=fun hu hv h=>by
  rcases T2 hu with ⟨i,t,rfl,rfl⟩ | ⟨x,t,rfl,rfl⟩
  ·rcases T2 hv with ⟨j,u,rfl,rfl⟩ | ⟨y,u,rfl,rfl⟩
   ·rw[c5E]at h;exact wpAny_eqBool_int h
   ·rw[c5D]at h;exact SeqAt.EqAt.int_str i t y u _ _ _ _ h
  ·rcases T2 hv with ⟨j,u,rfl,rfl⟩ | ⟨y,u,rfl,rfl⟩
   ·rw[c5C]at h;exact SeqAt.EqAt.str_int x t j u _ _ _ _ h
   ·rw[c5B]at h;exact wpAny_eqBool_str h
 «strs» := fun k x t v h=>by
  rcases T2 h with ⟨i,u,rfl,e⟩ | ⟨y,u,rfl,e⟩
  ·exact nomatch e
  ·injection e with e1 _
   subst e1
   cases v <;> rfl
theorem b3d(prog:D6)(w:World)(i:Int)(t:Tok):(O9 prog w).is (.inl i) (.int i t)=true:=b7n i t
theorem b3c(prog:D6)(w:World)(x:Str)(t:Tok):(O9 prog w).is (.inr x) (.str x t)=true:=b7m x t
inductive V where
 | non | bl (b:Bool) | int (i:Int) | str (x:Str) | byt (b:Array UInt8) | flt (b:UInt64) | ref (a:Addr) | ty (n:String)
 deriving DecidableEq
variable{v y:V}{xs:List V}{kvs:List (Key×V)}
def F1:V->Value->Prop
 | .non,u=>u=Value.none
 | .bl b,u=>u=Value.bool b
 | .int i,u=>∃t,u=Value.int i t
 | .str x,u=>∃t,u=Value.str x t
 | .byt b,u=>∃t,u=Value.bytes b t
 | .flt b,u=>∃t,u=Value.float b t
 | .ref a,u=>u=Value.ref a
 | .ty n,u=>u=Value.type n
abbrev G6:List V->List Value->Prop:=Paired F1
theorem G6.length(r:G6 xs us):xs.length=us.length:=Paired.length r
theorem G6.get:∀ {xs:List V} {us:List Value} {i:Nat} {x:V},G6 xs us->xs[i]? = some x->∃u,us[i]? = some u/\F1 x u
 | _,_,_,_,.nil,e=>by simp at e
 | _,_,0,_,.cons r _,e=>by simp at e;subst e;exact⟨_,rfl,r⟩
 | _,_,i+1,x,.cons _ t,e=>by
  obtain⟨u,h1,h2⟩:=G6.get (i:=i) (x:=x) t (by simpa using e)
  exact⟨u,by simpa using h1,h2⟩
theorem G6.set{x:V}(r:F1 x u):∀ {xs:List V} {us:List Value} (i:Nat),G6 xs us->G6 (xs.set i x) (us.set i u)
 | _,_,_,.nil=>.nil
 | _,_,0,.cons _ t=>.cons r t
 | _,_,i+1,.cons q t=>.cons q (G6.set r i t)
theorem G6.append:∀ {xs ys:List V} {us ws:List Value},G6 xs us->G6 ys ws->G6 (xs++ys) (us++ws)
 | _,_,_,_,.nil,s=>s
 | _,_,_,_,.cons r t,s=>.cons r (G6.append t s)
theorem G6.take:∀ {xs:List V} {us:List Value} (n:Nat),G6 xs us->G6 (xs.take n) (us.take n)
 | _,_,0,_=>.nil
 | _,_,_+1,.nil=>.nil
 | _,_,n+1,.cons r t=>.cons r (G6.take n t)
theorem G6.drop:∀ {xs:List V} {us:List Value} (n:Nat),G6 xs us->G6 (xs.drop n) (us.drop n)
 | _,_,0,r=>r
 | _,_,_+1,.nil=>.nil
 | _,_,n+1,.cons _ t=>G6.drop n t
def a3H:Option V->Option Value->Prop
 | some v,some u=>F1 v u
 | none,none=>True
 | _,_=>False
def KV{κ:Type}:List (κ×V)->List (κ×Value)->Prop:=Paired fun(p:κ×V) (q:κ×Value)=>p.1=q.1/\F1 p.2 q.2
def kV:Key->V
 | .inl i=>.int i
 | .inr x=>.str x
inductive HO where
 /-- a list -/
 | lst (xs:List V)
 /-- a tuple (never changes) -/
 | tup (xs:List V)
 /-- a dict whose keys are ints and texts;one whose keys are tuples of ints and texts (the empty one is both) -/
 | dK (kvs:List (Key×V)) | dT (kvs:List (List Key×V))
 /-- a set of ints: its members,its size -/
 | set (S:Int->Bool) (n:Nat)
 /-- an instance of the class at C,its dict at dx,its attributes -/
 | ins (C dx:Addr) (fs:List (Str×V))
 /-- the dict of the instance at x -/
 | own (x:Addr)
 /-- the dict of an exception -/
 | xd (fs:List (Str×V))
 /-- a bound method,f of x -/
 | met (f x:Addr)
 /-- a range object lo,lo+1,.. below hi -/
 | rng (lo hi:Int)
 /-- a thing that is known to the object (the script;a dict while a loop walks it): read,never written while it is so -/
 | frz (o:Obj) (u:HO)
 /-- a code object's table -/
 | tbl (ps:Array Value)
 /-- any other thing,by what is true of its one object (a def of one's own: SetO a S n:=HO.ext fun h=>..) -/
 | ext (φ:Heap->Prop)
variable{o:HO}
abbrev Hp:=Addr->Option HO
variable{H H':Hp}
def upd(H:Hp)(a:Addr)(o:HO):Hp:=fun b=>if b=a then some o else H b
theorem f6:upd H a o a=some o:=by unfold upd;rw[if_pos rfl]
theorem d6(h:b≠a):upd H a o b=H b:=by unfold upd;rw[if_neg h]
theorem b0G{u:HO}:upd (upd H a o) a u=upd H a u:=by
 funext b;unfold upd;split <;> rfl
theorem F6{u:HO}(h:H a=some o)(h':H b=some u)(d:o≠u):a≠b:=by
 intro e;subst e;rw[h]at h';exact d (Option.some.inj h')
theorem d3(h:H a=some o)(h':H b=none):a≠b:=by
 intro e;subst e;rw[h]at h';cases h'
section
variable (P:D6)(w:World)
def W4(H:Hp)(h:Heap)(a:Addr):HO->Prop
 | .lst xs=>xs.length<=u8/\∃(its:List Value) (n:Nat),G6 xs its/\h.get? a=some { cls:=.type "list",data:=.seq its.toArray n }
 | .tup xs=>xs.length<=u8/\∃its:List Value,G6 xs its/\IsTup h a its.toArray
 | .dK kvs=>kvs.length<=u8/\(a == a0o)=false/\∃vs,KV kvs vs/\h.DictOf (O9 P w) a vs
 | .dT kvs=>kvs.length<=u8/\(a == a0o)=false/\∃xs:List (List Key×Addr×Value),
   Paired (fun(p:List Key×V) (q:List Key×Addr×Value)=>p.1=q.1/\H q.2.1=some (.tup (p.1.map kV))/\F1 p.2 q.2.2) kvs xs /\
   ∃o es ep,h.get? a=some o/\o.ExactDict/\o.data=.dict es ep/\es.toList=xs.map (entryOfKey (b2n (O9 P w)))/\(xs.map (·.1)).Nodup
 | .set S n=>h.SetOf (intKind P w) a S n
 | .ins C dx fs=>H dx=some (.own a)/\fs.length<=1000/\dx≠a/\h.get? a=some (V8 C dx) /\
   ∃mA,h.Ns1 dx mA/\(∀f,a3H (fs.lookup f) (mA f))/\PySem.Within mA (fs.map (·.1))
 | .own _=>∃o,h.get? a=some o
 | .xd fs=>∃mA,h.Ns1 a mA/\∀f,a3H (fs.lookup f) (mA f)
 | .rng lo hi=>∃t u v,h.get? a=some { cls:=.type "range",data:=.fields #[.int lo t,.int hi u,.int 1 v] }
 | .frz o u=>h.get? a=some o/\W4 H h a u
 | .tbl ps=>h.get? a=some { cls:=.none,data:=.fields ps }
 | .met f x=>h.get? a=some (a6V (.ref f) (.ref x))
 | .ext φ=>φ h/\(∃o,h.get? a=some o)/\∀h1 h2:Heap,φ h1->(∀o,h1.get? a=some o->h2.get? a=some o)->φ h2
def HOk(H:Hp)(h:Heap):Prop:=∀a o,H a=some o->W4 P w H h a o
end
section
variable {P:D6}
theorem W4.lt(x:W4 P w H h a o):a<h.objs.size:=by
 cases o with
 | lst xs=>obtain⟨_,_,_,_,e⟩:=x;exact o6 e
 | tup xs=>obtain⟨_,_,_,p⟩:=x;exact p.lt
 | dK kvs=>obtain⟨_,_,_,_,o,_,_,e,_⟩:=x;exact o6 e
 | dT kvs=>obtain⟨_,_,_,_,o,_,_,e,_⟩:=x;exact o6 e
 | set S n=>obtain⟨o,_,_,_,e,_⟩:=x;exact o6 e
 | ins C dx fs=>obtain⟨_,_,_,e,_⟩:=x;exact o6 e
 | own y=>obtain⟨_,e⟩:=x;exact o6 e
 | xd fs=>obtain⟨_,⟨_,_,_,e,_⟩,_⟩:=x;exact o6 e
 | rng lo hi=>obtain⟨_,_,_,e⟩:=x;exact o6 e
 | frz ob u=>obtain⟨e,_⟩:=x;exact o6 e
 | tbl ps=>exact o6 (show h.get? a=some _ from x)
 | met f y=>exact o6 (show h.get? a=some _ from x)
 | ext φ=>obtain⟨_,⟨_,e⟩,_⟩:=x;exact o6 e
theorem Paired.mapP{α β:Type}{F G:α->β->Prop}:∀ {l₁:List α} {l₂:List β},Paired F l₁ l₂->(∀a b,F a b->G a b)->Paired G l₁ l₂
 | _,_,.nil,_=>.nil
 | _,_,.cons r t,f=>.cons (f _ _ r) (Paired.mapP t f)
theorem W4.stay(x:W4 P w H h a o)(k:∀b u,(b=a\/H b=some (.own a))->h.get? b=some u->h'.get? b=some u)
  (ho:∀b,H b=some (.own a)->H' b=some (.own a)) (ht:∀b xs,H b=some (.tup xs)->H' b=some (.tup xs)):W4 P w H' h' a o:=by
 induction o with
 | lst xs=>obtain⟨z,its,n,r,e⟩:=x;exact⟨z,its,n,r,k _ _ (.inl rfl) e⟩
 | tup xs=>obtain⟨z,its,r,ob,e,c⟩:=x;exact⟨z,its,r,ob,k _ _ (.inl rfl) e,c⟩
 | dK kvs=>obtain⟨z,y,vs,r,ob,es,ep,e,c⟩:=x;exact⟨z,y,vs,r,ob,es,ep,k _ _ (.inl rfl) e,c⟩
 | dT kvs=>
  obtain⟨z,y,xs,r,ob,es,ep,e,c⟩:=x
  exact⟨z,y,xs,Paired.mapP r fun p q z=>⟨z.1,ht _ _ z.2.1,z.2.2⟩,ob,es,ep,k _ _ (.inl rfl) e,c⟩
 | set S n=>obtain⟨ob,es,ep,t,e,c⟩:=x;exact⟨ob,es,ep,t,k _ _ (.inl rfl) e,c⟩
 | ins C dx fs=>
  obtain⟨d,z,ne,e,mA,⟨od,es,ep,e2,c⟩,r⟩:=x
  exact⟨ho _ d,z,ne,k _ _ (.inl rfl) e,mA,⟨od,es,ep,k _ _ (.inr d) e2,c⟩,r⟩
 | own y=>obtain⟨ob,e⟩:=x;exact⟨ob,k _ _ (.inl rfl) e⟩
 | xd fs=>obtain⟨mA,⟨od,es,ep,e,c⟩,r⟩:=x;exact⟨mA,⟨od,es,ep,k _ _ (.inl rfl) e,c⟩,r⟩
 | rng lo hi=>obtain⟨t,u,v,e⟩:=x;exact⟨t,u,v,k _ _ (.inl rfl) e⟩
 | frz ob u ih=>obtain⟨e,q⟩:=x;exact⟨k _ _ (.inl rfl) e,ih q⟩
 | tbl ps=>
  have e:h.get? a=some { cls:=.none,data:=.fields ps }:=x
  show h'.get? a=some { cls:=.none,data:=.fields ps }
  exact k a _ (.inl rfl) e
 | met f y=>
  have e:h.get? a=some (a6V (.ref f) (.ref y)):=x
  show h'.get? a=some (a6V (.ref f) (.ref y))
  exact k a _ (.inl rfl) e
 | ext φ=>obtain⟨p,⟨o,e⟩,st⟩:=x;exact⟨st _ _ p fun o q=>k _ _ (.inl rfl) q,⟨o,k _ _ (.inl rfl) e⟩,st⟩
theorem HOk.lt(x:HOk P w H h)(e:H a=some o):a<h.objs.size:=(x a o e).lt
theorem HOk.fresh(x:HOk P w H h)(e:h.objs.size<=a):H a=none:=by
 cases q:H a with
 | none=>rfl
 | some u=>exact absurd (D4 (x.lt q) e) (L1 _)
theorem HOk.kept(x:HOk P w H h)(k:∀b u,h.get? b=some u->h'.get? b=some u):HOk P w H h':=fun a o e=>
 (x a o e).stay (fun b u _ q=>k b u q) (fun _ q=>q) fun _ _ q=>q
theorem HOk.laid(x:HOk P w H h)(k:∀b u,h.get? b=some u->h'.get? b=some u)(hp:h.objs.size<=a)(new:W4 P w (upd H a o) h' a o):HOk P w (upd H a o) h':=fun b u e=>by
 have hn:=x.fresh hp
 by_cases hb:b=a
 ·subst hb;rw[f6]at e;cases e;exact new
 ·rw[d6 hb]at e
  exact(x b u e).stay (fun c v _ q=>k c v q) (fun c q=>by rw[d6 (d3 q hn)];exact q) fun c xs q=>by rw[d6 (d3 q hn)];exact q
end
def Rd(H:Hp)(a:Addr)(u:HO):Prop:=H a=some u\/∃o,H a=some (.frz o u)
theorem Rd.ok{P:D6}{u:HO}(r:Rd H a u)(x:HOk P w H h):W4 P w H h a u:=by
 rcases r with r | ⟨o,r⟩
 ·exact x a u r
 ·obtain⟨_,q⟩:=x a _ r
  exact q
def Mut:Option HO->Prop
 | some (.lst _)=>True
 | some (.dK _)=>True
 | some (.dT _)=>True
 | some (.set _ _)=>True
 | some (.ins _ _ _)=>True
 | some (.ext _)=>True
 | _=>False
section
variable {P:D6}{x e:Addr}{o':HO}
theorem HOk.write(ok:HOk P w H h)(mu:Mut (H x))(he:e=x\/H e=some (.own x))(k:∀b u,b≠e->h.get? b=some u->h'.get? b=some u)(heo:∃u,h'.get? e=some u)
  (new:W4 P w (upd H x o') h' x o'):HOk P w (upd H x o') h':=fun b u q=>by
 have nown:∀c y,H c=some (.own y)->c≠x:=fun c y r z=>by subst z;rw[r]at mu;exact mu
 have ntup:∀c xs,H c=some (.tup xs)->c≠x:=fun c xs r z=>by subst z;rw[r]at mu;exact mu
 by_cases hb:b=x
 ·subst hb;rw[f6]at q;cases q;exact new
 ·rw[d6 hb]at q
  by_cases hbe:b=e
  ·have q':H b=some (.own x):=by
    rcases he with z | z
    ·exact absurd (hbe.trans z) hb
    ·rw[hbe];exact z
   rw[q]at q';cases q'
   obtain⟨v,hv⟩:=heo
   exact⟨v,by rw[hbe];exact hv⟩
  ·refine(ok b u q).stay (fun c v hc r=>k c v ?_ r) (fun c r=>by rw[d6 (nown c b r)];exact r) fun c xs r=>by rw[d6 (ntup c xs r)];exact r
   rcases hc with rfl | hc
   ·exact hbe
   ·rintro rfl
    rcases he with z | z
    ·exact nown c b hc z
    ·rw[hc]at z;cases z;exact hb rfl
end
structure Un(fs ex:List Addr)(H H':Hp)(h h':Heap):Prop where
 keep:∀b o,h.get? b=some o->H b=none->b∉fs->b∉ex->h'.get? b=some o
 slot:∀b o,h.get? b=some o->H b=none->b∈fs->b∉ex->∃sl,h'.get? b=some { o with slots:=sl }
 free:∀b o,h.get? b=some o->H b=none->b∉ex->H' b=none
 there:∀b o,h.get? b=some o->b∉ex->∃o',h'.get? b=some o'
 tups:∀b xs,H b=some (.tup xs)->H' b=some (.tup xs)
 frzs:∀b o u,H b=some (.frz o u)->H' b=some (.frz o u)
 tbls:∀b ps,H b=some (.tbl ps)->∃more,H' b=some (.tbl (ps++more))
section
variable {fs fs' ex ex':List Addr}{H1 H2:Hp}{h1 h2:Heap}{x e:Addr}
theorem Un.any(u:Un fs ex H H1 h h1){ob:Obj}(q:h.get? b=some ob)(n:H b=none)(hx:b∉ex):∃sl,h1.get? b=some { ob with slots:=sl }:=by
 by_cases hb:b∈fs
 ·exact u.slot b ob q n hb hx
 ·exact⟨ob.slots,u.keep b ob q n hb hx⟩
theorem Un.kept(k:∀b u,h.get? b=some u->h'.get? b=some u):Un fs ex H H h h':=
 ⟨fun b ob q _ _ _=>k b ob q,fun b ob q _ _ _=>⟨ob.slots,k b ob q⟩,fun _ _ _ n _=>n,fun b ob q _=>⟨ob,k b ob q⟩,fun _ _ q=>q,fun _ _ _ q=>q,fun _ ps q=>⟨#[],by rw[q];simp⟩⟩
theorem Un.refl:Un fs ex H H h h:=Un.kept fun _ _ q=>q
theorem Un.laid(k:∀b u,h.get? b=some u->h'.get? b=some u)(hp:h.objs.size<=a)(hn:H a=none):Un fs ex H (upd H a o) h h' where
 keep:=fun b u q _ _ _=>k b u q
 slot:=fun b u q _ _ _=>⟨u.slots,k b u q⟩
 free:=fun b u q n _=>by rw[d6 (B0 (D4 (o6 q) hp))];exact n
 there:=fun b u q _=>⟨u,k b u q⟩
 tups:=fun b xs q=>by rw[d6 (d3 q hn)];exact q
 frzs:=fun b u xs q=>by rw[d6 (d3 q hn)];exact q
 tbls:=fun b ps q=>⟨#[],by rw[d6 (d3 q hn),q];simp⟩
theorem Un.write(mu:Mut (H x))(he:e=x\/H e=some (.own x))(k:∀b u,b≠e->h.get? b=some u->h'.get? b=some u)(heo:∃u,h'.get? e=some u):Un fs ex H (upd H x o) h h':=by
 have hx:∀b,H b=none->b≠x:=fun b n z=>by subst z;rw[n]at mu;exact mu
 have hb:∀b,H b=none->b≠e:=fun b n z=>by
  subst z
  rcases he with r | r
  ·exact hx b n r
  ·rw[n]at r;cases r
 have hm:∀b u,H b=some u->¬Mut (some u)->b≠x:=fun b u q nm z=>by subst z;rw[q]at mu;exact nm mu
 refine⟨fun b u q n _ _=>k b u (hb b n) q,fun b u q n _ _=>⟨u.slots,k b u (hb b n) q⟩,fun b u q n _=>by rw[d6 (hx b n)];exact n,fun b u q _=>?_,
  fun b xs q=>by rw[d6 (hm b _ q fun z=>z)];exact q,fun b u xs q=>by rw[d6 (hm b _ q fun z=>z)];exact q,fun b ps q=>⟨#[],by rw[d6 (hm b _ q fun z=>z),q];simp⟩⟩
 by_cases hbe:b=e
 ·subst hbe;exact heo
 ·exact⟨u,k b u hbe q⟩
end
def trk(h:Heap)(H:Hp):List Addr:=(M0 h.objs.size).filter fun a=>(H a).isSome
def b1J(h:Heap)(H:Hp):Heap:=PySem.W.hideAll h (trk h H)
theorem b7s(h:Heap)(H:Hp):(b1J h H).objs.size=h.objs.size:=PySem.W.hideAll_size _ _
theorem c0x{o:Obj}(e:h.get? b=some o)(n:H b=none):(b1J h H).get? b=some o:=
 PySem.W.hideAll_get _ e fun hm=>by
  have q:(H b).isSome=true:=(a2e.mp hm).2
  rw[n]at q;simp at q
theorem c2s{o:Obj}(e:(b1J h H).get? b=some o):h.get? b=some o/\H b=none:=by
 have e':h.get? b=some o:=PySem.W.of_hideAll (trk h H) e
 refine⟨e',?_⟩
 cases q:H b with
 | none=>rfl
 | some x=>
  have hm:b∈trk h H:=a2e.mpr ⟨a2E.mpr (o6 e'),by simp[q]⟩
  have z:(b1J h H).get? b=none:=PySem.W.hideAll_none (trk h H) hm
  rw[z]at e;cases e
def c2T(g h:Heap)(L:Addr):List (Addr×Obj):=(M0 h.objs.size).filterMap fun a=>if a=L\/(g.get? a).isSome=true then none else (h.get? a).map fun o=>(a,o)
def rest(g h:Heap)(L d:Addr):List (Addr×Obj):=(c2T g h L).filter fun p=>decide (p.1≠d)
structure Mod(K:Fg)(mg:Str->Option Value)(base:Heap):Prop where
 kin:K.In base
 glob:base.Ns A4 mg
 blt:∃mb,base.Ns builtinsNs mb/\∀x:Str,x ≠ "__name__" -> mb x=U0 x
 nolimit:base.NoLimit
structure Cx where
 prog:D6
 w:World
 K:Fg
 mg:Str->Option Value
 base:Heap
 A:K7
 N:List Str
 s₀:l4
 H₀:Hp
 env:Env
 outer:List Env
 stack:List Env
 ex:List Addr
 fn:Str->Bool
 calm:Bool
 pn:List (Addr×Obj)
 xe:Value->l4->Prop
variable{X:Cx}
def frs(l:List Env):List Addr:=l.filterMap (·.frame)
abbrev Cx.fs(X:Cx):List Addr:=frs X.outer
def Vis(sc:Scope)(x:Str):Prop:=sc.names.lookup x=some .local\/sc.names.lookup x=some .cell\/sc.names.lookup x=some .free
def Loc(sc:Scope)(x:Str):Prop:=sc.names.lookup x=some .local\/sc.names.lookup x=some .cell
def c7V(env:Env)(h:Heap)(m:Str->Option Value)(x:Str)(u:Value):Prop:=
 (env.kindOf x=some .local/\m x=some u)\/((env.kindOf x=some .cell\/env.kindOf x=some .free)/\∃c,env.cells.lookup x=some c/\h.IsCell c (some u))
structure Cx.Ok(X:Cx):Prop where
 mod:Mod X.K X.mg X.base
 kind:X.env.scope.kind=.function
 glob:X.env.globals=A4
 blt:X.env.builtins=builtinsNs
 above:X.s₀.heap.objs.size<=X.env.locals
 inj:∀x y c,X.env.cells.lookup x=some c->X.env.cells.lookup y=some c->x=y
 has:∀x,(X.env.kindOf x=some .cell\/X.env.kindOf x=some .free)->∃c,X.env.cells.lookup x=some c
 cab:∀x c,X.fn x=true->X.env.cells.lookup x=some c->X.s₀.heap.objs.size<=c
 hd:X.calm=true->X.A.handled=none
 frames:X.A.frames=some X.stack
 stk:X.stack=X.outer\/(X.stack=X.env::X.outer/\X.env.frame=some X.env.locals)
 exf:∀b∈X.ex,b≠X.env.locals/\∀x c,X.env.cells.lookup x=some c->c≠b
 bs:∀b o,X.base.get? b=some o->X.s₀.heap.get? b=some o/\X.H₀ b=none
 bsz:X.base.objs.size<=X.s₀.heap.objs.size
 noex:∀b o,X.base.get? b=some o->b∉X.ex
 exfs:∀b∈X.ex,b∉X.fs
 funs:X.s₀.heap.FunFrames X.base X.outer
 frf:∀b∈X.fs,X.H₀ b=none
structure Inv(X:Cx)(pins:List (Addr×Obj))(σ:List (Option V))(H:Hp)(s:l4):Prop where
 ok:X.Ok
 os:s.os=X.s₀.os
 bare:b0A s.gens
 base:Un X.fs X.ex X.H₀ H X.s₀.heap s.heap
 loc:∃m,s.heap.Ns X.env.locals m/\∀(i:Nat) (x:Str) (v:V),X.N[i]? = some x->σ[i]? = some (some v)->Vis X.env.scope x->∃u,F1 v u/\c7V X.env s.heap m x u
 cell:∀x c,X.env.cells.lookup x=some c->∃v,s.heap.IsCell c v
 free:H X.env.locals=none
 freeC:∀x c,X.env.cells.lookup x=some c->H c=none
 pin:∀p∈X.pn++pins,s.heap.get? p.1=some p.2/\H p.1=none/\p.1≠X.env.locals/\p.1∉X.fs/\∀v,p.2.data≠.cell v
 hok:HOk X.prog X.w H s.heap
 len:σ.length=X.N.length
section
variable {σ:List (Option V)}
theorem Cx.Ok.nofr(ok:X.Ok){o:Obj}(e:X.base.get? b=some o):b∉X.fs:=fun hb=>by
 have:=(ok.funs.mem hb).1
 rw[e]at this;cases this
theorem Inv.bs(I:Inv X pins σ H s):∀b o,X.base.get? b=some o->s.heap.get? b=some o/\H b=none:=fun b o e=>
 ⟨I.base.keep b o (I.ok.bs b o e).1 (I.ok.bs b o e).2 (I.ok.nofr e) (I.ok.noex b o e),I.base.free b o (I.ok.bs b o e).1 (I.ok.bs b o e).2 (I.ok.noex b o e)⟩
theorem Inv.bk(I:Inv X pins σ H s):∀b o,X.base.get? b=some o->s.heap.get? b=some o:=fun b o e=>(I.bs b o e).1
theorem Inv.mod(I:Inv X pins σ H s):Mod X.K X.mg X.base:=I.ok.mod
theorem Inv.kIn(I:Inv X pins σ H s):X.K.In s.heap:=I.ok.mod.kin.keeps I.bk
theorem Inv.lt(I:Inv X pins σ H s):X.env.locals<s.heap.objs.size:=let⟨_,hn,_⟩:=I.loc;hn.lt
theorem Inv.sz(I:Inv X pins σ H s):X.s₀.heap.objs.size<=s.heap.objs.size:=I0 I.ok.above (b7P I.lt)
theorem Inv.nofs(I:Inv X pins σ H s)(h:s.heap.objs.size<=a):a∉X.fs:=fun hb=>by
 obtain⟨_,o,ho,_⟩:=I.ok.funs.mem hb
 exact absurd (D4 (o6 ho) (I0 I.sz h)) (L1 _)
theorem Inv.cne(I:Inv X pins σ H s):∀x c,X.env.cells.lookup x=some c->c≠X.env.locals:=fun x c e z=>by
 obtain⟨v,o,ho,hd⟩:=I.cell x c e
 obtain⟨m,⟨o',es,ep,ho',hd',_⟩,_⟩:=I.loc
 rw[z,ho']at ho;cases ho;rw[hd']at hd;cases hd
theorem Inv.funs(I:Inv X pins σ H s):s.heap.FunFrames X.base X.outer:=by
 have all:∀(l:List Env),(∀b∈frs l,b∈X.fs)->X.s₀.heap.FunFrames X.base l->s.heap.FunFrames X.base l:=by
  intro l
  induction l with
  | nil=>intro _ _;trivial
  | cons env r ih=>
   intro hs hl
   obtain⟨hk,⟨L,o,hf,hn,ho,hd⟩,hr⟩:=hl
   have hL:L∈X.fs:=hs L (by unfold frs;rw[a6h,hf];exact K5)
   obtain⟨sl,e⟩:=I.base.slot L o ho (I.ok.frf L hL) hL fun z=>I.ok.exfs L z hL
   exact⟨hk,⟨L,_,hf,hn,e,hd⟩,ih (fun b hb=>hs b (by unfold frs;rw[a6h,hf];exact E1 _ hb)) hr⟩
 exact all X.outer (fun _ hb=>hb) I.ok.funs
theorem Inv.stack(I:Inv X pins σ H s):s.heap.FunFrames X.base X.stack:=by
 rcases I.ok.stk with e | ⟨e,hf⟩
 ·rw[e];exact I.funs
 ·rw[e]
  obtain⟨m,hn,_⟩:=I.loc
  refine .cons (by rw[I.ok.kind];decide) hf hn ?_ I.funs
  exact Heap.get?_none_of_le (I0 I.ok.bsz I.ok.above)
theorem Inv.stkSub(I:Inv X pins σ H s):∀b∈frs X.stack,b∈X.env.locals::X.fs:=fun b hb=>by
 rcases I.ok.stk with e | ⟨e,hf⟩
 ·rw[e]at hb;exact E1 _ hb
 ·rw[e]at hb
  unfold frs at hb
  rw[a6h,hf]at hb
  exact hb
theorem Inv.stkFree(I:Inv X pins σ H s):∀b∈frs X.stack,H b=none:=fun b hb=>by
 rcases p8.mp (I.stkSub b hb)with e | hb
 ·rw[e];exact I.free
 ·obtain⟨_,o,ho,_⟩:=I.ok.funs.mem hb
  exact I.base.free b o ho (I.ok.frf b hb) fun z=>I.ok.exfs b z hb
theorem Inv.step{g':Array GenState}{t':Nat}{d':Drawn}{ch:List Addr}(I:Inv X pins σ H s)
  (hch:∀b∈ch,(b∈X.ex\/X.s₀.heap.objs.size<=b)/\b≠X.env.locals/\(∀x c,X.env.cells.lookup x=some c->c≠b)/\∀p∈X.pn++pins,p.1≠b)
  (keep:∀b o,b≠X.env.locals->b∉X.fs->b∉ch->s.heap.get? b=some o->H b=none->h'.get? b=some o)
  (slot:∀b o,b≠X.env.locals->b∈X.fs->b∉ch->s.heap.get? b=some o->H b=none->∃sl,h'.get? b=some { o with slots:=sl }) (free:∀b o,b∉ch->s.heap.get? b=some o->H b=none->H' b=none)
  (there:∀b o,b∉ch->s.heap.get? b=some o->∃o',h'.get? b=some o')
  (tups:∀b xs,H b=some (.tup xs)->H' b=some (.tup xs)) (frzs:∀b o u,H b=some (.frz o u)->H' b=some (.frz o u)) (tbls:∀b ps,H b=some (.tbl ps)->∃more,H' b=some (.tbl (ps++more)))
  (ns:∀m,s.heap.Ns X.env.locals m->h'.Ns X.env.locals m) (hok:HOk X.prog X.w H' h') (hg:b0A g') :
  Inv X pins σ H' { s with heap:=h',gens:=g',drawn:=d',toks:=t' }:=by
 have neL:∀b o,X.s₀.heap.get? b=some o->b≠X.env.locals:=fun b o e=>B0 (D4 (o6 e) I.ok.above)
 have neC:∀b o,X.s₀.heap.get? b=some o->b∉X.ex->b∉ch:=fun b o e hx hb=>by
  rcases(hch b hb).1 with z | z
  ·exact hx z
  ·exact absurd (D4 (o6 e) z) (L1 _)
 have cellK:∀x c,X.env.cells.lookup x=some c->∀v,s.heap.IsCell c v->h'.IsCell c v:=fun x c e v ⟨o,ho,hd⟩=>by
  have nch:c∉ch:=fun z=>(hch c z).2.2.1 x c e rfl
  by_cases hc:c∈X.fs
  ·obtain⟨sl,q⟩:=slot c o (I.cne x c e) hc nch ho (I.freeC x c e)
   exact⟨_,q,hd⟩
  ·exact⟨o,keep c o (I.cne x c e) hc nch ho (I.freeC x c e),hd⟩
 refine⟨I.ok,I.os,hg,⟨fun b o e n hb hx=>?_,fun b o e n hb hx=>?_,fun b o e n hx=>?_,fun b o e hx=>?_,fun b xs e=>tups b xs (I.base.tups b xs e),fun b o xs e=>frzs b o xs (I.base.frzs b o xs e),fun b ps e=>?_⟩,?_,fun x c e=>?_,?_,fun x c e=>?_,fun p hp=>?_,hok,I.len⟩
 ·exact keep b o (neL b o e) hb (neC b o e hx) (I.base.keep b o e n hb hx) (I.base.free b o e n hx)
 ·obtain⟨sl,e1⟩:=I.base.slot b o e n hb hx
  obtain⟨sl',e2⟩:=slot b _ (neL b o e) hb (neC b o e hx) e1 (I.base.free b o e n hx)
  exact⟨sl',e2⟩
 ·obtain⟨o',e1⟩:=I.base.there b o e hx
  exact free b o' (neC b o e hx) e1 (I.base.free b o e n hx)
 ·obtain⟨o',e1⟩:=I.base.there b o e hx
  exact there b o' (neC b o e hx) e1
 ·obtain⟨m1,e1⟩:=I.base.tbls b ps e
  obtain⟨m2,e2⟩:=tbls b _ e1
  exact⟨m1++m2,by rw[e2,Array.append_assoc]⟩
 ·obtain⟨m,hn,hl⟩:=I.loc
  refine⟨m,ns m hn,fun i x v e1 e2 e3=>?_⟩
  obtain⟨u,r,l⟩:=hl i x v e1 e2 e3
  refine⟨u,r,?_⟩
  rcases l with l | ⟨k,c,e,z⟩
  ·exact .inl l
  ·exact .inr ⟨k,c,e,cellK x c e _ z⟩
 ·obtain⟨v,z⟩:=I.cell x c e
  exact⟨v,cellK x c e v z⟩
 ·obtain⟨m,⟨o,_,_,ho,_⟩,_⟩:=I.loc
  exact free _ o (fun z=>(hch _ z).2.1 rfl) ho I.free
 ·obtain⟨v,o,ho,hd⟩:=I.cell x c e
  exact free c o (fun z=>(hch c z).2.2.1 x c e rfl) ho (I.freeC x c e)
 ·obtain⟨e,n,ne,nf,d⟩:=I.pin p hp
  have nch:p.1∉ch:=fun z=>(hch p.1 z).2.2.2 p hp rfl
  exact⟨keep p.1 p.2 ne nf nch e n,free p.1 p.2 nch e n,ne,nf,d⟩
theorem Inv.un(I:Inv X pins σ H s)(u:Un X.fs [] H H' s.heap h')(hok:HOk X.prog X.w H' h'):Inv X pins σ H' { s with heap:=h',toks:=t' }:=by
 obtain⟨m,⟨o,es,ep,ho,r⟩,_⟩:=id I.loc
 obtain⟨sl,hL⟩:=u.any ho I.free (by simp)
 exact I.step (g':=s.gens) (d':=s.drawn) (ch:=[]) (fun _ z=>nomatch z) (fun b o _ hb _ e n=>u.keep b o e n hb (by simp)) (fun b o _ hb _ e n=>u.slot b o e n hb (by simp)) (fun b o _ e n=>u.free b o e n (by simp)) (fun b o _ e=>u.there b o e (by simp)) u.tups u.frzs u.tbls (fun m' hm=>by
  obtain⟨o',es',ep',ho',r'⟩:=hm
  rw[ho]at ho';cases ho'
  exact⟨_,es',ep',hL,r'⟩) hok I.bare
theorem Inv.call{g':Array GenState}{d':Drawn}{ch:List Addr}(I:Inv X pins σ H s)(u:Un (frs X.stack) ch H H' s.heap h')(hok:HOk X.prog X.w H' h')(hg:b0A g')
  (hch:∀b∈ch,(b∈X.ex\/X.s₀.heap.objs.size<=b)/\b≠X.env.locals/\(∀x c,X.env.cells.lookup x=some c->c≠b)/\∀p∈X.pn++pins,p.1≠b) :
  Inv X pins σ H' { s with heap:=h',gens:=g',drawn:=d',toks:=t' }:=by
 obtain⟨m,⟨o,es,ep,ho,r⟩,_⟩:=id I.loc
 obtain⟨sl,hL⟩:=u.any ho I.free fun z=>(hch _ z).2.1 rfl
 exact I.step (ch:=ch) hch (fun b o hL hb hc e n=>u.keep b o e n (fun z=>(p8.mp (I.stkSub b z)).elim hL hb) hc) (fun b o _ _ hc e n=>u.any e n hc) (fun b o hc e n=>u.free b o e n hc) (fun b o hc e=>u.there b o e hc) u.tups u.frzs u.tbls (fun m' hm=>by
  obtain⟨o',es',ep',ho',r'⟩:=hm
  rw[ho]at ho';cases ho'
  exact⟨_,es',ep',hL,r'⟩) hok hg
theorem Inv.turned{it:Addr}(I:Inv X pins σ H s)(k:∀b o,b≠it->s.heap.get? b=some o->h'.get? b=some o)(hn:H it=none)(hL:it≠X.env.locals)
  (h1:it∈X.ex\/X.s₀.heap.objs.size<=it) (h2:∀x c,X.env.cells.lookup x=some c->c≠it) (h3:∀p∈X.pn++pins,p.1≠it):Inv X pins σ H { s with heap:=h',toks:=t' }:=by
 have nit:∀b u,H b=some u->b≠it:=fun b u e z=>by rw[z,hn]at e;cases e
 refine I.step (g':=s.gens) (d':=s.drawn) (ch:=[it]) (fun b hb=>?_) (fun b o _ _ hc e _=>k b o (fun z=>hc (by simp[z])) e) (fun b o _ _ hc e _=>⟨o.slots,k b o (fun z=>hc (by simp[z])) e⟩) (fun _ _ _ _ n=>n)
  (fun b o hc e=>⟨o,k b o (fun z=>hc (by simp[z])) e⟩) (fun _ _ e=>e) (fun _ _ _ e=>e) (fun b ps e=>⟨#[],by rw[e];simp⟩) (fun m hm=>?_) (fun b u e=>?_) I.bare
 ·have e:b=it:=by simpa using hb
  subst e
  exact⟨h1,hL,h2,h3⟩
 ·obtain⟨o,es,ep,ho,r⟩:=hm
  exact⟨o,es,ep,k _ o (Ne.symm hL) ho,r⟩
 ·refine(I.hok b u e).stay (fun c v hc q=>k c v ?_ q) (fun _ q=>q) fun _ _ q=>q
  rcases hc with z | z
  ·rw[z];exact nit b u e
  ·exact nit c _ z
theorem Inv.tok(I:Inv X pins σ H s)(t:Nat):Inv X pins σ H { s with toks:=t }:=I.un (h':=s.heap) (t':=t) Un.refl I.hok
theorem Inv.kept(I:Inv X pins σ H s)(k:∀b u,s.heap.get? b=some u->h'.get? b=some u):Inv X pins σ H { s with heap:=h',toks:=t' }:=I.un (Un.kept k) (I.hok.kept k)
theorem Inv.laid(I:Inv X pins σ H s)(k:∀b u,s.heap.get? b=some u->h'.get? b=some u)(hp:s.heap.objs.size<=a)(new:W4 X.prog X.w (upd H a o) h' a o) :
  Inv X pins σ (upd H a o) { s with heap:=h',toks:=t' }:=I.un (Un.laid k hp (I.hok.fresh hp)) (I.hok.laid k hp new)
theorem Inv.write{x e:Addr}(I:Inv X pins σ H s)(mu:Mut (H x))(he:e=x\/H e=some (.own x))(k:∀b u,b≠e->s.heap.get? b=some u->h'.get? b=some u)(heo:∃u,h'.get? e=some u)
  (new:W4 X.prog X.w (upd H x o) h' x o):Inv X pins σ (upd H x o) { s with heap:=h',toks:=t' }:=I.un (Un.write mu he k heo) (I.hok.write mu he k heo new)
theorem Inv.weak{σ':List (Option V)}(I:Inv X pins σ H s)(hl:σ'.length=σ.length)(w:∀(i:Nat) v,σ'[i]? = some (some v)->σ[i]? = some (some v)):Inv X pins σ' H s:=
 ⟨I.ok,I.os,I.bare,I.base,let⟨m,hn,hl'⟩:=I.loc; ⟨m,hn,fun i x v e1 e2 e3=>hl' i x v e1 (w i v e2) e3⟩,I.cell,I.free,I.freeC,I.pin,I.hok,hl.trans I.len⟩
theorem Inv.pins_of{pins':List (Addr×Obj)}(I:Inv X pins σ H s)(h:∀p∈pins',s.heap.get? p.1=some p.2/\H p.1=none/\p.1≠X.env.locals/\p.1∉X.fs/\∀v,p.2.data≠.cell v):Inv X pins' σ H s:=
 ⟨I.ok,I.os,I.bare,I.base,I.loc,I.cell,I.free,I.freeC,fun p hp=>(C6.mp hp).elim (fun z=>I.pin p (M3 _ z)) (h p),I.hok,I.len⟩
theorem b3a{N:List Str}(hN:N.Nodup){j:Nat}{x:Str}(a:N[i]? = some x)(b:N[j]? = some x):i=j:=by
 obtain⟨h1,e1⟩:=u7.mp a
 obtain⟨h2,e2⟩:=u7.mp b
 exact(List.getElem_inj hN).mp (e1.trans e2.symm)
theorem b0c{M:Model}{A:K7}{E:Value->l4->Prop}{x:Str}{Q:Unit->l4->Prop}(I:Inv X pins σ H s)(hN:X.N.Nodup)(hi:X.N[i]? = some x)(hx:Loc X.env.scope x)(r:F1 v u)
  (h:∀s',Inv X pins (σ.set i (some v)) H s'->(∃a,Heap.SameBut a s.heap s'.heap/\(a=X.env.locals\/X.env.cells.lookup x=some a))->Q () s') (hf:X.fn x=true\/X.env.scope.names.lookup x=some .local:=by first | exact .inl rfl | exact .inr rfl | assumption):wpAny M A (storeName X.env x u) Q E s:=by
 obtain⟨m,hn,hl⟩:=id I.loc
 have hcls:(X.env.scope.kind == .class||(X.env.scope.kind == .module&&X.env.locals != X.env.globals))=false:=by rw[I.ok.kind];rfl
 have hiσ:i<σ.length:=by rw[I.len];exact(u7.mp hi).1
 have cne:=I.cne
 have tracked:∀ {a:Addr} {h':Heap},(∃o,s.heap.get? a=some o/\H a=none)->Heap.SameBut a s.heap h'->HOk X.prog X.w H h':=fun {a h'} ha hs b ob e=>by
  obtain⟨_,_,hfree⟩:=ha
  refine(I.hok b ob e).stay (fun c w' hc q=>(hs.2 c ?_).trans q) (fun _ q=>q) fun _ _ q=>q
  rintro rfl
  rcases hc with rfl | hc
  ·rw[hfree]at e;cases e
  ·rw[hfree]at hc;cases hc
 rcases hx with hk | hk
 ·refine wpAny_storeName_local hk hn (fun h' hn' hs=>?_) hcls
  obtain⟨oL,_,_,hoL,_⟩:=id hn
  refine h _ ⟨I.ok,I.os,I.bare,⟨fun b o e n hb hx=>?_,fun b o e n hb hx=>?_,I.base.free,fun b o e hx=>?_,I.base.tups,I.base.frzs,I.base.tbls⟩,⟨_,hn',fun j y v' e1 e2 e3=>?_⟩,fun y c e=>?_,I.free,I.freeC,fun p hp=>?_,tracked ⟨oL,hoL,I.free⟩ hs,by simpa using I.len⟩ ⟨_,hs,.inl rfl⟩
  ·exact(hs.2 b (B0 (D4 (o6 e) I.ok.above))).trans (I.base.keep b o e n hb hx)
  ·obtain⟨sl,e1⟩:=I.base.slot b o e n hb hx
   exact⟨sl,(hs.2 b (B0 (D4 (o6 e) I.ok.above))).trans e1⟩
  ·obtain⟨o',e1⟩:=I.base.there b o e hx
   exact⟨o',(hs.2 b (B0 (D4 (o6 e) I.ok.above))).trans e1⟩
  ·by_cases hj:j=i
   ·subst hj
    rw[hi]at e1;cases e1
    rw[M8 hiσ]at e2
    cases e2
    exact⟨u,r,.inl ⟨hk,by simp⟩⟩
   ·rw[O0 (Ne.symm hj)]at e2
    obtain⟨u',r',q⟩:=hl j y v' e1 e2 e3
    refine⟨u',r',?_⟩
    rcases q with ⟨k,e⟩ | ⟨k,c,e,z⟩
    ·refine .inl ⟨k,?_⟩
     have:y≠x:=fun e=>hj (b3a hN e1 (e ▸ hi))
     simp[this,e]
    ·exact .inr ⟨k,c,e,z.sameBut hs (cne y c e)⟩
  ·obtain⟨w',z⟩:=I.cell y c e
   exact⟨w',z.sameBut hs (cne y c e)⟩
  ·obtain⟨e,n,ne,nf,d⟩:=I.pin p hp
   exact⟨(hs.2 p.1 ne).trans e,n,ne,nf,d⟩
 ·have hfn:X.fn x=true:=by
   rcases hf with z | z
   ·exact z
   ·rw[z]at hk;cases hk
  obtain⟨c,hc⟩:=I.ok.has x (.inl hk)
  obtain⟨w',z⟩:=I.cell x c hc
  refine wpAny_storeName_cell I.ok.kind hk hc z (fun h' hc' hs=>?_)
  obtain⟨oc,hoc,hocd⟩:=id z
  refine h { s with heap:=h' } ⟨I.ok,I.os,I.bare,⟨fun b o e n hb hx=>?_,fun b o e n hb hx=>?_,I.base.free,fun b o e hx=>?_,I.base.tups,I.base.frzs,I.base.tbls⟩,⟨m,hn.sameBut hs (Ne.symm (cne x c hc)),fun j y v' e1 e2 e3=>?_⟩,fun y c' e=>?_,I.free,I.freeC,fun p hp=>?_,tracked ⟨oc,hoc,I.freeC x c hc⟩ hs,by simpa using I.len⟩ ⟨c,hs,.inr hc⟩
  ·exact(hs.2 b (B0 (D4 (o6 e) (I.ok.cab x c hfn hc)))).trans (I.base.keep b o e n hb hx)
  ·obtain⟨sl,e1⟩:=I.base.slot b o e n hb hx
   exact⟨sl,(hs.2 b (B0 (D4 (o6 e) (I.ok.cab x c hfn hc)))).trans e1⟩
  ·obtain⟨o',e1⟩:=I.base.there b o e hx
   exact⟨o',(hs.2 b (B0 (D4 (o6 e) (I.ok.cab x c hfn hc)))).trans e1⟩
  ·by_cases hj:j=i
   ·subst hj
    rw[hi]at e1;cases e1
    rw[M8 hiσ]at e2
    cases e2
    exact⟨u,r,.inr ⟨.inl hk,c,hc,hc'⟩⟩
   ·rw[O0 (Ne.symm hj)]at e2
    obtain⟨u',r',q⟩:=hl j y v' e1 e2 e3
    refine⟨u',r',?_⟩
    rcases q with q | ⟨k,c',e,z'⟩
    ·exact .inl q
    ·refine .inr ⟨k,c',e,z'.sameBut hs ?_⟩
     rintro rfl
     exact hj (b3a hN e1 (I.ok.inj _ _ _ e hc ▸ hi))
  ·by_cases hcc:c'=c
   ·subst hcc;exact⟨_,hc'⟩
   ·obtain⟨w2,z2⟩:=I.cell y c' e
    exact⟨w2,z2.sameBut hs hcc⟩
  ·obtain⟨e,n,ne,nf,d⟩:=I.pin p hp
   refine⟨(hs.2 p.1 ?_).trans e,n,ne,nf,d⟩
   intro q
   rw[q,hoc]at e
   have q':oc=p.2:=Option.some.inj e
   exact d w' (by rw[<-q'];exact hocd)
theorem a8p{M:Model}{A:K7}{E:Value->l4->Prop}{x:Str}{Q:Unit->l4->Prop}(I:Inv X pins σ H s)(hN:X.N.Nodup)(hi:X.N[i]? = some x)(hx:Loc X.env.scope x)(r:F1 v u)
  (h:∀s',Inv X pins (σ.set i (some v)) H s'->Q () s') (hf:X.fn x=true\/X.env.scope.names.lookup x=some .local:=by first | exact .inl rfl | exact .inr rfl | assumption):wpAny M A (storeName X.env x u) Q E s:=
 b0c I hN hi hx r (fun s' I' _=>h s' I') hf
theorem Inv.call'{s':l4}{ch:List Addr}(I:Inv X pins σ H s)(ho:s'.os=s.os)(u:Un (frs X.stack) ch H H' s.heap s'.heap)(hok:HOk X.prog X.w H' s'.heap)(hg:b0A s'.gens)
  (hch:∀b∈ch,(b∈X.ex\/X.s₀.heap.objs.size<=b)/\b≠X.env.locals/\(∀x c,X.env.cells.lookup x=some c->c≠b)/\∀p∈X.pn++pins,p.1≠b):Inv X pins σ H' s':=by
 obtain⟨h',g',d',t',o'⟩:=s'
 have e:o'=s.os:=ho
 subst e
 exact I.call (g':=g') (t':=t') (d':=d') u hok hg hch
end
abbrev XK:=Value->Option Addr->Hp->Prop
abbrev St:=List (Option V)
variable{σ:St}
abbrev VK:=V->Hp->Prop
abbrev TE:=St->Hp->VK->Prop
variable{ta te:TE}
abbrev TT:=St->Hp->(Bool->Hp->Prop)->Prop
abbrev TA:=St->Hp->(List V->Hp->Prop)->Prop
structure a5p where
 nx:St->Hp->Prop
 rt:VK
 bk:St->Hp->Prop:=fun _ _=>False
 ct:St->Hp->Prop:=fun _ _=>False
abbrev TS:=a5p->St->Hp->Prop
variable{tb:TS}
def EP(X:Cx)(pins:List (Addr×Obj))(σ:St)(Q:VK)(u:Value)(s':l4):Prop:=∃v H',Inv X pins σ H' s'/\F1 v u/\Q v H'
def TP(X:Cx)(pins:List (Addr×Obj))(σ:St)(Q:Bool->Hp->Prop)(b:Bool)(s':l4):Prop:=∃H',Inv X pins σ H' s'/\Q b H'
def AP(X:Cx)(pins:List (Addr×Obj))(σ:St)(Q:List V->Hp->Prop)(us:List Value)(s':l4):Prop:=∃vs H',Inv X pins σ H' s'/\G6 vs us/\Q vs H'
def SP(X:Cx)(pins:List (Addr×Obj))(D:a5p)(f:Flow)(s':l4):Prop:=
 match f with
 | .next=>∃σ' H',Inv X pins σ' H' s'/\D.nx σ' H'
 | .brk=>∃σ' H',Inv X pins σ' H' s'/\D.bk σ' H'
 | .cont=>∃σ' H',Inv X pins σ' H' s'/\D.ct σ' H'
 | .ret u=>∃v σ' H',Inv X pins σ' H' s'/\F1 v u/\D.rt v H'
def PE(X:Cx)(e:Expr)(t:TE):Prop:=
 ∀(pins:List (Addr×Obj)) (s:l4) (σ:St) (H:Hp) (Q:VK),Inv X pins σ H s->t σ H Q->wpAny (model X.prog X.w) X.A (eval e X.env) (EP X pins σ Q) X.xe s
def PT(X:Cx)(e:Expr)(t:TT):Prop:=
 ∀(pins:List (Addr×Obj)) (s:l4) (σ:St) (H:Hp) (Q:Bool->Hp->Prop),Inv X pins σ H s->t σ H Q->wpAny (model X.prog X.w) X.A (isTrue e X.env (eval e X.env)) (TP X pins σ Q) X.xe s
def PW(X:Cx)(e:Expr)(t:TT):Prop:=
 ∀(whole:Sem Value) (pins:List (Addr×Obj)) (s:l4) (σ:St) (H:Hp) (Q:Bool->Hp->Prop),Inv X pins σ H s->t σ H Q->wpAny (model X.prog X.w) X.A (isTrue e X.env whole) (TP X pins σ Q) X.xe s
theorem PW.pt{t:TT}(h:PW X e t):PT X e t:=h _
def PA(X:Cx)(es:List Expr)(t:TA):Prop:=
 ∀(pos:Pos) (pins:List (Addr×Obj)) (s:l4) (σ:St) (H:Hp) (Q:List V->Hp->Prop),Inv X pins σ H s->t σ H Q->wpAny (model X.prog X.w) X.A (spliced (Y0 pos (i8 es X.env))) (AP X pins σ Q) X.xe s
def PS(X:Cx)(st:Stmt)(t:TS):Prop:=
 ∀(pins:List (Addr×Obj)) (s:l4) (σ:St) (H:Hp) (D:a5p),Inv X pins σ H s->t D σ H->wpAny (model X.prog X.w) X.A (exec st X.env) (SP X pins D) X.xe s
def PSs(X:Cx)(st:List Stmt)(t:TS):Prop:=
 ∀(pins:List (Addr×Obj)) (s:l4) (σ:St) (H:Hp) (D:a5p),Inv X pins σ H s->t D σ H->wpAny (model X.prog X.w) X.A (execs st X.env) (SP X pins D) X.xe s
theorem thn{α:Type}{t:Sem α}{Q Q':α->l4->Prop}{M:Model}{A:K7}{E:Value->l4->Prop}(h:wpAny M A t Q E s)(hQ:∀a s,Q a s->Q' a s):wpAny M A t Q' E s:=X8 h hQ fun _ _ x=>x
section
def c6(i:Nat):TE:=fun σ H Q=>∃v,σ[i]? = some (some v)/\Q v H
def tC(v:V):TE:=fun _ H Q=>Q v H
theorem c4J{x:Str}(hN:X.N[i]? = some x)(hv:Vis X.env.scope x)(hd:(x == ("__debug__" : Str))=false:=by decide)(hcd:(x == ("__classdict__" : Str))=false:=by decide):PE X (.Name x pos) (c6 i):=by
 intro pins s σ H Q I h
 obtain⟨v,e,h⟩:=h
 obtain⟨m,hn,hl⟩:=I.loc
 obtain⟨u,r,l⟩:=hl i x v hN e hv
 have fin:EP X pins σ Q u s:=⟨v,H,I,r,h⟩
 rcases l with ⟨hk,hm⟩ | ⟨hk,c,hc,hcell⟩
 ·exact wpAny_Name (wpAny_loadName_local I.ok.kind hk hn hm fin) hd
 ·rcases hk with hk | hk
  ·exact wpAny_Name (wpAny_loadName_cell I.ok.kind hk hc hcell fin) hd
  ·exact wpAny_Name (wpAny_loadName_free I.ok.kind hk hc hcell fin hcd) hd
theorem c4S{i j pos}:PE X (.Constant (.int i) j pos) (tC (.int i)):=fun _ _ _ H _ I h=>wpAny_Constant_int ⟨.int i,H,I.tok _,⟨_,rfl⟩,h⟩
theorem c6Z{b j pos}:PE X (.Constant (.bool b) j pos) (tC (.bl b)):=fun _ _ _ H _ I h=>Constant_bool ⟨.bl b,H,I,rfl,h⟩
theorem c4P{j pos}:PE X (.Constant .none j pos) (tC .non):=fun _ _ _ H _ I h=>Constant_none ⟨.non,H,I,rfl,h⟩
theorem c4L{x j pos}:PE X (.Constant (.str x) j pos) (tC (.str x)):=fun _ _ _ H _ I h=>Calls.Constant_str ⟨.str x,H,I.tok _,⟨_,rfl⟩,h⟩
def Gl(X:Cx)(x:Str):Prop:=X.env.kindOf x=some .globalImplicit
theorem b1E{E:Value->l4->Prop}{x:Str}(I:Inv X pins σ H s)(hg:Gl X x)(hm:X.mg x=some u)(h:Q u s)
  (hd:(x == ("__debug__" : Str))=false:=by decide):wpAny (model X.prog X.w) X.A (eval (.Name x pos) X.env) Q E s:=
 Calls.Name_function_global I.ok.kind hg (Calls.loadGlobal_global (by rw[I.ok.glob];exact I.mod.glob.keeps I.bk) hm h) hd
theorem a4j{E:Value->l4->Prop}{x:Str}(I:Inv X pins σ H s)(hg:Gl X x)(hm:X.mg x=none)(hv:U0 x=some u)(h:Q u s)
  (hn:x ≠ "__name__" := by decide) (hd:(x == ("__debug__" : Str))=false:=by decide):wpAny (model X.prog X.w) X.A (eval (.Name x pos) X.env) Q E s:=by
 obtain⟨mb,h1,h2⟩:=I.mod.blt
 exact Calls.Name_function_global I.ok.kind hg (Calls.loadGlobal_builtin (by rw[I.ok.glob];exact I.mod.glob.keeps I.bk) hm (by rw[I.ok.blt];exact h1.keeps I.bk) ((h2 x hn).trans hv) h) hd
theorem c1S{x:Str}(hg:Gl X x)(hm:X.mg x=some u)(r:F1 v u)(hd:(x == ("__debug__" : Str))=false:=by decide):PE X (.Name x pos) (tC v):=
 fun _ _ _ H _ I h=>b1E I hg hm ⟨v,H,I,r,h⟩ hd
theorem c1Y{x:Str}(hg:Gl X x)(hm:X.mg x=none)(hv:U0 x=some u)(r:F1 v u)(hn:x ≠ "__name__" := by decide)(hd:(x == ("__debug__" : Str))=false:=by decide):PE X (.Name x pos) (tC v):=
 fun _ _ _ H _ I h=>a4j I hg hm hv ⟨v,H,I,r,h⟩ hn hd
variable {a b:Expr}{tb:TE}
def PC(X:Cx)(op:CmpOp)(a b:Expr)(t:TE):Prop:=
 ∀(pins:List (Addr×Obj)) (s:l4) (σ:St) (H:Hp) (Q:VK),Inv X pins σ H s->t σ H Q ->
  wpAny (model X.prog X.w) X.A (eval a X.env) (fun v s₁=>wpAny (model X.prog X.w) X.A (eval b X.env) (fun u s₂=>wpAny (model X.prog X.w) X.A (A3 op v u) (EP X pins σ Q) X.xe s₂) X.xe s₁) X.xe s
def tB(t:TE):TT:=fun σ H Q=>t σ H fun x H1=>∃c,x=.bl c/\Q c H1
theorem c4U{op:CmpOp}{t:TE}(h:PC X op a b t)(h1:Q3 op b=false:=by first | exact nobehind _ (by decide) (by decide) | rfl):PE X (.Compare a [op] [b] pos) t:=fun pins s σ H Q I hw=>wpAny_Compare1 (h pins s σ H Q I hw) h1
theorem b9y{op:CmpOp}{t:TE}(h:PC X op a b t)(h1:Q3 op b=false:=by first | exact nobehind _ (by decide) (by decide) | rfl):PT X (.Compare a [op] [b] pos) (tB t):=by
 intro pins s σ H Q I hw
 refine c6k (thn (h pins s σ H _ I hw) fun v s1 h1=>thn h1 fun u s2 h2=>thn h2 fun c s3 ⟨x,H1,I1,r1,q1⟩=>?_) h1
 obtain⟨d,rfl,q⟩:=q1
 cases r1
 exact L5 ⟨H1,I1,q⟩
theorem c4z{t:TE}(h:PE X e t)(he:∀whole,isTrue e X.env whole=(do let v <-whole;b8d e.pos;a3M [v] (truthy v)):=by intro _;rfl):PT X e (tB t):=by
 intro pins s σ H Q I hw
 refine isTrue_plain (thn (h pins s σ H _ I hw) fun v s1 ⟨x,H1,I1,r1,q1⟩=>?_) (he _)
 obtain⟨d,rfl,q⟩:=q1
 cases r1
 exact L5 ⟨H1,I1,q⟩
variable {tA tB':TT}{rest:List Expr}
def b0I(t u:TT):TT:=fun σ H Q=>t σ H fun c H1=>if c=true then u σ H1 Q else Q false H1
def tOr(t u:TT):TT:=fun σ H Q=>t σ H fun c H1=>if c=true then Q true H1 else u σ H1 Q
def a0V(t:TT):TT:=fun σ H Q=>t σ H fun c H1=>Q (!c) H1
theorem c1A(ha:PT X a tA):PW X (.BoolOp .And [a] pos) tA:=by
 intro wh pins s σ H Q I h
 refine isTrue_and (thn (ha pins s σ H Q I h) fun c s1 e=>?_)
 cases c with
 | true=>exact isTrue_and_nil e
 | false=>exact e
theorem c4x(ha:PT X a tA):PW X (.BoolOp .Or [a] pos) tA:=by
 intro wh pins s σ H Q I h
 refine isTrue_or (thn (ha pins s σ H Q I h) fun c s1 e=>?_)
 cases c with
 | false=>exact isTrue_or_nil e
 | true=>exact e
theorem c4y(ha:PT X a tA)(hb:PW X (.BoolOp .And (b::rest) pos) tB'):PW X (.BoolOp .And (a::b::rest) pos) (b0I tA tB'):=by
 intro wh pins s σ H Q I h
 refine isTrue_and (thn (ha pins s σ H _ I h) fun c s1 ⟨H1,I1,q1⟩=>?_)
 cases c with
 | true=>exact hb wh pins s1 σ H1 Q I1 q1
 | false=>exact⟨H1,I1,q1⟩
theorem c6R(ha:PT X a tA)(hb:PW X (.BoolOp .Or (b::rest) pos) tB'):PW X (.BoolOp .Or (a::b::rest) pos) (tOr tA tB'):=by
 intro wh pins s σ H Q I h
 refine isTrue_or (thn (ha pins s σ H _ I h) fun c s1 ⟨H1,I1,q1⟩=>?_)
 cases c with
 | true=>exact⟨H1,I1,q1⟩
 | false=>exact hb wh pins s1 σ H1 Q I1 q1
theorem c4A(ha:PT X a tA):PT X (.UnaryOp .Not a pos) (a0V tA):=by
 intro pins s σ H Q I h
 exact isTrue_not (ha pins s σ H (fun c H1=>Q (!c) H1) I h)
def a0h(ta tb:TE):TE:=fun σ H Q=>ta σ H fun x H1=>∃c,x=.bl c/\if c=true then tb σ H1 Q else Q (.bl false) H1
def c1i(ta tb:TE):TE:=fun σ H Q=>ta σ H fun x H1=>∃c,x=.bl c/\if c=true then Q (.bl true) H1 else tb σ H1 Q
def a9Z(ta:TE):TE:=fun σ H Q=>ta σ H fun x H1=>∃c,x=.bl c/\Q (.bl (!c)) H1
theorem c4N{op}{t:TE}(h:PE X a t):PE X (.BoolOp op [a] pos) t:=fun pins s σ H Q I hw=>BoolOp_one (h pins s σ H Q I hw)
theorem c4W(ha:PE X a ta)(hb:PE X (.BoolOp .And (b::rest) pos) tb):PE X (.BoolOp .And (a::b::rest) pos) (a0h ta tb):=by
 intro pins s σ H Q I h
 refine BoolOp_and (thn (ha pins s σ H _ I h) fun v s1 ⟨x,H1,I1,r1,q1⟩=>?_)
 obtain⟨c,rfl,q1⟩:=q1
 cases r1
 refine L5 ?_
 cases c with
 | true=>exact hb pins s1 σ H1 Q I1 q1
 | false=>exact⟨.bl false,H1,I1,rfl,q1⟩
theorem c6U(ha:PE X a ta)(hb:PE X (.BoolOp .Or (b::rest) pos) tb):PE X (.BoolOp .Or (a::b::rest) pos) (c1i ta tb):=by
 intro pins s σ H Q I h
 refine BoolOp_or (thn (ha pins s σ H _ I h) fun v s1 ⟨x,H1,I1,r1,q1⟩=>?_)
 obtain⟨c,rfl,q1⟩:=q1
 cases r1
 refine L5 ?_
 cases c with
 | false=>exact hb pins s1 σ H1 Q I1 q1
 | true=>exact⟨.bl true,H1,I1,rfl,q1⟩
theorem c4O(ha:PE X a ta):PE X (.UnaryOp .Not a pos) (a9Z ta):=by
 intro pins s σ H Q I h
 refine UnaryOp_ (thn (ha pins s σ H _ I h) fun v s1 ⟨x,H1,I1,r1,q1⟩=>?_)
 obtain⟨c,rfl,q1⟩:=q1
 cases r1
 exact not_of (L5 ⟨.bl (!c),H1,I1,rfl,q1⟩)
def tIf(t:TT)(ta tb:TE):TE:=fun σ H Q=>t σ H fun c H1=>if c=true then ta σ H1 Q else tb σ H1 Q
theorem b9J(hc:PT X c tA)(ha:PE X a ta)(hb:PE X b tb):PE X (.IfExp c a b pos) (tIf tA ta tb):=by
 intro pins s σ H Q I h
 refine wpAny_IfExp (thn (hc pins s σ H _ I h) fun d s1 ⟨H1,I1,q1⟩=>?_)
 cases d with
 | true=>exact ha pins s1 σ H1 Q I1 q1
 | false=>exact hb pins s1 σ H1 Q I1 q1
end
def SqL(K:Fg)(H:Hp)(a:Addr)(xs:List V):Prop:=
 Rd H a (.lst xs) \/
  ∃(o:Obj) (its:Array Value) (n:Nat),K.lookup a=some o/\o.cls=.type "list" /\ o.dict=none/\o.data=.seq its n/\its.size<=u8/\G6 xs its.toList
def SqT(K:Fg)(H:Hp)(a:Addr)(xs:List V):Prop:=
 Rd H a (.tup xs) \/
  ∃(o:Obj) (its:Array Value) (n:Nat),K.lookup a=some o/\o.cls=.type "tuple" /\ o.data=.seq its n/\its.size<=u8/\G6 xs its.toList
def c7T:Value->Option V
 | .none=>some .non
 | .bool b=>some (.bl b)
 | .int i _=>some (.int i)
 | .str x _=>some (.str x)
 | .bytes b _=>some (.byt b)
 | .float b _=>some (.flt b)
 | .ref a=>some (.ref a)
 | .type n=>some (.ty n)
 | _=>none
theorem F1.abs{x:V}(r:F1 x u):c7T u=some x:=by
 cases x with
 | non=>cases r;rfl
 | bl _=>cases r;rfl
 | int _=>obtain⟨t,rfl⟩:=r;rfl
 | str _=>obtain⟨t,rfl⟩:=r;rfl
 | byt _=>obtain⟨t,rfl⟩:=r;rfl
 | flt _=>obtain⟨t,rfl⟩:=r;rfl
 | ref _=>cases r;rfl
 | ty _=>cases r;rfl
theorem F1.inj{x:V}(r:F1 x u)(q:F1 y u):x=y:=Option.some.inj (r.abs.symm.trans q.abs)
theorem G6.inj:∀ {xs ys:List V} {us:List Value},G6 xs us->G6 ys us->xs=ys
 | _,_,_,.nil,.nil=>rfl
 | _,_,_,.cons r t,.cons r' t'=>by rw[r.inj r',G6.inj t t']
section
variable {ys:List V}
theorem SqL.of{K:Fg}(h:H a=some (.lst xs)):SqL K H a xs:=.inl (.inl h)
theorem SqT.of{K:Fg}(h:H a=some (.tup xs)):SqT K H a xs:=.inl (.inl h)
theorem Inv.list(I:Inv X pins σ H s)(h:SqL X.K H a xs):∃its:List Value,G6 xs its/\PlainL s.heap a its.toArray/\xs.length<=u8:=by
 rcases h with h | ⟨o,its,n,hk,hc,hd,hs,hz,r⟩
 ·obtain⟨z,its,n,r,e⟩:=h.ok I.hok
  exact⟨its,r,⟨_,n,e,rfl,rfl,rfl⟩,z⟩
 ·refine⟨its.toList,r,⟨o,n,I.kIn a o hk,hc,hd,by simpa using hs⟩,?_⟩
  have e:=r.length
  simp only[X3]at e
  omega
theorem Inv.tuple(I:Inv X pins σ H s)(h:SqT X.K H a xs):∃its:List Value,G6 xs its/\IsTup s.heap a its.toArray/\xs.length<=u8:=by
 rcases h with h | ⟨o,its,n,hk,hc,hs,hz,r⟩
 ·obtain⟨z,its,r,p⟩:=h.ok I.hok
  exact⟨its,r,p,z⟩
 ·refine⟨its.toList,r,⟨o,I.kIn a o hk,hc,n,by simpa using hs⟩,?_⟩
  have e:=r.length
  simp only[X3]at e
  omega
theorem Inv.list_inj(I:Inv X pins σ H s)(h:SqL X.K H a xs)(h':SqL X.K H a ys):xs=ys:=by
 obtain⟨its,r,⟨o,n,e,_,_,d⟩,_⟩:=I.list h
 obtain⟨its',r',⟨o',n',e',_,_,d'⟩,_⟩:=I.list h'
 rw[e]at e';cases e'
 rw[d]at d'
 injection d' with d1 _
 have:its=its':=by simpa using congrArg Array.toList d1
 subst this
 exact r.inj r'
end
abbrev Cx.wish(X:Cx)(E:Value->l4->Prop):Cx:={ X with xe:=E }
abbrev Cx.nox(X:Cx):Cx:=X.wish fun _ _=>False
theorem Cx.Ok.wish(ok:X.Ok)(E:Value->l4->Prop):(X.wish E).Ok:=
 ⟨ok.mod,ok.kind,ok.glob,ok.blt,ok.above,ok.inj,ok.has,ok.cab,ok.hd,ok.frames,ok.stk,ok.exf,ok.bs,ok.bsz,ok.noex,ok.exfs,ok.funs,ok.frf⟩
theorem Cx.Ok.unwish{E:Value->l4->Prop}(ok:(X.wish E).Ok):X.Ok:=
 ⟨ok.mod,ok.kind,ok.glob,ok.blt,ok.above,ok.inj,ok.has,ok.cab,ok.hd,ok.frames,ok.stk,ok.exf,ok.bs,ok.bsz,ok.noex,ok.exfs,ok.funs,ok.frf⟩
section
variable {E:Value->l4->Prop}
theorem Inv.wish(I:Inv X pins σ H s)(E:Value->l4->Prop):Inv (X.wish E) pins σ H s:=⟨I.ok.wish E,I.os,I.bare,I.base,I.loc,I.cell,I.free,I.freeC,I.pin,I.hok,I.len⟩
theorem Inv.unwish(I:Inv (X.wish E) pins σ H s):Inv X pins σ H s:=⟨I.ok.unwish,I.os,I.bare,I.base,I.loc,I.cell,I.free,I.freeC,I.pin,I.hok,I.len⟩
theorem SP.unwish{D:a5p}{f:Flow}{s':l4}(h:SP (X.wish E) pins D f s'):SP X pins D f s':=by
 cases f with
 | next=>obtain⟨σ',H',I,q⟩:=h;exact⟨σ',H',I.unwish,q⟩
 | brk=>obtain⟨σ',H',I,q⟩:=h;exact⟨σ',H',I.unwish,q⟩
 | cont=>obtain⟨σ',H',I,q⟩:=h;exact⟨σ',H',I.unwish,q⟩
 | ret u=>obtain⟨v,σ',H',I,r,q⟩:=h;exact⟨v,σ',H',I.unwish,r,q⟩
theorem PSs.nox{st:List Stmt}{t:TS}(h:PSs X.nox st t):PSs X st t:=fun pins s σ H D I hw=>
 X8 (h pins s σ H D (I.wish _) hw) (fun _ _ q=>q.unwish) fun _ _ z=>False.elim z
end
section
variable {st:Stmt}{rest:List Stmt}{t u:TS}
def E4:TS:=fun D σ H=>D.nx σ H
def v8(t u:TS):TS:=fun D σ H=>t { D with nx:=u D } σ H
theorem c1G:PSs X [] E4:=fun _ _ σ H _ I h=>a7V ⟨σ,H,I,h⟩
theorem b9A(h1:PS X st t)(h2:PSs X rest u):PSs X (st::rest) (v8 t u):=by
 intro pins s σ H D I h
 refine wpAny_execs_cons (thn (h1 pins s σ H { D with nx:=u D } I h) fun f s1 q=>?_)
 cases f with
 | next=>
  obtain⟨σ',H',I',q⟩:=q
  exact h2 pins s1 σ' H' D I' q
 | ret v=>exact q
 | brk=>exact q
 | cont=>exact q
theorem c1F(h1:PS X st t):PSs X [st] t:=by
 intro pins s σ H D I h
 refine wpAny_execs_cons (thn (h1 pins s σ H D I h) fun f s1 q=>?_)
 cases f with
 | next=>exact a7V q
 | ret v=>exact q
 | brk=>exact q
 | cont=>exact q
theorem Inv.quiet(I:Inv X pins σ H s):interactive X.env=false:=by simp[interactive,I.ok.kind]
def V3(te:TE):TS:=fun D σ H=>te σ H fun _ H1=>D.nx σ H1
theorem c1I(he:PE X e te)(hs:a1P e none pos.line X.env=pure false:=by rfl):PS X (.Expr e pos) (V3 te):=by
 intro pins s σ H D I h
 exact wpAny_Expr_any (thn (he pins s σ H _ I h) fun v s1 ⟨x,H1,I1,r1,q1⟩=>⟨σ,H1,I1,q1⟩) I.quiet hs
def F7(te:TE):TS:=fun D σ H=>te σ H D.rt
theorem c4C(he:PE X e te):PS X (.Return (some e) pos) (F7 te):=by
 intro pins s σ H D I h
 exact wpAny_Return_some (thn (he pins s σ H _ I h) fun v s1 ⟨x,H1,I1,r1,q1⟩=>⟨x,σ,H1,I1,r1,q1⟩)
def K9(c:TT)(t u:TS):TS:=fun D σ H=>c σ H fun b H1=>if b=true then t D σ H1 else u D σ H1
theorem c6S{a b:List Stmt}{tc:TT}(hc:PT X c tc)(ha:PSs X a t)(hb:PSs X b u):PS X (.If c a b pos) (K9 tc t u):=by
 intro pins s σ H D I h
 refine wpAny_If (thn (hc pins s σ H _ I h) fun d s1 ⟨H1,I1,q1⟩=>?_)
 cases d with
 | true=>exact ha pins s1 σ H1 D I1 q1
 | false=>exact hb pins s1 σ H1 D I1 q1
end
abbrev TG:=V->St->Hp->(St->Hp->Prop)->Prop
variable{g:TG}
abbrev TGs:=List V->St->Hp->(St->Hp->Prop)->Prop
def PG(X:Cx)(target:Expr)(t:TG):Prop:=
 ∀(pins:List (Addr×Obj)) (s:l4) (σ:St) (H:Hp) (v:V) (u:Value) (Q:St->Hp->Prop),Inv X pins σ H s->F1 v u->t v σ H Q ->
  wpAny (model X.prog X.w) X.A (a9O target X.env u) (fun _ s'=>∃σ' H',Inv X pins σ' H' s'/\Q σ' H') X.xe s
def PGs(X:Cx)(ts:List Expr)(t:TGs):Prop:=
 ∀(pins:List (Addr×Obj)) (s:l4) (σ:St) (H:Hp) (vs:List V) (us:List Value) (Q:St->Hp->Prop),Inv X pins σ H s->G6 vs us->t vs σ H Q ->
  wpAny (model X.prog X.w) X.A (assignInOrder ((a0P ts X.env).map (·.2)) us) (fun _ s'=>∃σ' H',Inv X pins σ' H' s'/\Q σ' H') X.xe s
abbrev a9K:=V->V->V->Hp->(Hp->Prop)->Prop
def c0O(X:Cx)(t:a9K):Prop:=
 ∀(pins:List (Addr×Obj)) (s:l4) (σ:St) (H:Hp) (o i v:V) (ov iv u:Value) (Q:Hp->Prop),Inv X pins σ H s->F1 o ov->F1 i iv->F1 v u->t o i v H Q ->
  wpAny (model X.prog X.w) X.A (c3J ov iv u) (fun _ s'=>∃H',Inv X pins σ H' s'/\Q H') X.xe s
abbrev TIp:=V->V->Hp->VK->Prop
def PIp(X:Cx)(op:b7T)(t:TIp):Prop:=
 ∀(pins:List (Addr×Obj)) (s:l4) (σ:St) (H:Hp) (x y:V) (v u:Value) (Q:VK),Inv X pins σ H s->F1 x v->F1 y u->t x y H Q ->
  wpAny (model X.prog X.w) X.A (inplaceOp op v u) (EP X pins σ Q) X.xe s
section
def v5(i:Nat):TG:=fun v σ H Q=>Q (σ.set i (some v)) H
theorem b1m{x:Str}(hN:X.N.Nodup)(hi:X.N[i]? = some x)(hx:Loc X.env.scope x)(hf:X.fn x=true\/X.env.scope.names.lookup x=some .local:=by first | exact .inl rfl | exact .inr rfl | assumption):PG X (.Name x pos) (v5 i):=by
 intro pins s σ H v u Q I r h
 exact b3L (a8p I hN hi hx r (fun s' I'=>⟨_,H,I',h⟩) hf)
def a9F:TGs:=fun vs σ H Q=>vs=[]/\Q σ H
def a0k(t:TG)(u:TGs):TGs:=fun vs σ H Q=>∃v r,vs=v::r/\t v σ H fun σ' H'=>u r σ' H' Q
theorem b5S:PGs X [] a9F:=by
 intro pins s σ H vs us Q I r h
 obtain⟨e,h⟩:=h
 subst e
 cases r
 exact assignInOrder_nil ⟨σ,H,I,h⟩
theorem a8I{t:TG}{u:TGs}(h1:PG X e t)(h2:PGs X es u)
  (hs:(a0P (e::es) X.env).map (·.2)=a9O e X.env::(a0P es X.env).map (·.2):=by rfl):PGs X (e::es) (a0k t u):=by
 intro pins s σ H vs us Q I r h
 obtain⟨v,vr,e1,h⟩:=h
 subst e1
 cases r with
 | cons r rr=>
  rw[hs]
  refine assignInOrder_cons (thn (h1 pins s σ H _ _ _ I r h) fun _ s1 ⟨σ1,H1,I1,q1⟩=>?_)
  exact h2 pins s1 σ1 H1 _ _ Q I1 rr q1
def a9E(K:Fg)(n:Nat)(t:TGs):TG:=fun v σ H Q=>∃a xs,v=.ref a/\SqT K H a xs/\xs.length=n/\t xs σ H Q
theorem b9H{k:Nat}{t:TGs}{n:Nat}(hc:X.calm=true)(h:PGs X es t)
  (hn:(a0P es X.env).length=n:=by rfl) (hst:(a0P es X.env).findIdx? (·.1)=none:=by rfl):PG X (.Tuple es k pos) (a9E X.K n t):=by
 intro pins s σ H v u Q I r hw
 obtain⟨a,xs,e1,hq,hl,hw⟩:=hw
 subst e1
 cases r
 obtain⟨its,rv,ht,hz⟩:=I.tuple hq
 refine assign_Tuple_tuple (I.ok.hd hc) ht (by simp[hn,<-hl,rv.length]) hst fun h' hx=>?_
 have I1:Inv X pins σ H { s with heap:=h' }:=I.kept (t':=s.toks) fun b o e=>hx b o (B0 (o6 e)) e
 exact h pins _ σ H xs _ Q I1 (by simpa using rv) hw
def b3i(to ti:TE)(t:a9K):TG:=fun v σ H Q=>to σ H fun o H1=>ti σ H1 fun i H2=>t o i v H2 fun H3=>Q σ H3
theorem c4I{o i:Expr}{to ti:TE}{t:a9K}(ho:PE X o to)(hi:PE X i ti)(hs:c0O X t)
  (ha:∀v,a9O (.Subscript o i pos) X.env v=(do
   let ov <-a3M [v] (eval o X.env)
   let iv <-a3M [v,ov] (eval i X.env)
   b8d pos
   a3M [v,ov,iv] (c3J ov iv v)
   release [v,ov,iv] []):=by intro _;rfl):PG X (.Subscript o i pos) (b3i to ti t):=by
 intro pins s σ H v u Q I r h
 rw[ha]
 refine d5 (a1N (thn (ho pins s σ H _ I h) fun ov s1 ⟨x,H1,I1,r1,q1⟩=>?_))
 refine d5 (a1N (thn (hi pins s1 σ H1 _ I1 q1) fun iv s2 ⟨y,H2,I2,r2,q2⟩=>?_))
 refine d5 (c3H (d5 (a1N (thn (hs pins s2 σ H2 x y v ov iv u _ I2 r1 r2 r q2) fun _ s3 ⟨H3,I3,q3⟩=>?_))))
 exact wpAny_release ⟨σ,H3,I3,q3⟩
def F2(te:TE)(g:TG):TS:=fun D σ H=>te σ H fun x H1=>g x σ H1 D.nx
theorem c4E(he:PE X e te)(hg:PG X tg g)(hs:swapsWithSole [tg] e pos.line X.env=pure false:=by rfl)(hw:swappedStores [tg] e X.env=pure none:=by rfl)
  (h1:(a0P [tg] X.env).map (·.2)=[a9O tg X.env]:=by rfl):PS X (.Assign [tg] e pos) (F2 te g):=by
 intro pins s σ H D I h
 refine wpAny_Assign_stores (thn (he pins s σ H _ I h) fun v s1 ⟨x,H1,I1,r1,q1⟩=>?_) hs hw
 rw[h1]
 exact thn (hg pins s1 σ H1 x v _ I1 r1 q1) fun _ s2 q=>q
theorem c4B{x:Str}{pos':Pos}(hN:X.N.Nodup)(hi:X.N[i]? = some x)(hx:Loc X.env.scope x)(he:PE X e te)(hs:a1P e (some (.Name x pos')) pos.line X.env=pure false:=by rfl)(hf:X.fn x=true\/X.env.scope.names.lookup x=some .local:=by first | exact .inl rfl | exact .inr rfl | assumption) :
  PS X (.Assign [.Name x pos'] e pos) (F2 te (v5 i)):=by
 intro pins s σ H D I h
 refine wpAny_Assign_Name (thn (he pins s σ H _ I h) fun v s1 ⟨y,H1,I1,r1,q1⟩=>?_) hs
 exact a8p I1 hN hi hx r1 (fun s2 I2=>⟨_,H1,I2,q1⟩) hf
def b5G(to ti te:TE)(tget:V->V->Hp->VK->Prop)(tip:TIp)(tset:a9K):TS:=fun D σ H=>to σ H fun o H1=>ti σ H1 fun i H2=>tget o i H2 fun x H3=>te σ H3 fun y H4=>tip x y H4 fun z H5=>tset o i z H5 fun H6=>D.nx σ H6
def c5W(X:Cx)(t:V->V->Hp->VK->Prop):Prop:=
 ∀(pins:List (Addr×Obj)) (s:l4) (σ:St) (H:Hp) (o i:V) (ov iv:Value) (Q:VK),Inv X pins σ H s->F1 o ov->F1 i iv->t o i H Q ->
  wpAny (model X.prog X.w) X.A (b0z ov iv) (EP X pins σ Q) X.xe s
theorem c1K{o i:Expr}{to ti:TE}{tget:V->V->Hp->VK->Prop}{tip:TIp}{tset:a9K}{op:b7T}{tpos:Pos}(ho:PE X o to)(hi:PE X i ti)(hg:c5W X tget)(he:PE X e te)(hp:PIp X op tip)(hs:c0O X tset)
  (ha:∀ov iv new,augStore i ov iv new=(do a3M [new,ov,iv] (c3J ov iv new);release [new,ov,iv] [];pure .next):=by intros;rfl):PS X (.AugAssign (.Subscript o i tpos) op e pos) (b5G to ti te tget tip tset):=by
 intro pins s σ H D I h
 refine wpAny_AugAssign_SubscriptAny (thn (ho pins s σ H _ I h) fun ov s1 ⟨x1,H1,I1,r1,q1⟩=>?_) ha
 refine thn (hi pins s1 σ H1 _ I1 q1) fun iv s2 ⟨x2,H2,I2,r2,q2⟩=>?_
 refine thn (hg pins s2 σ H2 x1 x2 ov iv _ I2 r1 r2 q2) fun old s3 ⟨x3,H3,I3,r3,q3⟩=>?_
 refine thn (he pins s3 σ H3 _ I3 q3) fun v s4 ⟨x4,H4,I4,r4,q4⟩=>?_
 refine thn (hp pins s4 σ H4 x3 x4 old v _ I4 r3 r4 q4) fun new s5 ⟨x5,H5,I5,r5,q5⟩=>?_
 exact thn (hs pins s5 σ H5 x1 x2 x5 ov iv new _ I5 r1 r2 r5 q5) fun _ s6 ⟨H6,I6,q6⟩=>⟨σ,H6,I6,q6⟩
def ipI(f:Int->Int->Int):TIp:=fun x y H Q=>∃i j,x=.int i/\y=.int j/\Q (.int (f i j)) H
theorem c5J:PIp X .Add (ipI fun i j=>i+j):=by
 intro pins s σ H x y v u Q I r1 r2 h
 obtain⟨i,j,e1,e2,q⟩:=h
 subst e1;subst e2
 obtain⟨t,rfl⟩:=r1
 obtain⟨t',rfl⟩:=r2
 exact iadd_int ⟨.int _,H,I.tok _,⟨_,rfl⟩,q⟩
end
section
def a8k(c:TT)(tb:TS):TS:=fun D σ H=>∃W:Nat->St->Hp->Prop,(∃m,W m σ H)/\∀m σ H,W m σ H ->
 c σ H fun b H1=>if b=true then ∃N:St->Hp->Prop,(∀σ' H',N σ' H'->∃m',m'<m/\W m' σ' H')/\tb { D with nx:=N,ct:=N,bk:=D.nx } σ H1 else D.nx σ H1
theorem b9B{body:List Stmt}{tc:TT}(hp:b2p (model X.prog X.w) X.A X.env X.xe)(hc:PT X c tc)(hb:PSs X body tb):PS X (.While c body [] pos) (a8k tc tb):=by
 intro pins s σ H D I h
 obtain⟨W,⟨m0,w0⟩,turn⟩:=h
 refine wpAny_While (codeAny_whileLoop (fun n s'=>∃σ' H',Inv X pins σ' H' s'/\W n σ' H') ?_ m0 ⟨σ,H,I,w0⟩)
 rintro n s1 ⟨σ1,H1,I1,w1⟩
 refine a0B hp (thn (hc pins s1 σ1 H1 _ I1 (turn n σ1 H1 w1)) fun b s2 ⟨H2,I2,q2⟩=>?_)
 cases b with
 | true=>
  obtain⟨N,hN,q2⟩:=q2
  rw[if_pos rfl]
  refine a0B hp (thn (hb pins s2 σ1 H2 _ I2 q2) fun f s3 q3=>?_)
  cases f with
  | next=>
   obtain⟨σ3,H3,I3,n3⟩:=q3
   obtain⟨m',hm,w3⟩:=hN σ3 H3 n3
   exact⟨m',hm,σ3,H3,I3,w3⟩
  | cont=>
   obtain⟨σ3,H3,I3,n3⟩:=q3
   obtain⟨m',hm,w3⟩:=hN σ3 H3 n3
   exact⟨m',hm,σ3,H3,I3,w3⟩
  | brk=>exact q3
  | ret v=>exact q3
 | false=>
  rw[if_neg u9]
  exact a7V ⟨σ1,H2,I2,q2⟩
end
structure It where
 go:Nat->Hp->Prop
 yld:Nat->Hp->V->Hp->Prop
 stop:Nat->Hp->Prop
def a4K(X:Cx)(pins:List (Addr×Obj))(H:Hp)(b:Addr):Prop:=
 H b=none/\b≠X.env.locals/\b∉X.fs/\(b∈X.ex\/X.s₀.heap.objs.size<=b)/\(∀x c,X.env.cells.lookup x=some c->c≠b)/\∀p∈X.pn++pins,p.1≠b
theorem Inv.fpOk(I:Inv X pins σ H s)(hb:s.heap.objs.size<=b)(hn:H' b=none):a4K X pins H' b:=by
 refine⟨hn,a4O (D4 I.lt hb),I.nofs hb,.inr (I0 I.sz hb),fun x c e z=>?_,fun p hp z=>?_⟩
 ·obtain⟨v,q⟩:=I.cell x c e
  exact absurd (D4 q.lt (by rw[z];exact hb)) (L1 _)
 ·exact absurd (D4 (o6 (I.pin p hp).1) (by rw[z];exact hb)) (L1 _)
structure b1Z(P:D6)(w:World)(K:Fg)(tg:Expr)(J:It)(fp:List Addr)(it:Addr)(tn:Nat->Heap->Prop):Prop where
 mem:it∈fp
 obj:∀i h,tn i h->∀b∈fp,∃o,h.get? b=some o/\∀v,o.data≠.cell v
 keep:∀i h h',tn i h->(∀b∈fp,∀o,h.get? b=some o->h'.get? b=some o)->tn i h'
 item:∀(X:Cx),X.prog=P->X.w=w->X.K=K->X.calm=true->∀(i:Nat) (pins:List (Addr×Obj)) (s:l4) (σ:St) (H:Hp) (E:Value->l4->Prop),Inv X pins σ H s->(∀b∈fp,a4K X pins H b)->tn i s.heap->J.go i H ->
  wpAny (model P w) X.A (c6n (.ref it)) (fun r s1=>∃u,r=some u /\
   wpAny (model P w) X.A (a3L tg (.ref it) u) (fun _ s2=>∃x H',Inv X pins σ H' s2/\F1 x u/\J.yld i H x H'/\tn (i+1) s2.heap/\∀b∈fp,H' b=none) E s1) E s
 done:∀(X:Cx),X.prog=P->X.w=w->X.K=K->X.calm=true->∀(i:Nat) (pins:List (Addr×Obj)) (s:l4) (σ:St) (H:Hp) (E:Value->l4->Prop),Inv X pins σ H s->(∀b∈fp,a4K X pins H b)->tn i s.heap->J.stop i H ->
  wpAny (model P w) X.A (c6n (.ref it)) (fun r s1=>r=none/\Inv X pins σ H s1) E s
 self:∀(A:K7) (i:Nat) (s:l4) (Q:Value->l4->Prop) (E:Value->l4->Prop),tn i s.heap->Q (.ref it) s->wpAny (model P w) A (pyIter (.ref it)) Q E s
abbrev TI:=St->Hp->(It->Hp->Prop)->Prop
def PIE(X:Cx)(pins:List (Addr×Obj))(σ:St)(tg:Expr)(R:It->Hp->Prop)(itv:Value)(s2:l4):Prop:=
 ∃(it:Addr) (fp:List Addr) (tn:Nat->Heap->Prop) (J:It) (H':Hp),itv=.ref it/\Inv X pins σ H' s2/\b1Z X.prog X.w X.K tg J fp it tn/\tn 0 s2.heap/\(∀b∈fp,a4K X pins H' b)/\R J H'
def PI(X:Cx)(tg iter:Expr)(wi:TI):Prop:=
 ∀(pins:List (Addr×Obj)) (s:l4) (σ:St) (H:Hp) (R:It->Hp->Prop),Inv X pins σ H s->wi σ H R ->
  wpAny (model X.prog X.w) X.A (eval iter X.env) (fun v s1=>wpAny (model X.prog X.w) X.A (pyIter v) (PIE X pins σ tg R) X.xe s1) X.xe s
theorem b5W{M:Model}{A:K7}{E:Value->l4->Prop}{it:Addr}{o:Obj}{n:String}{vs:Array Value}{Q:Unit->l4->Prop}(ho:s.heap.get? it=some o)(hc:o.cls=.type n)(hd:o.data=.fields vs)
  (hn:["enumerate","zip","dict_itemiterator","dict_reverseitemiterator","odict_iterator","itertools.zip_longest","itertools.pairwise"].contains n=false) (hQ:Q () s):wpAny M A (a3L tg (.ref it) u) Q E s:=by
 unfold a3L
 cases tg <;> first
  | exact v6 hQ
  | (cases u <;> first
    | exact v6 hQ
    | (refine d5 (wpAny_load ho ?_)
       rw[hc,hd]
       show wpAny M A (if(["enumerate","zip","dict_itemiterator","dict_reverseitemiterator","odict_iterator","itertools.zip_longest","itertools.pairwise"].contains n&&vs[0]? == some (rawInt _))=true then _ else _) Q E s
       rw[if_neg (by intro h;rw[hn,Bool.false_and]at h;cases h)]
       exact v6 hQ))
def Itl(K:Fg)(a:Addr):It:=
 ⟨fun i H=>∃xs x,SqL K H a xs/\xs[i]? = some x,fun i H x H'=>H'=H/\∀xs,SqL K H a xs->xs[i]? = some x,fun i H=>∃xs,SqL K H a xs/\xs.length<=i⟩
def Itr(lo:Int)(n:Nat):It:=⟨fun i _=>i<n,fun i H x H'=>H'=H/\x=.int (lo+i),fun i _=>n<=i⟩
theorem b6A{P:D6}{K:Fg}(a it:Addr):b1Z P w K tg (Itl K a) [it] it (fun i h=>h.IsListIter it a i) where
 mem:=by simp
 obj:=fun i h st b hb=>by
  have e:b=it:=by simpa using hb
  subst e
  obtain⟨o,e,c,d⟩:=st
  exact⟨o,e,fun v z=>by rw[d]at z;cases z⟩
 keep:=fun i h h' st k=>st.at fun o e=>k it (by simp) o e
 item:=by
  intro X hP hw hK hc i pins s σ H E I hf st hg
  subst hP hw hK
  obtain⟨xs,x,hq,hx⟩:=hg
  obtain⟨its,rv,p,hz⟩:=I.list hq
  obtain⟨u,hu,ru⟩:=rv.get hx
  obtain⟨f0,f1,f2,f3,f4,f5⟩:=hf it (by simp)
  refine wpAny_pyNext_list_item st p.isList (x:=u) (by simpa using hu) fun h' st' sb=>?_
  have I1:Inv X pins σ H { s with heap:=h' }:=I.turned (t':=s.toks) (fun b o hb e=>(sb.2 b hb).trans e) f0 f1 f3 f4 f5
  obtain⟨o,e,c,d⟩:=id st'
  exact⟨u,rfl,b5W (s:={ s with heap:=h' }) e c d (by decide) ⟨x,H,I1,ru,⟨rfl,fun ys hy=>by rw[I.list_inj hy hq];exact hx⟩,st',fun b hb=>(hf b hb).1⟩⟩
 done:=by
  intro X hP hw hK hc i pins s σ H E I hf st hg
  subst hP hw hK
  obtain⟨xs,hq,hx⟩:=hg
  obtain⟨its,rv,p,hz⟩:=I.list hq
  obtain⟨f0,f1,f2,f3,f4,f5⟩:=hf it (by simp)
  have hl:=rv.length
  exact wpAny_pyNext_list_end (I.ok.hd hc) st p.isList (by simp;omega) fun h' eb=>⟨rfl,I.turned (t':=s.toks) (fun b o hb e=>eb b o hb e) f0 f1 f3 f4 f5⟩
 self:=fun _ _ _ _ _ st h=>wpAny_pyIter_listiter st h
theorem b3R{P:D6}{K:Fg}(it:Addr)(lo:Int)(n:Nat):b1Z P w K tg (Itr lo n) [it] it (fun i h=>IsRangeIter h it (lo+(i:Nat) * 1) ((n:Int) - (i:Nat)) 1) where
 mem:=by simp
 obj:=fun i h st b hb=>by
  have e:b=it:=by simpa using hb
  subst e
  exact⟨_,st,fun v z=>by
   have z':Data.fields _=Data.cell v:=z
   cases z'⟩
 keep:=fun i h h' st k=>k it (by simp) _ st
 item:=by
  intro X hP hw hK hc i pins s σ H E I hf st hg
  subst hP hw hK
  obtain⟨f0,f1,f2,f3,f4,f5⟩:=hf it (by simp)
  have W:=Walks.range (prog:=X.prog) (w:=X.w) (I.ok.hd hc) it lo 1 n
  refine W.item i s _ _ hg st fun v h' tk hv st' kk=>?_
  obtain⟨t,rfl⟩:=hv
  have I1:Inv X pins σ H { s with heap:=h',toks:=tk }:=I.turned (fun b o hb e=>kk b o (by simpa using hb) e) f0 f1 f3 f4 f5
  refine⟨_,rfl,b5W (s:={ s with heap:=h',toks:=tk }) (n := "range_iterator") st' rfl rfl (by decide) ⟨.int (lo+i),H,I1,⟨t,?_⟩,⟨rfl,rfl⟩,st',fun b hb=>(hf b hb).1⟩⟩
  rw[Int.mul_one]
 done:=by
  intro X hP hw hK hc i pins s σ H E I hf st hg
  subst hP hw hK
  obtain⟨f0,f1,f2,f3,f4,f5⟩:=hf it (by simp)
  exact wpAny_pyNext_range_end (I.ok.hd hc) st (by have:n<=i:=hg;omega) fun h' eb=>⟨rfl,I.turned (t':=s.toks) (fun b o hb e=>eb b o hb e) f0 f1 f3 f4 f5⟩
 self:=fun _ _ _ _ _ st h=>wpAny_pyIter_rangeiter st h
section
def Y6(K:Fg)(tl:TE):TI:=fun σ H R=>tl σ H fun x H1=>∃a,x=.ref a/\(∃xs,SqL K H1 a xs)/\R (Itl K a) H1
theorem c1O{l:Expr}{tl:TE}(hl:PE X l tl):PI X tg l (Y6 X.K tl):=by
 intro pins s σ H R I h
 refine thn (hl pins s σ H _ I h) fun v s1 ⟨x,H1,I1,r1,q1⟩=>?_
 obtain⟨a,e,⟨xs,hq⟩,q⟩:=q1
 subst e
 cases r1
 obtain⟨its,rv,p,hz⟩:=I1.list hq
 refine b3J p.isList ?_
 refine⟨s1.heap.objs.size,[s1.heap.objs.size],_,_,H1,rfl,I1.kept (t':=s1.toks) fun b o e=>g9 _ e,b6A a _,⟨_,C3 _ rfl,rfl,rfl⟩,fun b hb=>?_,q⟩
 have e:b=s1.heap.objs.size:=by simpa using hb
 subst e
 exact I1.fpOk (i9 _) (I1.hok.fresh (i9 _))
theorem b9q{R:It->Hp->Prop}{E:Value->l4->Prop}{lo hi:Int}{t u v:Tok}{tk:Nat}(I:Inv X pins σ H s)(h1 : -(2 ^ 62)<=lo)(h2:lo<2 ^ 62)(h3 : -(2 ^ 62)<=hi)(h4:hi<2 ^ 62)
  (q:R (Itr lo (hi - lo).toNat) H):wpAny (model X.prog X.w) X.A (pyIter (.ref s.heap.objs.size)) (PIE X pins σ tg R) E { s with heap:=s.heap.push { cls:=.type "range",data:=.fields #[.int lo t,.int hi u,.int 1 v] },toks:=tk }:=by
 refine wpAny_pyIter_range (IsRange.new ..) (small_one h1 h2 h3 h4) ?_
 have I1:Inv X pins σ H { s with heap:=s.heap.push { cls:=.type "range",data:=.fields #[.int lo t,.int hi u,.int 1 v] },toks:=tk }:=I.kept fun b o e=>g9 _ e
 refine⟨(s.heap.push { cls:=.type "range",data:=.fields #[.int lo t,.int hi u,.int 1 v] }).objs.size,[(s.heap.push { cls:=.type "range",data:=.fields #[.int lo t,.int hi u,.int 1 v] }).objs.size],_,_,H,rfl,
  I1.kept (t':=tk) fun b o e=>g9 _ e,b3R _ lo (hi - lo).toNat,?_,fun b hb=>?_,q⟩
 ·have e1:lo+((0:Nat):Int) * 1=lo:=by simp
  have e2:(((hi - lo).toNat:Nat):Int) - ((0:Nat):Int)=Builtin.Range.rangeSize lo hi 1:=by rw[rangeSize_one];split <;> omega
  show IsRangeIter _ _ (lo+((0:Nat):Int) * 1) ((((hi - lo).toNat:Nat):Int) - ((0:Nat):Int)) 1
  rw[e1,e2]
  exact C3 _ rfl
 ·have e:b=(s.heap.push { cls:=.type "range",data:=.fields #[.int lo t,.int hi u,.int 1 v] }).objs.size:=by simpa using hb
  subst e
  exact I1.fpOk (i9 _) (I1.hok.fresh (i9 _))
def a1k(ta:TA):TI:=fun σ H R=>ta σ H fun vs H1=>∃j:Int,vs=[.int j] /\ -(2 ^ 62)<=j/\j<2 ^ 62/\R (Itr 0 j.toNat) H1
theorem b6Q{a:Expr}{ta:TA}(hg:Gl X "range")(hm:X.mg "range" = none)(ha:PA X [a] ta)(hs:i8 [a] X.env=[(false,eval a X.env)]:=by rfl):PI X tg (.Call (.Name "range" p) [a] [] pos) (a1k ta):=by
 intro pins s σ H R I h
 refine Call_ (a4j I hg hm boot_range (N7 (thn (ha pos pins s σ H _ I h) fun us s1 ⟨vs,H1,I1,r1,q1⟩=>?_) hs rfl))
 obtain⟨j,e,q1,q2,q⟩:=q1
 subst e
 cases r1 with
 | cons r rr=>
  cases rr
  obtain⟨t,rfl⟩:=r
  exact call_range_1 (b9q I1 (by omega) (by omega) q1 q2 (by simpa using q))
def a1i(wi:TI)(g:TG)(tb:TS):TS:=fun D σ H=>wi σ H fun J H1=>∃W:Nat->Nat->St->Hp->Prop,(∃m,W 0 m σ H1)/\∀i m σ H,W i m σ H ->
 (J.stop i H/\D.nx σ H)\/(J.go i H/\∃N:St->Hp->Prop,(∀σ' H',N σ' H'->∃m',m'<m/\W (i+1) m' σ' H')/\∀x H',J.yld i H x H'->g x σ H' fun σ2 H2=>tb { D with nx:=N,ct:=N,bk:=D.nx } σ2 H2)
def a5f(fp:List Addr)(h:Heap):List (Addr×Obj):=fp.filterMap fun b=>(h.get? b).map fun o=>(b,o)
theorem a0W{fp:List Addr}{o:Obj}(hb:b∈fp)(e:h.get? b=some o):(b,o)∈a5f fp h:=c0Z.mpr ⟨b,hb,by rw[e];rfl⟩
theorem b7c{fp:List Addr}{p:Addr×Obj}(hp:p∈a5f fp h):p.1∈fp/\h.get? p.1=some p.2:=by
 obtain⟨b,hb,e⟩:=c0Z.mp hp
 cases q:h.get? b with
 | none=>rw[q]at e;cases e
 | some o=>
  rw[q]at e
  have e':(b,o)=p:=Option.some.inj e
  subst e'
  exact⟨hb,q⟩
theorem Inv.pinned{fp:List Addr}(I:Inv X pins σ H s)(hf:∀b∈fp,a4K X pins H b)(ho:∀b∈fp,∃o,s.heap.get? b=some o/\∀v,o.data≠.cell v):Inv X (pins++a5f fp s.heap) σ H s:=
 I.pins_of fun p hp=>(C6.mp hp).elim (fun z=>I.pin p (C2 _ z)) fun z=>by
  obtain⟨hb,e⟩:=b7c z
  obtain⟨f0,f1,f2,_⟩:=hf p.1 hb
  obtain⟨o,e',d⟩:=ho p.1 hb
  rw[e]at e';cases e'
  exact⟨e,f0,f1,f2,d⟩
theorem Inv.unpinned{pl:List (Addr×Obj)}(I:Inv X (pins++pl) σ H s):Inv X pins σ H s:=I.pins_of fun p hp=>I.pin p (C2 _ (M3 _ hp))
theorem b9D{iter:Expr}{body:List Stmt}{wi:TI}(hp:b2p (model X.prog X.w) X.A X.env X.xe)(hc:X.calm=true)(hi:PI X tg iter wi)(hg:PG X tg g)(hb:PSs X body tb)
  (hs:∀x,P6 iter X.env x=pure x:=by intro _;rfl):PS X (.For tg iter body [] pos) (a1i wi g tb):=by
 intro pins s σ H D I h
 refine wpAny_For (thn (hi pins s σ H _ I h) fun v s1 h1=>thn h1 fun itv s2 h2=>?_) hs
 obtain⟨it,fp,tn,J,H2,e,I2,T,st2,f2,W,⟨m0,w0⟩,turn⟩:=h2
 subst e
 have stat:∀ {H':Hp},(∀b∈fp,H' b=none)->∀b∈fp,a4K X pins H' b:=fun hn b hb=>⟨hn b hb,(f2 b hb).2⟩
 refine codeAny_forLoop_any (fun n s'=>∃i σ' H',Inv X pins σ' H' s'/\tn i s'.heap/\(∀b∈fp,H' b=none)/\W i n σ' H') ?_ m0 ⟨0,σ,H2,I2,st2,fun b hb=>(f2 b hb).1,w0⟩
 rintro n s3 ⟨i,σ3,H3,I3,st3,fr3,w3⟩
 rcases turn i n σ3 H3 w3 with ⟨stop,qn⟩ | ⟨go,N,hN,step⟩
 ·refine a0B hp (thn (T.done X rfl rfl rfl hc i pins s3 σ3 H3 X.xe I3 (stat fr3) st3 stop) fun r s4 ⟨hr,I4⟩=>?_)
  subst hr
  exact a7V ⟨σ3,H3,I4,qn⟩
 ·refine a0B hp (thn (T.item X rfl rfl rfl hc i pins s3 σ3 H3 X.xe I3 (stat fr3) st3 go) fun r s4 ⟨u,hr,h4⟩=>?_)
  subst hr
  refine a0B hp (thn h4 fun _ s5 ⟨x,H5,I5,r5,y5,st5,fr5⟩=>?_)
  have I5':=I5.pinned (stat fr5) (T.obj _ _ st5)
  refine a0B hp (thn (hg _ s5 σ3 H5 x u _ I5' r5 (step x H5 y5)) fun _ s6 ⟨σ6,H6,I6,q6⟩=>?_)
  refine a0B hp (thn (hb _ s6 σ6 H6 _ I6 q6) fun f s7 q7=>?_)
  have again:∀ {σ7:St} {H7:Hp},Inv X (pins++a5f fp s5.heap) σ7 H7 s7->N σ7 H7->∃m,m<n/\∃i σ' H',Inv X pins σ' H' s7/\tn i s7.heap/\(∀b∈fp,H' b=none)/\W i m σ' H':=fun {σ7 H7} I7 n7=>by
   obtain⟨m',hm,w7⟩:=hN σ7 H7 n7
   refine⟨m',hm,i+1,σ7,H7,I7.unpinned,T.keep _ _ _ st5 fun b hb o e=>(I7.pin (b,o) (C2 _ (C2 _ (a0W hb e)))).1,fun b hb=>?_,w7⟩
   obtain⟨o,e,d⟩:=T.obj _ _ st5 b hb
   exact(I7.pin (b,o) (C2 _ (C2 _ (a0W hb e)))).2.1
  cases f with
  | next=>obtain⟨σ7,H7,I7,n7⟩:=q7;exact again I7 n7
  | cont=>obtain⟨σ7,H7,I7,n7⟩:=q7;exact again I7 n7
  | brk=>obtain⟨σ7,H7,I7,q7⟩:=q7;exact⟨σ7,H7,I7.unpinned,q7⟩
  | ret v=>obtain⟨x7,σ7,H7,I7,r7,q7⟩:=q7;exact⟨x7,σ7,H7,I7.unpinned,r7,q7⟩
end
theorem a1l{K:Fg}{D:a5p}(Pv:Nat->St->Hp->Prop)(h0:Pv 0 σ H)(hl:∀i σ H,i<=xs.length->Pv i σ H->SqL K H a xs)
  (hs:∀i x σ H,xs[i]? = some x->Pv i σ H->g x σ H fun σ2 H2=>tb { D with nx:=Pv (i+1),ct:=Pv (i+1),bk:=D.nx } σ2 H2) (hd:∀σ H,Pv xs.length σ H->D.nx σ H) :
  ∃W:Nat->Nat->St->Hp->Prop,(∃m,W 0 m σ H)/\∀i m σ H,W i m σ H ->
   ((Itl K a).stop i H/\D.nx σ H)\/((Itl K a).go i H/\∃N:St->Hp->Prop,(∀σ' H',N σ' H'->∃m',m'<m/\W (i+1) m' σ' H')/\∀x H',(Itl K a).yld i H x H'->g x σ H' fun σ2 H2=>tb { D with nx:=N,ct:=N,bk:=D.nx } σ2 H2):=by
 refine⟨fun i m σ H=>m=xs.length - i/\i<=xs.length/\Pv i σ H,⟨xs.length,by simp,K0 _,h0⟩,?_⟩
 rintro i m σ H ⟨rfl,hi,p⟩
 have q:=hl i σ H hi p
 by_cases hlt:i<xs.length
 ·refine .inr ⟨⟨xs,xs[i],q,by simp[hlt]⟩,Pv (i+1),fun σ' H' p'=>⟨xs.length - (i+1),by omega,rfl,hlt,p'⟩,fun x H' y=>?_⟩
  obtain⟨e,y⟩:=y
  subst e
  exact hs i x σ _ (y xs q) p
 ·have e:i=xs.length:=by omega
  subst e
  exact .inl ⟨⟨xs,q,i9 _⟩,hd σ H p⟩
theorem Z8{lo:Int}{n:Nat}{D:a5p}(Pv:Nat->St->Hp->Prop)(h0:Pv 0 σ H)
  (hs:∀i σ H,i<n->Pv i σ H->g (.int (lo+i)) σ H fun σ2 H2=>tb { D with nx:=Pv (i+1),ct:=Pv (i+1),bk:=D.nx } σ2 H2) (hd:∀σ H,Pv n σ H->D.nx σ H) :
  ∃W:Nat->Nat->St->Hp->Prop,(∃m,W 0 m σ H)/\∀i m σ H,W i m σ H ->
   ((Itr lo n).stop i H/\D.nx σ H)\/((Itr lo n).go i H/\∃N:St->Hp->Prop,(∀σ' H',N σ' H'->∃m',m'<m/\W (i+1) m' σ' H')/\∀x H',(Itr lo n).yld i H x H'->g x σ H' fun σ2 H2=>tb { D with nx:=N,ct:=N,bk:=D.nx } σ2 H2):=by
 refine⟨fun i m σ H=>m=n - i/\i<=n/\Pv i σ H,⟨n,by simp,K0 _,h0⟩,?_⟩
 rintro i m σ H ⟨rfl,hi,p⟩
 by_cases hlt:i<n
 ·refine .inr ⟨hlt,Pv (i+1),fun σ' H' p'=>⟨n - (i+1),by omega,rfl,hlt,p'⟩,fun x H' y=>?_⟩
  obtain⟨e,y⟩:=y
  subst e y
  exact hs i σ _ hlt p
 ·have e:i=n:=by omega
  subst e
  exact .inl ⟨i9 _,hd σ H p⟩
abbrev R2:=V->V->Hp->VK->Prop
def OpR(X:Cx)(f:Value->Value->Sem Value)(r:R2):Prop:=
 ∀(pins:List (Addr×Obj)) (s:l4) (σ:St) (H:Hp) (x y:V) (v u:Value) (Q:VK),Inv X pins σ H s->F1 x v->F1 y u->r x y H Q ->
  wpAny (model X.prog X.w) X.A (f v u) (EP X pins σ Q) X.xe s
def UnR(X:Cx)(f:Value->Sem Value)(r:V->Hp->VK->Prop):Prop:=
 ∀(pins:List (Addr×Obj)) (s:l4) (σ:St) (H:Hp) (x:V) (v:Value) (Q:VK),Inv X pins σ H s->F1 x v->r x H Q ->
  wpAny (model X.prog X.w) X.A (f v) (EP X pins σ Q) X.xe s
def V6(X:Cx)(f:Value)(r:List V->Hp->VK->Prop):Prop:=
 ∀(pins:List (Addr×Obj)) (s:l4) (σ:St) (H:Hp) (xs:List V) (us:List Value) (Q:VK),Inv X pins σ H s->G6 xs us->r xs H Q ->
  wpAny (model X.prog X.w) X.A (call f us) (EP X pins σ Q) X.xe s
def tOp(r:R2)(ta tb:TE):TE:=fun σ H Q=>ta σ H fun x H1=>tb σ H1 fun y H2=>r x y H2 Q
def tUn(r:V->Hp->VK->Prop)(ta:TE):TE:=fun σ H Q=>ta σ H fun x H1=>r x H1 Q
def rI(C:Int->Int->Prop)(g:Int->Int->V):R2:=fun x y H Q=>∃i j,x=.int i/\y=.int j/\C i j/\Q (g i j) H
def rI0(g:Int->Int->V):R2:=fun x y H Q=>∃i j,x=.int i/\y=.int j/\Q (g i j) H
def rU(g:Int->V):V->Hp->VK->Prop:=fun x H Q=>∃i,x=.int i/\Q (g i) H
section
variable {a b:Expr}{tb tc:TE}
theorem c5P(ha:PE X a ta)(hb:PE X b tb){R:V->V->Hp->Prop}(I:Inv X pins σ H s)
  (h:ta σ H fun x H1=>tb σ H1 fun y H2=>R x y H2) {Q:Value->l4->Prop} {f:Value->Value->Sem Value}
  (hf:∀v u s2 x y H2,Inv X pins σ H2 s2->F1 x v->F1 y u->R x y H2->wpAny (model X.prog X.w) X.A (f v u) Q X.xe s2) :
  wpAny (model X.prog X.w) X.A (eval a X.env) (fun v s₁=>wpAny (model X.prog X.w) X.A (eval b X.env) (fun u s₂=>wpAny (model X.prog X.w) X.A (f v u) Q X.xe s₂) X.xe s₁) X.xe s:=by
 refine thn (ha pins s σ H _ I h) fun v s1 ⟨x,H1,I1,r1,q1⟩=>?_
 refine thn (hb pins s1 σ H1 _ I1 q1) fun u s2 ⟨y,H2,I2,r2,q2⟩=>?_
 exact hf v u s2 x y H2 I2 r1 r2 q2
theorem c6V{op:b7T}{r:R2}(ho:OpR X (X0 op) r)(ha:PE X a ta)(hb:PE X b tb):PE X (.BinOp a op b pos) (tOp r ta tb):=by
 intro pins s σ H Q I h
 exact wpAny_BinOp (c5P ha hb I h fun v u s2 x y H2 I2 rx ry q=>ho pins s2 σ H2 x y v u Q I2 rx ry q)
theorem c6T{op:UnaryOp}{r:V->Hp->VK->Prop}(ho:UnR X (unaryOp op) r)(ha:PE X a ta):PE X (.UnaryOp op a pos) (tUn r ta):=by
 intro pins s σ H Q I h
 exact UnaryOp_ (thn (ha pins s σ H _ I h) fun v s1 ⟨x,H1,I1,r1,q1⟩=>ho pins s1 σ H1 x v Q I1 r1 q1)
theorem opI{f:Value->Value->Sem Value}{C:Int->Int->Prop}{g:Int->Int->Int}
  (rule:∀(i j:Int) (t u:Tok) (s:l4) (Q:Value->l4->Prop) (E:Value->l4->Prop),C i j->Q (.int (g i j) s.toks) { s with toks:=s.toks+1 }->wpAny (model X.prog X.w) X.A (f (.int i t) (.int j u)) Q E s) :
  OpR X f (rI C fun i j=>.int (g i j)):=by
 intro pins s σ H x y v u Q I rx ry h
 obtain⟨i,j,rfl,rfl,hc,q⟩:=h
 obtain⟨t,rfl⟩:=rx
 obtain⟨t',rfl⟩:=ry
 exact rule i j t t' s _ _ hc ⟨.int (g i j),H,I.tok _,⟨_,rfl⟩,q⟩
theorem c7g{f:Value->Value->Sem Value}{g:Int->Int->Int}
  (rule:∀(i j:Int) (t u:Tok) (s:l4) (Q:Value->l4->Prop) (E:Value->l4->Prop),Q (.int (g i j) s.toks) { s with toks:=s.toks+1 }->wpAny (model X.prog X.w) X.A (f (.int i t) (.int j u)) Q E s) :
  OpR X f (rI0 fun i j=>.int (g i j)):=by
 intro pins s σ H x y v u Q I rx ry h
 obtain⟨i,j,rfl,rfl,q⟩:=h
 obtain⟨t,rfl⟩:=rx
 obtain⟨t',rfl⟩:=ry
 exact rule i j t t' s _ _ ⟨.int (g i j),H,I.tok _,⟨_,rfl⟩,q⟩
theorem c2m{f:Value->Value->Sem Value}{g:Int->Int->Bool}
  (rule:∀(i j:Int) (t u:Tok) (s:l4) (Q:Value->l4->Prop) (E:Value->l4->Prop),Q (.bool (g i j)) s->wpAny (model X.prog X.w) X.A (f (.int i t) (.int j u)) Q E s) :
  OpR X f (rI0 fun i j=>.bl (g i j)):=by
 intro pins s σ H x y v u Q I rx ry h
 obtain⟨i,j,rfl,rfl,q⟩:=h
 obtain⟨t,rfl⟩:=rx
 obtain⟨t',rfl⟩:=ry
 exact rule i j t t' s _ _ ⟨.bl (g i j),H,I,rfl,q⟩
def c3a(i j:Int):Prop:=(-(2 ^ 64)<i/\i<2 ^ 64)\/(-(2 ^ 64)<j/\j<2 ^ 64)
theorem c3a.ok{i j:Int}(h:c3a i j):IntMulOk i j:=by
 rcases h with ⟨h1,h2⟩ | ⟨h1,h2⟩
 ·exact .of_left (intBits_le_64 h1 h2)
 ·exact .of_right (intBits_le_64 h1 h2)
theorem c5l:OpR X (X0 .Add) (rI0 fun i j=>.int (i+j)):=c7g fun _ _ _ _ _ _ _ q=>add_int q
theorem c4Z:OpR X (X0 .Sub) (rI0 fun i j=>.int (i - j)):=c7g fun _ _ _ _ _ _ _ q=>sub_int q
theorem c5i:OpR X (X0 .Mult) (rI c3a fun i j=>.int (i * j)):=opI fun _ _ _ _ _ _ _ hc q=>mul_int q hc.ok
theorem c5j:OpR X (X0 .Mod) (rI (fun _ j=>0<j) fun i j=>.int (i % j)):=opI fun i j _ _ _ _ _ hc q=>by
 have h1:(0:Int)<j:=hc
 exact mod_int' (by omega) (by rw[Int.fmod_eq_emod_of_nonneg i (by omega)];exact q)
theorem unI{f:Value->Sem Value}{g:Int->Int}
  (rule:∀(i:Int) (t:Tok) (s:l4) (Q:Value->l4->Prop) (E:Value->l4->Prop),Q (.int (g i) s.toks) { s with toks:=s.toks+1 }->wpAny (model X.prog X.w) X.A (f (.int i t)) Q E s) :
  UnR X f (rU fun i=>.int (g i)):=by
 intro pins s σ H x v Q I rx h
 obtain⟨i,rfl,q⟩:=h
 obtain⟨t,rfl⟩:=rx
 exact rule i t s _ _ ⟨.int (g i),H,I.tok _,⟨_,rfl⟩,q⟩
theorem c3O:UnR X (unaryOp .USub) (rU fun i=>.int (-i)):=unI fun _ _ _ _ _ q=>neg_int q
end
def b2G:V->V->Bool
 | .non,.non=>true | .non,.int _=>true | .int _,.non=>true | .non,.bl _=>true | .bl _,.non=>true | .non,.str _=>true | .str _,.non=>true
 | .int _,.int _=>true | .bl _,.bl _=>true | .str _,.str _=>true | .byt _,.byt _=>true
 | .int _,.str _=>true | .str _,.int _=>true | .bl _,.str _=>true | .str _,.bl _=>true
 | _,_=>false
def rEq:R2:=fun x y H Q=>b2G x y=true/\Q (.bl (decide (x=y))) H
def rNe:R2:=fun x y H Q=>b2G x y=true/\Q (.bl (!decide (x=y))) H
theorem b6a{i j:Int}:decide (V.int i=V.int j)=(i == j):=by
 rw[a0N]
 simp
theorem c0B{i j:Bool}:decide (V.bl i=V.bl j)=(i == j):=by
 rw[a0N]
 simp
theorem b5Z{i j:Str}:decide (V.str i=V.str j)=(i == j):=by
 rw[a0N]
 simp
theorem b6b{i j:Array UInt8}:decide (V.byt i=V.byt j)=(i.toList == j.toList):=by
 rw[a0N]
 cases i
 cases j
 simp
section
variable {a b:Expr}{tb tc:TE}
theorem N5{Q:VK}{k k':Bool}(I:Inv X pins σ H s)(q:Q (.bl k) H)(e:k=k'):EP X pins σ Q (.bool k') s:=by
 subst e
 exact⟨.bl k,H,I,rfl,q⟩
theorem c7f:OpR X (A3 .Eq) rEq:=by
 intro pins s σ H x y v u Q I rx ry h
 obtain⟨hs,q⟩:=h
 cases x with
 | non=>
  cases rx
  cases y with
  | non=>cases ry;exact PySem.EqNone.eq_none_none (N5 I q (by simp))
  | bl j=>cases ry;exact PySem.EqNone.eq_none_bool (N5 I q (by simp))
  | int j=>obtain⟨t',rfl⟩:=ry;exact PySem.EqNone.eq_none_int (N5 I q (by simp))
  | str j=>obtain⟨t',rfl⟩:=ry;exact PySem.EqNone.eq_none_str (N5 I q (by simp))
  | _=>exact absurd (show false=true from hs) u9
 | bl i=>
  cases rx
  cases y with
  | non=>cases ry;exact PySem.EqNone.eq_bool_none (N5 I q (by simp))
  | bl j=>cases ry;exact eq_bool (N5 I q c0B)
  | str j=>obtain⟨t',rfl⟩:=ry;exact PySem.EqMixed.eq_bool_str (N5 I q (by simp))
  | _=>exact absurd (show false=true from hs) u9
 | int i=>
  obtain⟨t,rfl⟩:=rx
  cases y with
  | non=>cases ry;exact PySem.EqNone.eq_int_none (N5 I q (by simp))
  | int j=>obtain⟨t',rfl⟩:=ry;exact eq_int (N5 I q b6a)
  | str j=>obtain⟨t',rfl⟩:=ry;exact PySem.EqMixed.eq_int_str (N5 I q (by simp))
  | _=>exact absurd (show false=true from hs) u9
 | str i=>
  obtain⟨t,rfl⟩:=rx
  cases y with
  | non=>cases ry;exact PySem.EqNone.eq_str_none (N5 I q (by simp))
  | bl j=>cases ry;exact PySem.EqMixed.eq_str_bool (N5 I q (by simp))
  | int j=>obtain⟨t',rfl⟩:=ry;exact PySem.EqMixed.eq_str_int (N5 I q (by simp))
  | str j=>obtain⟨t',rfl⟩:=ry;exact eq_str (N5 I q b5Z)
  | _=>exact absurd (show false=true from hs) u9
 | byt i=>
  obtain⟨t,rfl⟩:=rx
  cases y with
  | byt j=>obtain⟨t',rfl⟩:=ry;exact PySem.W.eq_bytes (N5 I q b6b)
  | _=>exact absurd (show false=true from hs) u9
 | _=>cases y <;> exact absurd (show false=true from hs) u9
theorem c7a:OpR X (A3 .NotEq) rNe:=by
 intro pins s σ H x y v u Q I rx ry h
 obtain⟨hs,q⟩:=h
 cases x with
 | non=>
  cases rx
  cases y with
  | non=>cases ry;exact PySem.EqNone.ne_none_none (N5 I q (by simp))
  | bl j=>cases ry;exact PySem.EqNone.ne_none_bool (N5 I q (by simp))
  | int j=>obtain⟨t',rfl⟩:=ry;exact PySem.EqNone.ne_none_int (N5 I q (by simp))
  | str j=>obtain⟨t',rfl⟩:=ry;exact PySem.EqNone.ne_none_str (N5 I q (by simp))
  | _=>exact absurd (show false=true from hs) u9
 | bl i=>
  cases rx
  cases y with
  | non=>cases ry;exact PySem.EqNone.ne_bool_none (N5 I q (by simp))
  | bl j=>cases ry;exact ne_bool (N5 I q (congrArg not c0B))
  | str j=>obtain⟨t',rfl⟩:=ry;exact PySem.EqMixed.ne_bool_str (N5 I q (by simp))
  | _=>exact absurd (show false=true from hs) u9
 | int i=>
  obtain⟨t,rfl⟩:=rx
  cases y with
  | non=>cases ry;exact PySem.EqNone.ne_int_none (N5 I q (by simp))
  | int j=>obtain⟨t',rfl⟩:=ry;exact ne_int (N5 I q (congrArg not b6a))
  | str j=>obtain⟨t',rfl⟩:=ry;exact PySem.EqMixed.ne_int_str (N5 I q (by simp))
  | _=>exact absurd (show false=true from hs) u9
 | str i=>
  obtain⟨t,rfl⟩:=rx
  cases y with
  | non=>cases ry;exact PySem.EqNone.ne_str_none (N5 I q (by simp))
  | bl j=>cases ry;exact PySem.EqMixed.ne_str_bool (N5 I q (by simp))
  | int j=>obtain⟨t',rfl⟩:=ry;exact PySem.EqMixed.ne_str_int (N5 I q (by simp))
  | str j=>obtain⟨t',rfl⟩:=ry;exact ne_str (N5 I q (congrArg not b5Z))
  | _=>exact absurd (show false=true from hs) u9
 | byt i=>
  obtain⟨t,rfl⟩:=rx
  cases y with
  | byt j=>obtain⟨t',rfl⟩:=ry;exact PySem.W.ne_bytes (N5 I q (congrArg not b6b))
  | _=>exact absurd (show false=true from hs) u9
 | _=>cases y <;> exact absurd (show false=true from hs) u9
theorem c7b:OpR X (A3 .Lt) (rI0 fun i j=>.bl (decide (i<j))):=c2m fun _ _ _ _ _ _ _ q=>lt_int q
theorem c7c:OpR X (A3 .LtE) (rI0 fun i j=>.bl (decide (i<=j))):=c2m fun _ _ _ _ _ _ _ q=>le_int q
theorem c7d:OpR X (A3 .Gt) (rI0 fun i j=>.bl (decide (j<i))):=c2m fun _ _ _ _ _ _ _ q=>gt_int q
theorem c7e:OpR X (A3 .GtE) (rI0 fun i j=>.bl (decide (j<=i))):=c2m fun _ _ _ _ _ _ _ q=>ge_int q
theorem b6W:OpR X (A3 .In) (fun x y H Q=>∃i j,x=.str i/\y=.str j/\Q (.bl (!(Builtin.Str.occurrences j i 0 j.length 1).isEmpty)) H):=by
 intro pins s σ H x y v u Q I rx ry h
 obtain⟨i,j,rfl,rfl,q⟩:=h
 obtain⟨t,rfl⟩:=rx
 obtain⟨t',rfl⟩:=ry
 exact in_str (N5 I q rfl)
theorem c2l:OpR X (A3 .IsNot) (fun x y H Q=>y=.non/\Q (.bl (!decide (x=.non))) H):=by
 intro pins s σ H x y v u Q I rx ry h
 obtain⟨rfl,q⟩:=h
 cases ry
 refine isnot_none_gen (N5 I q ?_)
 cases x <;> first
  | (cases rx;rfl)
  | (obtain⟨t,rfl⟩:=rx;rfl)
theorem OpR.or{f:Value->Value->Sem Value}{r r':R2}(h:OpR X f r)(h':OpR X f r'):OpR X f (fun x y H Q=>r x y H Q\/r' x y H Q):=by
 intro pins s σ H x y v u Q I rx ry q
 rcases q with q | q
 ·exact h pins s σ H x y v u Q I rx ry q
 ·exact h' pins s σ H x y v u Q I rx ry q
theorem a4g(b:Expr){op:CmpOp}(h:op≠.In:=by decide)(h2:op≠.NotIn:=by decide):Q3 op b=false:=by
 have e1:(op == CmpOp.In)=false:=by cases op <;> first | rfl | exact absurd rfl h
 have e2:(op == CmpOp.NotIn)=false:=by cases op <;> first | rfl | exact absurd rfl h2
 cases b <;> simp[Q3,e1,e2]
theorem c1W{op:CmpOp}{r:R2}(ho:OpR X (A3 op) r)(ha:PE X a ta)(hb:PE X b tb)(hm:Q3 op b=false):PE X (.Compare a [op] [b] pos) (tOp r ta tb):=by
 intro pins s σ H Q I h
 exact wpAny_Compare1 (c5P ha hb I h fun v u s2 x y H2 I2 rx ry q=>ho pins s2 σ H2 x y v u Q I2 rx ry q) hm
def D5(t:TE):TT:=fun σ H Q=>t σ H fun x H'=>∃k,x=.bl k/\Q k H'
theorem c1E{op:CmpOp}{r:R2}(ho:OpR X (A3 op) r)(ha:PE X a ta)(hb:PE X b tb)(hm:Q3 op b=false):PT X (.Compare a [op] [b] pos) (D5 (tOp r ta tb)):=by
 intro pins s σ H Q I h
 refine c6k (thn (ha pins s σ H _ I h) fun v s1 ⟨x,H1,I1,r1,q1⟩=>thn (hb pins s1 σ H1 _ I1 q1) fun u s2 ⟨y,H2,I2,r2,q2⟩=>
  thn (ho pins s2 σ H2 x y v u _ I2 r1 r2 q2) fun c s3 ⟨z,H3,I3,r3,k,e,q3⟩=>?_) hm
 subst e
 cases r3
 exact L5 ⟨H3,I3,q3⟩
def a2x(r r':R2)(ta tb tc:TE):TE:=fun σ H Q=>ta σ H fun x H1=>tb σ H1 fun y H2=>r x y H2 fun z H3=>∃k,z=.bl k /\
 (if k=true then tc σ H3 fun w' H4=>r' y w' H4 Q else Q (.bl false) H3)
theorem b9N{op op':CmpOp}{r r':R2}(ho:OpR X (A3 op) r)(ho':OpR X (A3 op') r')(ha:PE X a ta)(hb:PE X b tb)(hc:PE X c tc)
  (hm:c6o [op,op'] [b,c]=false:=by with_unfolding_all rfl):PE X (.Compare a [op,op'] [b,c] pos) (a2x r r' ta tb tc):=by
 intro pins s σ H Q I h
 refine Compare_chain (thn (ha pins s σ H _ I h) fun v s1 ⟨x,H1,I1,r1,q1⟩=>chain_link (thn (hb pins s1 σ H1 _ I1 q1) fun u s2 ⟨y,H2,I2,r2,q2⟩=>
  thn (ho pins s2 σ H2 x y v u _ I2 r1 r2 q2) fun d s3 ⟨z,H3,I3,r3,k,e,q3⟩=>?_)) hm
 subst e
 cases r3
 refine L5 ?_
 cases k with
 | false=>exact ite_ff ⟨.bl false,H3,I3,rfl,q3⟩
 | true=>exact ite_tt (chain_last (thn (hc pins s3 σ H3 _ I3 q3) fun w' s4 ⟨z',H4,I4,r4,q4⟩=>ho' pins s4 σ H4 y z' u w' Q I4 r2 r4 q4))
theorem b9z{op op':CmpOp}{r r':R2}(ho:OpR X (A3 op) r)(ho':OpR X (A3 op') r')(ha:PE X a ta)(hb:PE X b tb)(hc:PE X c tc)
  (hm:c6o [op,op'] [b,c]=false:=by with_unfolding_all rfl):PT X (.Compare a [op,op'] [b,c] pos) (D5 (a2x r r' ta tb tc)):=by
 intro pins s σ H Q I h
 refine isTrue_chain (thn (ha pins s σ H _ I h) fun v s1 ⟨x,H1,I1,r1,q1⟩=>test_link (thn (hb pins s1 σ H1 _ I1 q1) fun u s2 ⟨y,H2,I2,r2,q2⟩=>
  thn (ho pins s2 σ H2 x y v u _ I2 r1 r2 q2) fun d s3 ⟨z,H3,I3,r3,k,e,q3⟩=>?_)) hm
 subst e
 cases r3
 refine L5 ?_
 cases k with
 | false=>
  obtain⟨k',e',q'⟩:=q3
  cases e'
  exact ite_ff ⟨H3,I3,q'⟩
 | true=>
  refine ite_tt (test_last (thn (hc pins s3 σ H3 _ I3 q3) fun w' s4 ⟨z',H4,I4,r4,q4⟩=>thn (ho' pins s4 σ H4 y z' u w' _ I4 r2 r4 q4) fun d' s5 ⟨z2,H5,I5,r5,k2,e2,q5⟩=>?_))
  subst e2
  cases r5
  exact L5 ⟨H5,I5,q5⟩
theorem a5m:(u8:Nat)<2 ^ 63:=by rw[sizeLine_eq];decide
theorem b4B:OpR X (X0 .Add) (fun x y H Q=>∃i j,x=.str i/\y=.str j/\i.length+j.length<=u8/\Q (.str (i++j)) H):=by
 intro pins s σ H x y v u Q I rx ry h
 obtain⟨i,j,rfl,rfl,hz,q⟩:=h
 obtain⟨t,rfl⟩:=rx
 obtain⟨t',rfl⟩:=ry
 exact add_str (fun t' tk=>⟨.str (i++j),H,I.tok _,⟨_,rfl⟩,q⟩) hz
theorem a3U{x:V}(r:G6 [x] us):∃u,us=[u]/\F1 x u:=by
 cases r with
 | cons r1 r2=>cases r2;exact⟨_,rfl,r1⟩
theorem b8v{x:V}(r:G6 [x,y] us):∃u w',us=[u,w']/\F1 x u/\F1 y w':=by
 cases r with
 | cons r1 r2=>
  cases r2 with
  | cons r3 r4=>cases r4;exact⟨_,_,rfl,r1,r3⟩
theorem c0I:V6 X (.builtin "abs") (fun xs H Q=>∃i,xs=[.int i]/\Q (.int (if i<0 then -i else i)) H):=by
 intro pins s σ H xs us Q I r h
 obtain⟨i,rfl,q⟩:=h
 obtain⟨u,rfl,t,rfl⟩:=a3U r
 exact call_abs_int fun u tk=>⟨.int (if i<0 then -i else i),H,I.tok _,⟨_,rfl⟩,q⟩
theorem b7I(hc:X.calm=true):V6 X (.builtin "min") (fun xs H Q=>∃i j,xs=[.int i,.int j]/\Q (.int (if j<i then j else i)) H):=by
 intro pins s σ H xs us Q I r h
 obtain⟨i,j,rfl,q⟩:=h
 obtain⟨u,w',rfl,⟨t,rfl⟩,⟨t',rfl⟩⟩:=b8v r
 refine min_two_ints (I.ok.hd hc) fun h' tk k=>⟨_,H,I.kept k,?_,q⟩
 by_cases hj:j<i
 ·rw[if_pos hj,if_pos hj];exact⟨_,rfl⟩
 ·rw[if_neg hj,if_neg hj];exact⟨_,rfl⟩
theorem b7J:V6 X (.type "int") (fun xs H Q=>(∃i,xs=[.int i]/\Q (.int i) H)\/∃k,xs=[.bl k]/\Q (.int (if k then 1 else 0)) H):=by
 intro pins s σ H xs us Q I r h
 rcases h with ⟨i,rfl,q⟩ | ⟨k,rfl,q⟩
 ·obtain⟨u,rfl,t,rfl⟩:=a3U r
  exact call_int_int ⟨.int i,H,I,⟨_,rfl⟩,q⟩
 ·obtain⟨u,rfl,r1⟩:=a3U r
  cases r1
  exact call_int_bool ⟨.int (if k then 1 else 0),H,I.tok _,⟨_,rfl⟩,q⟩
end
structure b5j(h:Heap)(x dx C:Addr)(mA:Str->Option Value):Prop where
 obj:h.get? x=some (V8 C dx)
 ns:h.Ns1 dx mA
 ne:dx≠x
theorem b7j{mA:Str->Option Value}(n:h.Ns1 dx mA):∃od,h.get? dx=some od/\∀name,a4L name od=some (mA name):=by
 obtain⟨o,es,ep,ho,hd,hk,_,hm⟩:=n
 refine⟨o,ho,fun name=>?_⟩
 have e:=hm name
 unfold nsFind findBy at e
 rw[<-Array.find?_toList]at e
 unfold a4L
 rw[hd]
 dsimp only
 split
 ·rename_i y q
  rw[q]at e
  exact congrArg some e
 ·rename_i q
  rw[q]at e
  have a:es.toList.any (·.refKey)=false:=by
   rw[List.any_eq_false]
   intro y hy
   obtain⟨z,t,hkey⟩:=hk y (Array.mem_toList_iff.mp hy)
   simp[DictEntry.refKey,hkey]
  have a':¬es.toList.any (·.refKey)=true:=by rw[a];exact u9
  rw[if_neg a']
  exact congrArg some e
theorem b5j.look{x:Addr}{mA:Str->Option Value}(I:b5j h x dx C mA):∃od,PySem.W.InstAt h x (V8 C dx) C (some od)/\∀name,a4L name od=some (mA name):=
 let⟨od,ho,hl⟩:=b7j I.ns
 ⟨od,⟨I.obj,rfl,rfl,ho⟩,hl⟩
section
variable {prog:D6}{A:K7}{E:Value->l4->Prop}{K:Fg}{x:Addr}{mA:Str->Option Value}{name:Str}{v:Value}
theorem c2N{expr:Bool}(X:K.In s.heap)(I:b5j s.heap x dx C mA)(hg:a1n K C name=true)(hh:a2C K C=true)
  (ha:F3 K (.ref C) name=some none) (hv:mA name=some v) (hv':c0T v=true) (h:Q v { s with toks:=s.toks+1 }) :
  wpAny (model prog w) A (getAttr (.ref x) name expr) Q E s:=by
 obtain⟨od,J,hl⟩:=I.look
 exact PySem.W.get_value X J (a5r hg).1 (PySem.W.findObj_own hh ha rfl (by rw[hl,hv])) hv' h
theorem c0y{pl:Sem Bool}{Q:Value×List Value->l4->Prop}(X:K.In s.heap)(I:b5j s.heap x dx C mA)(hg:a1n K C name=true)
  (hf:F3 K (.ref C) name=some (some (.ref f))) (ht:a6W K (.ref f)=true) (hv:mA name=none) (h:Q (.ref f,[.ref x]) s) :
  wpAny (model prog w) A (b8e (.ref x) name pl) Q E s:=by
 obtain⟨od,J,hl⟩:=I.look
 exact PySem.W.method_fn X J (a5r hg).1 (a5r hg).2 hf (beq_iff_eq.mp ht) (by show(a4L name od).map (·.isSome)=some false;rw[hl,hv];rfl) h
theorem c1n{ns:List Str}{Q:Unit->l4->Prop}(X:K.In s.heap)(I:b5j s.heap x dx C mA)
  (hs:F3 K (.ref C) "__setattr__" = some (some (.builtin "object.__setattr__"))) (hp:a6U K C=true) (ht:a9o K C name=some none) (hh:a2C K C=true)
  (hw:PySem.Within mA ns) (hsz:ns.length<=u8)
  (h:∀h',b5j h' x dx C (fun y=>if y=name then some v else mA y)->Heap.SameBut dx s.heap h'->Q () { s with heap:=h',toks:=s.toks+2 }) :
  wpAny (model prog w) A (setAttr (.ref x) name v) Q E s:=by
 obtain⟨od,J,hl⟩:=I.look
 refine PySem.W.set_plain X J hs (PySem.W.osa_open (s:={ s with toks:=s.toks+1 }) (r:=none) X J hp ht fun b=>?_)
 obtain⟨cd,hc,hd'⟩:=PySem.W.any_some hh
 have hx:s.heap.get? x=some ⟨.ref C,some dx,.plain,#[]⟩:=I.obj
 refine d5 (v6 (d5 (d5 (wpAny_loadPart hx (d5 (PySem.W.Looks.here (s:={ s with toks:=s.toks+1 }) (PySem.W.looks_clsIn X hc) ?_))))))
 rw[hd']
 refine v6 (a:=some dx) (d5 (v6 (d5 ?_)))
 refine wpAny_nsSet1 (s:={ s with toks:=s.toks+1 }) I.ns fun h' hn2 hs2=>?_
 obtain⟨oD,esD,epD,hoD,hdD,hcD⟩:=hn2.count (PySem.Within.cons name v hw)
 refine d5 (wpAny_lookBehind hoD (by rw[hdD];exact pastItsLine_dict (I0 hcD (by rw[C1];omega))) ?_)
 exact v6 (h _ ⟨(hs2.2 _ (Ne.symm I.ne)).trans I.obj,hn2,I.ne⟩ hs2)
theorem c0l{R:b5r->l4->Prop}{vs:List Value}{kw:List (Str×Value)}(X:K.In s.heap)(hm:a3J K C=true)
  (hi:F3 K (.ref C) "__init__" = some (some (.ref f))) (hf:PySem.W.typeIn K (.ref f)=some (.type "function"))
  (h:a2T (model prog w) (A.under (.builtin "type.__call__" ⟨.ref C::vs,kw⟩)) (.call (.ref f) ⟨.ref (s.heap.objs.size+1)::vs,kw⟩) (PySem.W.InitBack (s.heap.objs.size+1) R)
   { s with heap:=(s.heap.push O6).push (V8 C s.heap.objs.size) }) :
  a2T (model prog w) A (.call (.ref C) ⟨vs,kw⟩) R s:=by
 obtain⟨hh,g,d,t,os⟩:=s
 exact PySem.W.make_core (PySem.W.makes_of X hm) (PySem.W.looks_findIn X hi) (fun self=>PySem.W.bind_fn X self hf) (.inl rfl) h
end
def a2h(f:Str)(v:V):List (Str×V)->List (Str×V)
 | []=>[(f,v)]
 | (g,x)::r=>if g=f then (g,v)::r else (g,x)::a2h f v r
theorem a7i(f g:Str)(v:V):∀fs:List (Str×V),(a2h f v fs).lookup g=if g=f then some v else fs.lookup g
 | []=>by
  show a1M g [(f,v)]=_
  by_cases h:g=f
  ·have hb:(g == f)=true:=beq_iff_eq.mpr h
   simp only[a1M,hb,if_pos h]
  ·have hb:(g == f)=false:=beq_eq_false_iff_ne.mpr h
   simp only[a1M,hb,if_neg h]
 | (k,x)::r=>by
  have ih:=a7i f g v r
  rw[show a2h f v ((k,x)::r)=(if k=f then (k,v)::r else (k,x)::a2h f v r)from rfl]
  by_cases hk:k=f
  ·rw[if_pos hk]
   by_cases h:g=k
   ·have hb:(g == k)=true:=beq_iff_eq.mpr h
    simp only[a1M,hb,if_pos (h.trans hk)]
   ·have hb:(g == k)=false:=beq_eq_false_iff_ne.mpr h
    simp only[a1M,hb,if_neg (fun e:g=f=>h (e.trans hk.symm))]
  ·rw[if_neg hk]
   by_cases h:g=k
   ·have hb:(g == k)=true:=beq_iff_eq.mpr h
    simp only[a1M,hb,if_neg (fun e:g=f=>hk (h.symm.trans e))]
   ·have hb:(g == k)=false:=beq_eq_false_iff_ne.mpr h
    simp only[a1M,hb]
    exact ih
theorem a6J(f:Str)(v:V):∀fs:List (Str×V),f∈(a2h f v fs).map (·.1)/\∀g,g∈fs.map (·.1)->g∈(a2h f v fs).map (·.1)
 | []=>⟨by simp[a2h],fun g h=>by simp at h⟩
 | (k,x)::r=>by
  obtain⟨i1,i2⟩:=a6J f v r
  rw[show a2h f v ((k,x)::r)=(if k=f then (k,v)::r else (k,x)::a2h f v r)from rfl]
  by_cases hk:k=f
  ·rw[if_pos hk]
   subst hk
   exact⟨by simp,fun g h=>by simpa using h⟩
  ·rw[if_neg hk]
   refine⟨?_,fun g h=>?_⟩
   ·rw[F8]
    exact E1 _ i1
   ·rw[F8]at h ⊢
    rcases p8.mp h with e | e
    ·exact p8.mpr (.inl e)
    ·exact E1 _ (i2 g e)
theorem a7j(f:Str)(v:V):∀fs:List (Str×V),(a2h f v fs).length<=fs.length+1
 | []=>by simp[a2h]
 | (k,x)::r=>by
  have ih:=a7j f v r
  rw[show a2h f v ((k,x)::r)=(if k=f then (k,v)::r else (k,x)::a2h f v r)from rfl]
  by_cases hk:k=f
  ·rw[if_pos hk,C1,C1];omega
  ·rw[if_neg hk,C1,C1];omega
theorem a3H.some_of{o:Option Value}(r:a3H (some v) o):∃u,o=some u/\F1 v u:=by
 cases o with
 | none=>exact(show False from r).elim
 | some u=>exact⟨u,rfl,r⟩
theorem a3H.none_of{o:Option Value}(r:a3H none o):o=none:=by
 cases o with
 | none=>rfl
 | some u=>exact(show False from r).elim
theorem b7t(r:F1 v u):c0T u=true:=by
 cases v with
 | non=>cases (show u=Value.none from r);rfl
 | bl b=>cases (show u=Value.bool b from r);rfl
 | int i=>obtain⟨t,e⟩:=(show ∃t,u=Value.int i t from r);cases e;rfl
 | str x=>obtain⟨t,e⟩:=(show ∃t,u=Value.str x t from r);cases e;rfl
 | byt b=>obtain⟨t,e⟩:=(show ∃t,u=Value.bytes b t from r);cases e;rfl
 | flt b=>obtain⟨t,e⟩:=(show ∃t,u=Value.float b t from r);cases e;rfl
 | ref a=>cases (show u=Value.ref a from r);rfl
 | ty n=>cases (show u=Value.type n from r);rfl
section
variable {P:D6}{fs fs':List (Str×V)}
theorem a7I(hok:HOk P w H h)(e:H a=some (.ins C dx fs)):∃mA,b5j h a dx C mA/\(∀f,a3H (fs.lookup f) (mA f))/\PySem.Within mA (fs.map (·.1))/\fs.length<=1000/\H dx=some (.own a):=by
 obtain⟨d,z,ne,ob,mA,n,r,q⟩:=(show W4 P w H h a (.ins C dx fs)from hok a _ e)
 exact⟨mA,⟨ob,n,ne⟩,r,q,z,d⟩
end
structure Cls(K:Fg)(C:Addr):Prop where
 pg:a1n K C Str.empty=true
 hd:a2C K C=true
 po:a6U K C=true
 sa:F3 K (.ref C) "__setattr__" = some (some (.builtin "object.__setattr__"))
theorem Cls.get{K:Fg}(c:Cls K C)(f:Str):a1n K C f=true:=c.pg
def a2d(K:Fg)(C:Addr)(f:Str):Prop:=F3 K (.ref C) f=some none
theorem a2d.taker{K:Fg}{f:Str}(n:a2d K C f):a9o K C f=some none:=by
 unfold a9o
 rw[show F3 K (.ref C) f=some none from n]
 rfl
structure Con(K:Fg)(C:Addr)(f:Str)(v:V)(u:Value):Prop where
 at_:F3 K (.ref C) f=some (some u)
 rel:F1 v u
 get:a6T K u "__get__" = some none
 cp:PySem.W.copiedNames.contains f=false
structure c5Y(K:Fg)(C:Addr)(m:Str)(f:Addr):Prop where
 at_:F3 K (.ref C) m=some (some (.ref f))
 fn:a6W K (.ref f)=true
 kp:U3 K (.ref f)=true
section
variable {fs:List (Str×V)}{f:Str}{A:K7}{E:Value->l4->Prop}
theorem b4V{b:Bool}(I:Inv X pins σ H s)(e:H a=some (.ins C dx fs))(c:Cls X.K C)(n:a2d X.K C f)(l:fs.lookup f=some v)
  (h:∀u s',Inv X pins σ H s'->F1 v u->Q u s'):wpAny (model X.prog X.w) A (getAttr (.ref a) f b) Q E s:=by
 obtain⟨mA,O,r,_,_,_⟩:=a7I I.hok e
 obtain⟨u,hu,ru⟩:=a3H.some_of (v:=v) (o:=mA f) (by rw[<-l];exact r f)
 exact c2N I.kIn O (c.get f) c.hd n hu (b7t ru) (h u _ (I.tok _) ru)
theorem b4U{m:Str}{g:Addr}{pl:Sem Bool}{Q:Value×List Value->l4->Prop}(I:Inv X pins σ H s)(e:H a=some (.ins C dx fs))(c:Cls X.K C)(k:c5Y X.K C m g)(l:fs.lookup m=none)
  (h:Q (.ref g,[.ref a]) s):wpAny (model X.prog X.w) A (b8e (.ref a) m pl) Q E s:=by
 obtain⟨mA,O,r,_,_,_⟩:=a7I I.hok e
 have hn:mA m=none:=a3H.none_of (by rw[<-l];exact r m)
 exact c0y I.kIn O (c.get m) k.at_ k.fn hn h
theorem b3Z{Q:Unit->l4->Prop}(I:Inv X pins σ H s)(e:H a=some (.ins C dx fs))(c:Cls X.K C)(n:a2d X.K C f)(hl:fs.length<1000)(ry:F1 y u)
  (h:∀s',Inv X pins σ (upd H a (.ins C dx (a2h f y fs))) s'->Q () s'):wpAny (model X.prog X.w) A (setAttr (.ref a) f u) Q E s:=by
 obtain⟨mA,O,r,wi,_,ho⟩:=a7I I.hok e
 have hz:(fs.map (·.1)).length<=u8:=by rw[c7,sizeLine_eq];omega
 refine c1n I.kIn O c.sa c.po n.taker c.hd wi hz fun h' O' sb=>h _ ?_
 have hd:∃o,h'.get? dx=some o:=let⟨o,_,_,e',_⟩:=O'.ns; ⟨o,e'⟩
 refine I.write (x:=a) (e:=dx) (by rw[e];exact True.intro) (.inr ho) (fun b q hb z=>(sb.2 b hb).trans z) hd ?_
 refine⟨by rw[d6 O.ne];exact ho,?_,O.ne,O'.obj,_,O'.ns,fun g=>?_,fun g hg=>?_⟩
 ·have:=a7j f y fs;omega
 ·show a3H ((a2h f y fs).lookup g) (if g=f then some u else mA g)
  rw[a7i]
  by_cases q:g=f
  ·rw[if_pos q,if_pos q];exact ry
  ·rw[if_neg q,if_neg q];exact r g
 ·by_cases q:g=f
  ·rw[q];exact(a6J f y fs).1
  ·refine(a6J f y fs).2 g (wi g fun z=>hg ?_)
   show(if g=f then some u else mA g)=none
   rw[if_neg q];exact z
theorem Inv.made(I:Inv X pins σ H s):Inv X pins σ (upd (upd H s.heap.objs.size (.own (s.heap.objs.size+1))) (s.heap.objs.size+1) (.ins C s.heap.objs.size []))
  { s with heap:=(s.heap.push O6).push (V8 C s.heap.objs.size) }:=by
 have e1:(s.heap.push O6).get? s.heap.objs.size=some O6:=C3 s.heap rfl
 have e2:((s.heap.push O6).push (V8 C s.heap.objs.size)).get? (s.heap.objs.size+1)=some (V8 C s.heap.objs.size):=by
  have:=C3 (s.heap.push O6) (o:=V8 C s.heap.objs.size) rfl
  rwa [c6j]at this
 have e3:(s.heap.push O6).Ns s.heap.objs.size (fun _=>none):=⟨O6,#[],_,e1,rfl,(fun e he=>absurd he (by simp)),fun _=>rfl⟩
 have I1:=I.laid (a:=s.heap.objs.size) (o:=.own (s.heap.objs.size+1)) (h':=s.heap.push O6) (t':=s.toks) (fun b u q=>g9 _ q) (i9 _) ⟨_,e1⟩
 refine I1.laid (a:=s.heap.objs.size+1) (o:=.ins C s.heap.objs.size []) (t':=s.toks) (fun b u q=>g9 _ q) (Nat.le_of_eq (c6j _ _)) ?_
 have ne:s.heap.objs.size≠s.heap.objs.size+1:=B0 (c6c _)
 refine⟨by rw[d6 ne,f6],K0 _,ne,e2,fun _=>none,(Heap.Ns1.of_empty e3).at fun o q=>g9 _ q,fun _=>True.intro,fun y hy=>absurd rfl hy⟩
theorem c2S{prog:D6}{env:Env}(hb:Y1 e f env (eval e env)=eval e env)
  (h:wpAny (model prog w) A (eval e env) (fun o s₁=>wpAny (model prog w) A (getAttr o f true) Q E s₁) E s):wpAny (model prog w) A (eval (.Attribute e f pos) env) Q E s:=
 Attribute_any_ h (by rw[arm_eval_Attribute,hb])
end
def b2D(K:Fg)(ta:TE)(f:Str):TE:=fun σ H Q=>ta σ H fun x H1=>∃a C dx fs v,x=.ref a/\H1 a=some (.ins C dx fs)/\Cls K C/\a2d K C f/\fs.lookup f=some v/\Q v H1
def b6K(K:Fg)(ta tv:TE)(f:Str):TS:=fun D σ H=>tv σ H fun y H1=>ta σ H1 fun x H2=>∃a C dx fs,x=.ref a/\H2 a=some (.ins C dx fs)/\Cls K C/\a2d K C f/\fs.length<1000 /\
 D.nx σ (upd H2 a (.ins C dx (a2h f y fs)))
section
variable {o value:Expr}{f:Str}{pos' tpos:Pos}{tv:TE}
theorem c4T(he:PE X e ta)(hb:Y1 e f X.env (eval e X.env)=eval e X.env):PE X (.Attribute e f pos) (b2D X.K ta f):=by
 intro pins s σ H Q I h
 refine c2S hb (thn (he pins s σ H _ I h) fun u s1 ⟨x,H1,I1,rx,a,C,dx,fs,v,ex,ea,c,n,l,q⟩=>?_)
 subst ex
 obtain rfl:u=Value.ref a:=rx
 exact b4V I1 ea c n l fun u' s2 I2 ru=>⟨v,H1,I2,ru,q⟩
theorem c4D(ha:PE X o ta)(hv:PE X value tv)(hs:a1P value (some (.Attribute o f pos')) pos.line X.env=pure false):PS X (.Assign [.Attribute o f pos'] value pos) (b6K X.K ta tv f):=by
 intro pins s σ H D I h
 refine plainObj_wpAny_Assign_Attribute (thn (hv pins s σ H _ I h) fun u s1 ⟨y,H1,I1,ry,q⟩=>thn (ha pins s1 σ H1 _ I1 q) fun ov s2 ⟨x,H2,I2,rx,a,C,dx,fs,ex,ea,c,n,l,q2⟩=>?_) hs
 subst ex
 obtain rfl:ov=Value.ref a:=rx
 exact b3Z I2 ea c n l ry fun s3 I3=>⟨σ,_,I3,q2⟩
end
section
variable {A:K7}{E:Value->l4->Prop}{c:Value}{b:Bool}
inductive a6P(K:Fg)(H:Hp):V->Value->Prop where
 | non:a6P K H .non (.type "NoneType")
 | bl (x:Bool):a6P K H (.bl x) (.type "bool")
 | int (i:Int):a6P K H (.int i) (.type "int")
 | str (x:Str):a6P K H (.str x) (.type "str")
 | flt (x:UInt64):a6P K H (.flt x) (.type "float")
 | lst {a:Addr} {xs:List V} (e:H a=some (.lst xs)):a6P K H (.ref a) (.type "list")
 | frz {a:Addr} {o:Obj} {xs:List V} (e:H a=some (.frz o (.lst xs))):a6P K H (.ref a) (.type "list")
 | tup {a:Addr} {xs:List V} (e:H a=some (.tup xs)):a6P K H (.ref a) (.type "tuple")
 | dK {a:Addr} {kvs:List (Key×V)} (e:H a=some (.dK kvs)):a6P K H (.ref a) (.type "dict")
 | dT {a:Addr} {kvs:List (List Key×V)} (e:H a=some (.dT kvs)):a6P K H (.ref a) (.type "dict")
 | ins {a C dx:Addr} {fs:List (Str×V)} (e:H a=some (.ins C dx fs)) (cl:Cls K C) (ha:F3 K (.ref C) "__class__" = some (some (.builtin "object.__class__")))
   (hn:a6T K (.builtin "object.__class__") "__get__" = some (some (.builtin "getset_descriptor.__get__"))) (htk:c0X K (.builtin "object.__class__")=some true)
   (hm:c3D K C (.type "object")=some true):a6P K H (.ref a) (.ref C)
theorem b7o{x:V}{t:Value}(I:Inv X pins σ H s)(rx:F1 x u)(ty:a6P X.K H x t)(e:c3b X.K t c=some b)(h:∀tk,Q (.bool b) { s with toks:=tk }) :
  wpAny (model X.prog X.w) A (call (.builtin "isinstance") [u,c]) Q E s:=by
 cases ty with
 | non=>cases (show u=Value.none from rx);exact L7 PySem.W.kitx_none I.kIn True.intro e (fun z=>nomatch z) h
 | bl y=>cases (show u=Value.bool y from rx);exact L7 PySem.W.kitx_bool I.kIn True.intro e (fun z=>nomatch z) h
 | int i=>obtain⟨t,q⟩:=(show ∃t,u=Value.int i t from rx);cases q;exact L7 PySem.W.kitx_int I.kIn True.intro e (fun z=>nomatch z) h
 | str y=>obtain⟨t,q⟩:=(show ∃t,u=Value.str y t from rx);cases q;exact L7 PySem.W.kitx_str I.kIn True.intro e (fun z=>nomatch z) h
 | flt y=>obtain⟨t,q⟩:=(show ∃t,u=Value.float y t from rx);cases q;exact L7 PySem.W.kitx_float I.kIn True.intro e (fun z=>nomatch z) h
 | @lst a xs ea=>
  cases (show u=Value.ref a from rx)
  obtain⟨_,_,n,_,h1⟩:=(show W4 X.prog X.w H s.heap a (.lst xs)from I.hok a _ ea)
  exact L7 b7U I.kIn ⟨_,h1,rfl⟩ e (fun z=>nomatch z) h
 | @frz a ob xs ea=>
  cases (show u=Value.ref a from rx)
  obtain⟨_,_,_,n,_,h1⟩:=(show W4 X.prog X.w H s.heap a (.frz ob (.lst xs))from I.hok a _ ea)
  exact L7 b7U I.kIn ⟨_,h1,rfl⟩ e (fun z=>nomatch z) h
 | @tup a xs ea=>
  cases (show u=Value.ref a from rx)
  obtain⟨_,_,_,p⟩:=(show W4 X.prog X.w H s.heap a (.tup xs)from I.hok a _ ea)
  obtain⟨o,h1,h2,_⟩:=p
  exact L7 b7N I.kIn ⟨o,h1,h2⟩ e (fun z=>nomatch z) h
 | @dK a kvs ea=>
  cases (show u=Value.ref a from rx)
  obtain⟨_,_,vs,_,p⟩:=(show W4 X.prog X.w H s.heap a (.dK kvs)from I.hok a _ ea)
  obtain⟨o,es,ep,h1,h2,_⟩:=p
  exact L7 b7V I.kIn ⟨o,h1,h2.1⟩ e (fun z=>nomatch z) h
 | @dT a kvs ea=>
  cases (show u=Value.ref a from rx)
  obtain⟨_,_,xs,_,o,es,ep,h1,h2,_⟩:=(show W4 X.prog X.w H s.heap a (.dT kvs)from I.hok a _ ea)
  exact L7 b7V I.kIn ⟨o,h1,h2.1⟩ e (fun z=>nomatch z) h
 | @ins a C dx fs ea cl ha hn htk hm=>
  cases (show u=Value.ref a from rx)
  obtain⟨mA,O,_⟩:=a7I I.hok ea
  obtain⟨od,J,_⟩:=O.look
  exact L7 (PySem.W.kitx_own (cl.get _) cl.hd ha hn htk hm) I.kIn J e (fun z=>nomatch z) h
end
structure Q6(k:Nat)(A:K7):Prop where
 hd:A.handled=none
 dp:A.depth+3 * k+5<recursionLimit
 un:A.units+16 * k+200<cLine
theorem Q6.mono{j k:Nat}{A:K7}(r:Q6 k A)(h:j<=k):Q6 j A:=⟨r.hd,by have:=r.dp;omega,by have:=r.un;omega⟩
theorem Q6.deeper{k:Nat}{A:K7}(r:Q6 (k+1) A)(env:Env):Q6 k (A.deeper env):=
 ⟨r.hd,by have:=r.dp;show A.depth+1+3 * k+5<_;omega,by have:=r.un;show A.units+3+16 * k+200<_;omega⟩
theorem b4N{A:K7}{kw:List (Str×Value)}:(A.under (.builtin "type.__call__" ⟨.ref C::us,kw⟩)).depth=A.depth+1:=by
 first | rfl | simp[Around.under,Code.weight,Code.isCreation,Code.isGuard,Code.isCaller,Code.frames,Code.isFrame,guardIds]
theorem b4M{A:K7}{kw:List (Str×Value)}:(A.under (.builtin "type.__call__" ⟨.ref C::us,kw⟩)).units=A.units+1:=by
 first | rfl | simp[Around.under,Code.cUnits,Code.frames,Code.isFrame]
theorem Q6.make{k:Nat}{A:K7}(r:Q6 (k+1) A)(C:Addr)(us:List Value)(kw:List (Str×Value)):Q6 k (A.under (.builtin "type.__call__" ⟨.ref C::us,kw⟩)):=
 ⟨r.hd,by have:=r.dp;rw[b4N];omega,by have:=r.un;rw[b4M];omega⟩
theorem Q6.depth{k:Nat}{A:K7}(r:Q6 k A):A.depth<recursionLimit:=by have:=r.dp;omega
theorem Q6.units{k:Nat}{A:K7}(r:Q6 k A):A.units+64<cLine:=by have:=r.un;omega
theorem Q6.units0{k:Nat}{A:K7}(r:Q6 k A):A.units<cLine:=by have:=r.un;omega
def d7:TA:=fun _ H Q=>Q [] H
def b6(ta:TE)(tr:TA):TA:=fun σ H Q=>ta σ H fun x H1=>tr σ H1 fun xs H2=>Q (x::xs) H2
section
variable {t:TA}
theorem c4X:PA X [] d7:=fun _ _ _ _ H Q I h=>Calls.spliced_nil ⟨[],H,I,.nil,h⟩
theorem c2a(ha:PE X e te)(hr:PA X es t)(hs:i8 (e::es) X.env=(false,eval e X.env)::i8 es X.env:=by rfl):PA X (e::es) (b6 te t):=by
 intro pos pins s σ H Q I h
 rw[hs]
 show wpAny _ _ (spliced ((false,eval e X.env)::Y0 pos (i8 es X.env))) _ _ s
 refine Calls.spliced_cons (thn (ha pins s σ H _ I h) fun u s1 ⟨x,H1,I1,r1,q1⟩=>?_)
 exact thn (hr pos pins s1 σ H1 _ I1 q1) fun us s2 ⟨xs,H2,I2,r2,q2⟩=>⟨x::xs,H2,I2,.cons r1 r2,q2⟩
def a1h(t:TA):TE:=fun σ H Q=>t σ H fun xs H1=>xs.length<=u8/\∀p,H1 p=none->Q (.ref p) (upd H1 p (.tup xs))
def V9(t:TA):TE:=fun σ H Q=>t σ H fun xs H1=>xs.length<=u8/\∀p,H1 p=none->Q (.ref p) (upd H1 p (.lst xs))
theorem c4K{x1}(h:PA X es t):PE X (.Tuple es x1 pos) (a1h t):=by
 intro pins s σ H Q I hq
 refine wpAny_Tuple_spliced (thn (h pos pins s σ H _ I hq) fun us s1 ⟨xs,H1,I1,r,z,q⟩=>⟨by rw[<-r.length];exact z,?_⟩)
 have hf:H1 s1.heap.objs.size=none:=I1.hok.fresh (i9 _)
 refine⟨.ref s1.heap.objs.size,upd H1 s1.heap.objs.size (.tup xs),I1.laid (t':=s1.toks) (fun b u e=>g9 _ e) (i9 _) ?_,rfl,q _ hf⟩
 exact⟨z,us,r,⟨_,C3 _ rfl,rfl,_,rfl⟩⟩
theorem c4R(h:PA X es t):PE X (.List es pos) (V9 t):=by
 intro pins s σ H Q I hq
 refine wpAny_List_spliced (thn (h pos pins s σ H _ I hq) fun us s1 ⟨xs,H1,I1,r,z,q⟩=>⟨by rw[<-r.length];exact z,?_⟩)
 have hf:H1 s1.heap.objs.size=none:=I1.hok.fresh (i9 _)
 refine⟨.ref s1.heap.objs.size,upd H1 s1.heap.objs.size (.lst xs),I1.laid (t':=s1.toks) (fun b u e=>g9 _ e) (i9 _) ?_,rfl,q _ hf⟩
 exact⟨z,us,0,r,C3 _ rfl⟩
end
abbrev Sp:=List V->Hp->VK->XK->Prop
abbrev CXT:=List Env->Hp->l4->XK->Value->l4->Prop
variable{CX:CXT}
structure b5l(P:D6)(w:World)(K:Fg)(mg:Str->Option Value)(base:Heap)(A:K7)(outer:List Env)(s:l4)(H:Hp):Prop where
 frames:A.frames=some outer
 mod:Mod K mg base
 bs:∀b o,base.get? b=some o->s.heap.get? b=some o/\H b=none
 bsz:base.objs.size<=s.heap.objs.size
 funs:s.heap.FunFrames base outer
 frf:∀b∈frs outer,H b=none
 hok:HOk P w H s.heap
 bare:b0A s.gens
def CE(outer:List Env)(P:D6)(w:World)(H:Hp)(s:l4)(Q:VK)(u:Value)(s':l4):Prop:=
 ∃v H',s'.os=s.os/\b0A s'.gens/\Un (frs outer) [] H H' s.heap s'.heap/\HOk P w H' s'.heap/\F1 v u/\Q v H'
def CR(CX:CXT)(outer:List Env)(P:D6)(w:World)(H:Hp)(s:l4)(Q:VK)(E:XK)(r:b5r)(s':l4):Prop:=
 match r with
 | .ok (.ret u)=>CE outer P w H s Q u s'
 | .ok _=>False
 | .error e=>CX outer H s E e s'
structure L9(P:D6)(w:World)(K:Fg)(mg:Str->Option Value)(base:Heap)(CX:CXT)(k:Nat)(f:Addr)(fd:Y9)(ps:List Str)(sp:Sp):Prop where
 len:∀vs H Q E,sp vs H Q E->vs.length=ps.length
 run:∀(A:K7) (outer:List Env) (s:l4) (H:Hp) (args:Args) (us:List Value) (vs:List V) (Q:VK) (E:XK),Q6 k A->b5l P w K mg base A outer s H->b8g s fd args (ps.zip us)->G6 vs us->sp vs H Q E ->
  a2T (model P w) A (.call (.ref f) args) (CR CX outer P w H s Q E) s
theorem b5l.make{P:D6}{K:Fg}{mg:Str->Option Value}{base:Heap}{A:K7}{outer:List Env}(e:b5l P w K mg base A outer s H)(C:Addr)(us:List Value)(kw:List (Str×Value)) :
  b5l P w K mg base (A.under (.builtin "type.__call__" ⟨.ref C::us,kw⟩)) outer s H:=⟨by first | exact e.frames | (simpa[Around.under,Code.envs,Code.isFrame,pushEnvs]using e.frames),e.mod,e.bs,e.bsz,e.funs,e.frf,e.hok,e.bare⟩
section
variable {s':l4}
theorem Inv.env0(I:Inv X pins σ H s):b5l X.prog X.w X.K X.mg X.base X.A X.stack s H:=
 ⟨I.ok.frames,I.ok.mod,I.bs,I0 I.ok.bsz I.sz,I.stack,I.stkFree,I.hok,I.bare⟩
theorem Inv.after{Q:VK}(I:Inv X pins σ H s)(h:CE X.stack X.prog X.w H s Q u s'):EP X pins σ Q u s':=by
 obtain⟨v,H',os,bare,un,hok,r,q⟩:=h
 obtain⟨hh,g,d,t,os'⟩:=s'
 obtain rfl:os'=s.os:=os
 exact⟨v,H',I.call (h':=hh) (g':=g) (d':=d) (t':=t) (ch:=[]) un hok bare (fun b z=>absurd z (by simp)),r,q⟩
end
def v7(sp:Sp)(dvs:List V)(E:XK)(t:TA):TE:=fun σ H Q=>t σ H fun vs H1=>sp (vs++dvs) H1 Q E
def b0a(C:Addr)(m:Str)(sp:Sp)(dvs:List V)(E:XK)(ta:TE)(t:TA):TE:=fun σ H Q=>ta σ H fun x H1=>∃a dx fs,x=.ref a/\H1 a=some (.ins C dx fs)/\fs.lookup m=none /\
 t σ H1 fun vs H2=>sp (x::(vs++dvs)) H2 Q E
def b0b(C:Addr)(sp:Sp)(dvs:List V)(E:XK)(t:TA):TE:=fun σ H Q=>t σ H fun vs H1=>∀x dx,H1 x=none->H1 dx=none->dx≠x ->
 sp (.ref x::(vs++dvs)) (upd (upd H1 dx (.own x)) x (.ins C dx [])) (fun v H2=>v=.non/\Q (.ref x) H2) E
def a3E(K:Fg)(fd:Y9)(ps:List Str)(ds:List Value):Prop:=
 ∀(s:l4) (us:List Value),K.In s.heap->(us++ds).length=ps.length->b8g s fd ⟨us,[]⟩ (ps.zip (us++ds))
theorem a3E.all{K:Fg}{fd:Y9}(h:∀us:List Value,us.length=ps.length->bindArgs fd ⟨us,[]⟩=pure (ps.zip us)):a3E K fd ps []:=fun s us _ hl=>by
 rw[b0w]at hl ⊢
 exact .of_eq (h us hl)
def a6R(CX:CXT)(X:Cx)(E:XK):Prop:=∀(pins:List (Addr×Obj)) (σ:St) (H:Hp) (s:l4) (e:Value) (s':l4),Inv X pins σ H s->CX X.stack H s E e s'->X.xe e s'
section
variable {k:Nat}{fd:Y9}{sp:Sp}{dvs:List V}{ds:List Value}{E:XK}{x m:Str}{apos:Pos}{o:Expr}{t:TA}
theorem b9j{Q:VK}{vs:List V}(F:L9 X.prog X.w X.K X.mg X.base CX k f fd ps sp)(hr:Q6 k X.A)(hb:a3E X.K fd ps ds)(hd:G6 dvs ds)(hx:a6R CX X E)
  (I:Inv X pins σ H s) (r:G6 vs us) (h:sp (vs++dvs) H Q E):wpAny (model X.prog X.w) X.A (call (.ref f) us) (EP X pins σ Q) X.xe s:=by
 have r2:G6 (vs++dvs) (us++ds):=r.append hd
 have hl:(us++ds).length=ps.length:=by rw[<-r2.length];exact F.len _ _ _ _ h
 refine wpAny_call (b5q (F.run X.A X.stack s H ⟨us,[]⟩ (us++ds) (vs++dvs) Q E hr I.env0 (hb s us I.kIn hl) r2 h) fun r s' hq=>?_)
 cases r with
 | error e=>exact hx pins σ H s e s' I hq
 | ok fl=>
  cases fl with
  | ret u=>exact I.after hq
  | next=>exact False.elim hq
  | brk=>exact False.elim hq
  | cont=>exact False.elim hq
theorem c1X(F:L9 X.prog X.w X.K X.mg X.base CX k f fd ps sp)(hr:Q6 k X.A)(hg:Gl X x)(hm:X.mg x=some (.ref f))(hk:U3 X.K (.ref f)=true)(hb:a3E X.K fd ps ds)(hd:G6 dvs ds)(hx:a6R CX X E)
  (ha:PA X (e::es) t) (hdb:(x == ("__debug__" : Str))=false:=by decide) (he:i8 (e::es) X.env=(false,eval e X.env)::i8 es X.env:=by rfl) (hpl:(Y0 pos (i8 es X.env)).any (·.1)=false:=by rfl) :
  PE X (.Call (.Name x p) (e::es) [] pos) (v7 sp dvs E t):=by
 intro pins s σ H Q I h
 refine a0v (b1E I hg hm ?_ hdb)
 refine a6f (h₀:=X.base) I.ok.mod.kin hk (thn (ha pos pins s σ H _ I h) fun us s1 ⟨vs,H1,I1,r,q⟩=>⟨I1.kIn,?_⟩) he hpl
 exact b9j F hr hb hd hx I1 r q
theorem c1Q{pl:Sem Bool}(he:PE X o ta)(c:Cls X.K C)(hm:c5Y X.K C m f)(F:L9 X.prog X.w X.K X.mg X.base CX k f fd ps sp)(hr:Q6 k X.A)(hb:a3E X.K fd ps ds)(hd:G6 dvs ds)(hx:a6R CX X E)(ha:PA X (e::es) t)
  (hst:i8 (e::es) X.env=(false,eval e X.env)::i8 es X.env:=by rfl) (hpl:(Y0 pos (i8 es X.env)).any (·.1)=false:=by rfl)
  (ht:eval (.Call (.Attribute o m apos) (e::es) [] pos) X.env=(do
   let ov <-eval o X.env
   b8d apos.atName
   let(f,first) <-a3M [ov] (b8e ov m pl)
   callWith pos f first (Y0 pos (i8 (e::es) X.env)) (a9r pos (a2w [] X.env))):=by rfl) :
  PE X (.Call (.Attribute o m apos) (e::es) [] pos) (b0a C m sp dvs E ta t):=by
 intro pins s σ H Q I h
 refine PySem.W.methodCall_KW (pl:=pl) (thn (he pins s σ H _ I h) fun u s1 ⟨x,H1,I1,rx,a,dx,fs,ex,ea,l,q⟩=>?_) ht
 subst ex
 obtain rfl:u=Value.ref a:=rx
 refine b4U I1 ea c hm l ?_
 refine a6f (first:=[.ref a]) (h₀:=X.base) I.ok.mod.kin hm.kp (thn (ha pos pins s1 σ H1 _ I1 q) fun us s2 ⟨vs,H2,I2,r,q2⟩=>⟨I2.kIn,?_⟩) hst hpl
 exact b9j (us:=.ref a::us) (vs:=.ref a::vs) F hr hb hd hx I2 (.cons rfl r) q2
structure Mk(K:Fg)(C f:Addr):Prop where
 makes:a3J K C=true
 init:F3 K (.ref C) "__init__" = some (some (.ref f))
 fn:a6W K (.ref f)=true
 kp:U3 K (.ref C)=true
theorem b9i{Q:VK}{vs:List V}(M:Mk X.K C f)(F:L9 X.prog X.w X.K X.mg X.base CX k f fd ps sp)(hr:Q6 (k+1) X.A)(hb:a3E X.K fd ps ds)(hd:G6 dvs ds)
  (hx:a6R CX X E) (I:Inv X pins σ H s) (r:G6 vs us)
  (h:∀x dx,H x=none->H dx=none->dx≠x->sp (.ref x::(vs++dvs)) (upd (upd H dx (.own x)) x (.ins C dx [])) (fun v H2=>v=.non/\Q (.ref x) H2) E) :
  wpAny (model X.prog X.w) X.A (call (.ref C) us) (EP X pins σ Q) X.xe s:=by
 have hq:=h (s.heap.objs.size+1) s.heap.objs.size (I.hok.fresh (U4 _)) (I.hok.fresh (i9 _)) (B0 (c6c _))
 have I2:=Inv.made (C:=C) I
 have r2:G6 (V.ref (s.heap.objs.size+1)::(vs++dvs)) (Value.ref (s.heap.objs.size+1)::(us++ds)):=.cons rfl (r.append hd)
 have hl:(Value.ref (s.heap.objs.size+1)::us++ds).length=ps.length:=by
  have e:=r2.length
  rw[F.len _ _ _ _ hq]at e
  exact e.symm
 refine wpAny_call (c0l (f:=f) I.kIn M.makes M.init (beq_iff_eq.mp M.fn) (b5q (F.run _ X.stack _ _ ⟨Value.ref (s.heap.objs.size+1)::us,[]⟩ (Value.ref (s.heap.objs.size+1)::(us++ds)) _ _ E (hr.make C us [])
  (I2.env0.make C us []) (hb _ (Value.ref (s.heap.objs.size+1)::us) I2.kIn hl) r2 hq) fun r s' hq'=>?_))
 cases r with
 | error e=>exact hx pins σ _ _ e s' I2 hq'
 | ok fl=>
  cases fl with
  | ret u=>
   obtain⟨v,H',I3,rv,ev,q3⟩:=I2.after hq'
   subst ev
   exact⟨rv,⟨V.ref (s.heap.objs.size+1),H',I3,rfl,q3⟩⟩
  | next=>exact False.elim hq'
  | brk=>exact False.elim hq'
  | cont=>exact False.elim hq'
theorem c1R(M:Mk X.K C f)(F:L9 X.prog X.w X.K X.mg X.base CX k f fd ps sp)(hr:Q6 (k+1) X.A)(hg:Gl X x)(hm:X.mg x=some (.ref C))(hb:a3E X.K fd ps ds)(hd:G6 dvs ds)(hx:a6R CX X E)
  (ha:PA X (e::es) t) (hdb:(x == ("__debug__" : Str))=false:=by decide) (he:i8 (e::es) X.env=(false,eval e X.env)::i8 es X.env:=by rfl) (hpl:(Y0 pos (i8 es X.env)).any (·.1)=false:=by rfl) :
  PE X (.Call (.Name x p) (e::es) [] pos) (b0b C sp dvs E t):=by
 intro pins s σ H Q I h
 refine a0v (b1E I hg hm ?_ hdb)
 refine a6f (h₀:=X.base) I.ok.mod.kin M.kp (thn (ha pos pins s σ H _ I h) fun us s1 ⟨vs,H1,I1,r,q⟩=>⟨I1.kIn,?_⟩) he hpl
 exact b9i M F hr hb hd hx I1 r q
end
section
variable {k:Nat}{fd:Y9}{ks:List Str}{sp:Sp}{E:XK}{x m:Str}{apos kpos:Pos}{o:Expr}{kws:List a6k}{t tk:TA}{nm:Option Str}
structure c7W(K:Fg)(fd:Y9)(ps ks:List Str)(g:List Value->List Value->List Value)(gV:List V->List V->List V):Prop where
 to:∀(s:l4) (us ws:List Value),K.In s.heap->(g us ws).length=ps.length->b8g s fd ⟨us,ks.zip ws⟩ (ps.zip (g us ws))
 rel:∀ {vs:List V} {us:List Value} {zs:List V} {ws:List Value},G6 vs us->G6 zs ws->G6 (gV vs zs) (g us ws)
variable {g:List Value->List Value->List Value}{gV:List V->List V->List V}
end
structure C5(N P:List Str)(sc:Scope):Prop where
 kind:sc.kind=.function
 co:sc.isCoroutine=false
 gen:sc.isGenerator=false
 nd:N.Nodup
 pre:N.take P.length=P
 par:∀x∈P,sc.names.lookup x=some .local\/sc.names.lookup x=some .cell
 nofree:∀y∈sc.names,y.2≠.free
theorem b0n{kindOf:Str->Option a4P}{x:Str}:∀ {binds:List (Str×Value)} {m:Str->Option Value},(∀v,(x,v)∉binds)->bindL kindOf binds m x=m x
 | [],_,_=>rfl
 | (n,v)::r,m,h=>by
  unfold bindL
  rw[b0n fun w hw=>h w (E1 _ hw)]
  split
  ·have:x≠n:=by rintro rfl;exact h v K5
   simp[this]
  ·rfl
theorem b0p{kindOf:Str->Option a4P}{x:Str}:∀ {binds:List (Str×Value)} {m:Str->Option Value},(∀v,(x,v)∉binds)->bindC kindOf binds m x=m x
 | [],_,_=>rfl
 | (n,v)::r,m,h=>by
  unfold bindC
  rw[b0p fun w hw=>h w (E1 _ hw)]
  split
  ·rfl
  ·have:x≠n:=by rintro rfl;exact h v K5
   simp[this]
theorem b0o{kindOf:Str->Option a4P}{x:Str}{v:Value}:∀ {P:List Str} {vs:List Value} {i:Nat} {m:Str->Option Value},P.Nodup->P[i]? = some x->vs[i]? = some v->kindOf x=some .local ->
  bindL kindOf (P.zip vs) m x=some v
 | [],_,_,_,_,h,_,_=>by simp at h
 | _::_,[],_,_,_,_,h,_=>by simp at h
 | p::P,w::vs,0,m,nd,h1,h2,hk=>by
  simp at h1 h2;subst h1;subst h2
  show bindL kindOf ((p,w)::P.zip vs) m p=_
  unfold bindL
  rw[b0n fun v hv=>(K6.mp nd).1 (b0v hv).1,if_pos hk]
  simp
 | p::P,w::vs,i+1,m,nd,h1,h2,hk=>by
  show bindL kindOf ((p,w)::P.zip vs) m x=_
  unfold bindL
  exact b0o (i:=i) (K6.mp nd).2 (by simpa using h1) (by simpa using h2) hk
theorem b0q{kindOf:Str->Option a4P}{x:Str}{v:Value}:∀ {P:List Str} {vs:List Value} {i:Nat} {m:Str->Option Value},P.Nodup->P[i]? = some x->vs[i]? = some v->kindOf x≠some .local ->
  bindC kindOf (P.zip vs) m x=some v
 | [],_,_,_,_,h,_,_=>by simp at h
 | _::_,[],_,_,_,_,h,_=>by simp at h
 | p::P,w::vs,0,m,nd,h1,h2,hk=>by
  simp at h1 h2;subst h1;subst h2
  show bindC kindOf ((p,w)::P.zip vs) m p=_
  unfold bindC
  rw[b0p fun v hv=>(K6.mp nd).1 (b0v hv).1,if_neg hk]
  simp
 | p::P,w::vs,i+1,m,nd,h1,h2,hk=>by
  show bindC kindOf ((p,w)::P.zip vs) m x=_
  unfold bindC
  exact b0q (i:=i) (K6.mp nd).2 (by simpa using h1) (by simpa using h2) hk
def a5F(N:List Str)(vs:List V):St:=vs.map some++u5 (N.length - vs.length) none
def b3m(CX:CXT)(P:D6)(w:World)(K:Fg)(mg:Str->Option Value)(base:Heap)(N:List Str)(qual:Str)(scope:Scope)(f:Addr)(cd:Value)(A:K7)(outer:List Env)(s:l4)(H:Hp)(E:XK):Cx where
 prog:=P
 w:=w
 K:=K
 mg:=mg
 base:=base
 A:=A.deeper (b2o qual scope s.heap.objs.size f cd)
 N:=N
 s₀:=s
 H₀:=H
 env:=b2o qual scope s.heap.objs.size f cd
 outer:=outer
 stack:=b2o qual scope s.heap.objs.size f cd::outer
 ex:=[]
 calm:=true
 fn:=fun _=>true
 pn:=[]
 xe:=fun e s'=>wpAny (model P w) (A.deeper (b2o qual scope s.heap.objs.size f cd)) (leaving (b2o qual scope s.heap.objs.size f cd) e) (fun _ s''=>CX outer H s E e s'') (fun e' s''=>CX outer H s E e' s'') s'
theorem b3p{sc:Scope}{n:Nat}{x:Str}(h:sc.names.lookup x=some .cell):∃c,(cellsFrom n sc.names []).lookup x=some c:=by
 have q:=b3z sc.names n [] (.inl h)
 exact W6.mp q
theorem b7r{P:D6}{K:Fg}{mg:Str->Option Value}{base:Heap}{N:List Str}{qual:Str}{scope:Scope}{cd:Value}{A:K7}{outer:List Env}{s1:l4}{E:XK}{vs:List V}
  (S:C5 N ps scope) (hd:A.handled=none) (e0:b5l P w K mg base A outer s H) (hl:vs.length=ps.length) (r:G6 vs us)
  (x:InCallC s s.heap.objs.size (bindL (b2o qual scope s.heap.objs.size f cd).kindOf (ps.zip us) fun _=>none) (cellsFrom (s.heap.objs.size+1) scope.names []) (bindC (b2o qual scope s.heap.objs.size f cd).kindOf (ps.zip us) fun _=>none) s1) :
  Inv (b3m CX P w K mg base N qual scope f cd A outer s H E) [] (a5F N vs) H s1:=by
 have hpl:ps.length<=N.length:=by have:=congrArg a9N S.pre;rw[J4]at this;omega
 obtain⟨h1,tk,rfl,hk⟩:=x.done
 have noA:∀b:Addr,b∉(b3m CX P w K mg base N qual scope f cd A outer s H E).ex:=fun b z=>absurd (show b∈([]:List Addr)from z) (by simp)
 refine⟨⟨e0.mod,S.kind,rfl,rfl,i9 _,fun y z c h1 h2=>?_,fun y hy=>?_,fun y c _ h=>?_,fun _=>hd,Around.frames_deeper e0.frames,.inr ⟨rfl,rfl⟩,fun b z=>absurd z (noA b),e0.bs,e0.bsz,fun b _ _=>noA b,fun b z=>absurd z (noA b),e0.funs,e0.frf⟩,
  rfl,e0.bare,Un.kept hk,⟨_,x.toInCall.ns,fun i y v h1 h2 h3=>?_⟩,fun y c h=>⟨_,x.cell y c h⟩,e0.hok.fresh (i9 _),fun y c h=>?_,fun p hp=>absurd (show p∈([]:List (Addr×Obj))from hp) (by simp),e0.hok.kept hk,?_⟩
 ·exact name_of_addr x.apart (D9 h1) (D9 h2)
 ·have hy:scope.names.lookup y=some .cell\/scope.names.lookup y=some .free:=hy
  rcases hy with hy | hy
  ·exact b3p hy
  ·exact absurd rfl (S.nofree _ (D9 hy))
 ·exact b7P (x.above y c (D9 h))
 ·have hi:i<vs.length:=by
   unfold a5F at h2
   by_cases hi:i<vs.length
   ·exact hi
   ·rw[U9 (by simpa using hi)]at h2
    rw[L6]at h2
    split at h2 <;> cases h2
  have ha:vs[i]? = some v:=by
   unfold a5F at h2
   rw[W5 (by simpa using hi),d4]at h2
   cases e:vs[i]? with
   | none=>rw[e]at h2;cases h2
   | some a=>rw[e]at h2;cases h2;rfl
  obtain⟨u,hu,rv⟩:=r.get ha
  have hp:ps[i]? = some y:=by
   rw[<-S.pre,List.getElem?_take_of_lt (by omega)];exact h1
  have ndP:ps.Nodup:=by rw[<-S.pre];exact S.nd.sublist (List.take_sublist _ _)
  refine⟨u,rv,?_⟩
  rcases S.par y (a0f hp)with k | k
  ·exact .inl ⟨k,b0o ndP hp hu k⟩
  ·obtain⟨c,e⟩:=b3p (n:=s.heap.objs.size+1) k
   refine .inr ⟨.inl k,c,e,?_⟩
   have q:=x.cell y c e
   rw[b0q ndP hp hu (by show scope.names.lookup y≠_;rw[k];decide)]at q
   exact q
 ·exact e0.hok.fresh (b7P (x.above y c (D9 h)))
 ·unfold a5F
  show _=N.length
  rw[t5,c7,J2]
  omega
theorem c7l{P:D6}{K:Fg}{mg:Str->Option Value}{base:Heap}{k:Nat}{name qual:Str}{params:Arguments}{body:List Stmt}{scope:Scope}{dV kV doc pm cdv ct oc:Value}{an od:Option Addr}
  {osl:Array (Option Value)} {N ps:List Str} {sp:Sp} (lk:K.lookup f=some ⟨oc,od,.func (a0d name qual params body scope dV kV doc pm an cdv ct),osl⟩) (hcd:a4M K cdv qual=true) (S:C5 N ps scope)
  (len:∀vs H Q E,sp vs H Q E->vs.length=ps.length)
  (hbody:∀(A:K7) (outer:List Env) (s:l4) (H:Hp) (vs:List V) (Q:VK) (E:XK),Q6 k (A.deeper (b2o qual scope s.heap.objs.size f cdv))->sp vs H Q E ->
   ∃t,PSs (b3m CX P w K mg base N qual scope f cdv A outer s H E) body t/\t { nx:=fun _ H'=>Q .non H',rt:=Q } (a5F N vs) H) :
  L9 P w K mg base CX (k+1) f (a0d name qual params body scope dV kV doc pm an cdv ct) ps sp:=by
 refine⟨len,fun A outer s H args us vs Q E hr e0 hb r hsp=>?_⟩
 have hl:=len _ _ _ _ hsp
 have KX:K.In s.heap:=e0.mod.kin.keeps fun b o e=>(e0.bs b o e).1
 have lim:s.heap.NoLimit:=e0.mod.nolimit.keeps fun b o e=>(e0.bs b o e).1
 have hkind:∀y∈ps.zip us,scope.names.lookup y.1=some .local\/(scope.names.lookup y.1=some .cell/\((cellsFrom (s.heap.objs.size+1) scope.names []).lookup y.1).isSome=true):=fun⟨n,v⟩ hy=>by
  rcases S.par n (b0v hy).1 with q | q
  ·exact .inl q
  ·exact .inr ⟨q,b3z _ _ _ (.inl q)⟩
 refine codeAny_call_function hr.depth (KX _ _ lk) rfl S.co S.gen rfl (PySem.W.codeRec_of KX hcd) (hb _ _ _ _ ?_)
 refine wpAny_newFunctionEnv_cells S.kind hkind fun env he s1 x=>?_
 subst he
 refine⟨lim.keeps x.toInCall.keep,codeAny_func ?_⟩
 obtain⟨t,ht,hq⟩:=hbody A outer s H vs Q E (hr.deeper _) hsp
 have I:Inv (b3m CX P w K mg base N qual scope f cdv A outer s H E) [] (a5F N vs) H s1:=b7r S hr.hd e0 hl r x
 refine X8 (ht [] s1 (a5F N vs) H _ I hq) (fun fl s' hs=>?_) fun e s' hs=>hs
 have fin:∀ {σ':St} {H':Hp} {v:V} {u:Value},Inv (b3m CX P w K mg base N qual scope f cdv A outer s H E) [] σ' H' s'->F1 v u->Q v H'->CE outer P w H s Q u s':=
  fun {σ' H' v u} J rv q=>⟨v,H',J.os,J.bare,J.base,J.hok,rv,q⟩
 cases fl with
 | ret u=>
  obtain⟨v,σ',H',J,rv,q⟩:=hs
  exact fin J rv q
 | next=>
  obtain⟨σ',H',J,q⟩:=hs
  exact fin (v:=V.non) (u:=Value.none) J rfl q
 | brk=>
  obtain⟨_,_,_,q⟩:=hs
  exact False.elim q
 | cont=>
  obtain⟨_,_,_,q⟩:=hs
  exact False.elim q
section
variable {x:Str}{t:TA}{id T:String}{r:List V->Hp->VK->Prop}
def tCB(r:List V->Hp->VK->Prop)(t:TA):TE:=fun σ H Q=>t σ H fun vs H1=>r vs H1 Q
theorem b9O(hc:V6 X (.builtin id) r)(hg:Gl X x)(hm:X.mg x=none)(hv:U0 x=some (.builtin id))(ha:PA X (e::es) t)(hn:x ≠ "__name__" := by decide)(hdb:(x == ("__debug__" : Str))=false:=by decide)
  (he:i8 (e::es) X.env=(false,eval e X.env)::i8 es X.env:=by rfl) (hpl:(Y0 pos (i8 es X.env)).any (·.1)=false:=by rfl):PE X (.Call (.Name x p) (e::es) [] pos) (tCB r t):=by
 intro pins s σ H Q I h
 refine a0v (a4j I hg hm hv ?_ hn hdb)
 exact PyProof.Rows.callWith_builtin1 (thn (ha pos pins s σ H _ I h) fun us s1 ⟨vs,H1,I1,r1,q1⟩=>hc pins s1 σ H1 vs us Q I1 r1 q1) he hpl
theorem b6R(hc:V6 X (.type T) r)(hg:Gl X x)(hm:X.mg x=none)(hv:U0 x=some (.type T))(ha:PA X (e::es) t)(hn:x ≠ "__name__" := by decide)(hdb:(x == ("__debug__" : Str))=false:=by decide)
  (he:i8 (e::es) X.env=(false,eval e X.env)::i8 es X.env:=by rfl) (hpl:(Y0 pos (i8 es X.env)).any (·.1)=false:=by rfl):PE X (.Call (.Name x p) (e::es) [] pos) (tCB r t):=by
 intro pins s σ H Q I h
 refine a0v (a4j I hg hm hv ?_ hn hdb)
 exact N7 (thn (ha pos pins s σ H _ I h) fun us s1 ⟨vs,H1,I1,r1,q1⟩=>hc pins s1 σ H1 vs us Q I1 r1 q1) he hpl
end
section
variable {κ:Type}[DecidableEq κ]
def a2X(kvs:List (κ×V))(k:κ):Option V:=(kvs.find? fun kv=>decide (kv.1=k)).map (·.2)
def a2g(kvs:List (κ×V))(k:κ)(v:V):List (κ×V):=
 if(kvs.any fun kv=>decide (kv.1=k))=true then kvs.map (fun kv=>if kv.1=k then (kv.1,v)else kv)else kvs++[(k,v)]
theorem a3V{p:κ×V}{r:List (κ×V)}{k:κ}(e:p.1=k):a2X (p::r) k=some p.2:=by simp[a2X,Z0,e]
theorem a3W{p:κ×V}{r:List (κ×V)}{k:κ}(e:¬p.1=k):a2X (p::r) k=a2X r k:=by simp[a2X,Z0,e]
theorem a8d(k:κ):∀kvs:List (κ×V),(kvs.any fun kv=>decide (kv.1=k))=(a2X kvs k).isSome
 | []=>rfl
 | p::r=>by
  rw[Z6]
  by_cases e:p.1=k
  ·simp only[a3V e,c9s e,Bool.true_or,Option.isSome_some]
  ·rw[a3W e,c9r e,c7p];exact a8d k r
theorem a4i(kvs:List (κ×V))(k:κ)(v:V):(a2g kvs k v).length<=kvs.length+1:=by
 unfold a2g
 split
 ·rw[c7];omega
 ·rw[t5,C1,a2f];omega
theorem a3H.isSome_eq{o:Option V}{u:Option Value}(r:a3H o u):o.isSome=u.isSome:=by
 cases o with
 | none=>cases u with
  | none=>rfl
  | some _=>exact(show False from r).elim
 | some _=>cases u with
  | none=>exact(show False from r).elim
  | some _=>rfl
theorem a3H.getD{o:Option V}{u:Option Value}{d:V}{d':Value}(r:a3H o u)(rd:F1 d d'):F1 (o.getD d) (u.getD d'):=by
 cases o with
 | none=>cases u with
  | none=>exact rd
  | some _=>exact(show False from r).elim
 | some _=>cases u with
  | none=>exact(show False from r).elim
  | some _=>exact r
theorem KV.val{kvs:List (κ×V)}{vs:List (κ×Value)}(r:KV kvs vs)(k:κ):a3H (a2X kvs k) (b8b vs k):=by
 unfold KV at r
 induction r with
 | nil=>exact True.intro
 | @cons p q ps qs h t ih=>
  obtain⟨h1,h2⟩:=h
  by_cases e:p.1=k
  ·have e':q.1=k:=h1.symm.trans e
   have b:b8b (q::qs) k=some q.2:=by simp[b8b,Z0,e']
   rw[a3V e,b];exact h2
  ·have e':¬q.1=k:=fun z=>e (h1.trans z)
   have b:b8b (q::qs) k=b8b qs k:=by simp[b8b,Z0,e']
   rw[a3W e,b];exact ih
theorem KV.any{kvs:List (κ×V)}{vs:List (κ×Value)}(r:KV kvs vs)(k:κ):(kvs.any fun kv=>decide (kv.1=k))=vs.any fun kv=>decide (kv.1=k):=by
 unfold KV at r
 induction r with
 | nil=>rfl
 | cons h t ih=>rw[Z6,Z6,ih,h.1]
theorem KV.repl{kvs:List (κ×V)}{vs:List (κ×Value)}(r:KV kvs vs)(k:κ)(ry:F1 y u) :
  KV (kvs.map fun kv=>if kv.1=k then (kv.1,y)else kv) (vs.map fun kv=>if kv.1=k then (kv.1,u)else kv):=by
 unfold KV at r ⊢
 induction r with
 | nil=>exact .nil
 | @cons p q ps qs h t ih=>
  rw[F8,F8]
  refine .cons ?_ ih
  obtain⟨h1,h2⟩:=h
  by_cases e:p.1=k
  ·rw[if_pos e,if_pos (h1.symm.trans e)];exact⟨h1,ry⟩
  ·rw[if_neg e,if_neg (fun z=>e (h1.trans z))];exact⟨h1,h2⟩
theorem KV.put{kvs:List (κ×V)}{vs:List (κ×Value)}(r:KV kvs vs)(k:κ)(ry:F1 y u):KV (a2g kvs k y) (stored vs k u):=by
 unfold a2g stored
 rw[r.any k]
 by_cases e:(vs.any fun kv=>decide (kv.1=k))=true
 ·rw[if_pos e,if_pos e];exact r.repl k ry
 ·rw[if_neg e,if_neg e];exact Paired.snoc r ⟨rfl,ry⟩
theorem KV.length{kvs:List (κ×V)}{vs:List (κ×Value)}(r:KV kvs vs):kvs.length=vs.length:=Paired.length r
end
theorem a8V{P:D6}{k:Key}(r:F1 (kV k) u):(O9 P w).is k u=true:=by
 cases k with
 | inl i=>obtain⟨t,e⟩:=(show ∃t,u=Value.int i t from r);subst e;exact b3d P w i t
 | inr x=>obtain⟨t,e⟩:=(show ∃t,u=Value.str x t from r);subst e;exact b3c P w x t
theorem b0j{P:D6}:∀ {ks:List Key} {us:List Value},G6 (ks.map kV) us->ItemsAre (O9 P w) ks us
 | [],_,r=>by rw[b6k]at r;cases r;exact .nil
 | k::ks,_,r=>by
  rw[F8]at r
  cases r with
  | cons h t=>exact .cons (a8V h) (b0j t)
abbrev KT(H:Hp):List (List Key×V)->List (List Key×Addr×Value)->Prop:=Paired fun p q=>p.1=q.1/\H q.2.1=some (.tup (p.1.map kV))/\F1 p.2 q.2.2
theorem KT.val{kvs:List (List Key×V)}{xs:List (List Key×Addr×Value)}(r:KT H kvs xs)(k:List Key):a3H (a2X kvs k) ((atKey xs k).map (·.2)):=by
 induction r with
 | nil=>exact True.intro
 | @cons p q ps qs h t ih=>
  obtain⟨h1,_,h2⟩:=h
  by_cases e:p.1=k
  ·have e':q.1=k:=h1.symm.trans e
   have b:atKey (q::qs) k=some q.2:=by simp[atKey,Z0,e']
   rw[a3V e,b];exact h2
  ·have e':¬q.1=k:=fun z=>e (h1.trans z)
   have b:atKey (q::qs) k=atKey qs k:=by simp[atKey,Z0,e']
   rw[a3W e,b];exact ih
theorem KT.repl{kvs:List (List Key×V)}{xs:List (List Key×Addr×Value)}(r:KT H kvs xs)(k:List Key)(ry:F1 y u) :
  KT H (kvs.map fun kv=>if kv.1=k then (kv.1,y)else kv) (xs.map (putAt k u)):=by
 induction r with
 | nil=>exact .nil
 | @cons p q ps qs h t ih=>
  rw[F8,F8]
  refine .cons ?_ ih
  obtain⟨h1,h2,h3⟩:=h
  unfold putAt
  by_cases e:p.1=k
  ·rw[if_pos e,if_pos (h1.symm.trans e)];exact⟨h1,h2,ry⟩
  ·rw[if_neg e,if_neg (fun z=>e (h1.trans z))];exact⟨h1,h2,h3⟩
theorem KT.put{kvs:List (List Key×V)}{xs:List (List Key×Addr×Value)}(r:KT H kvs xs)(k:List Key)(hb:H b=some (.tup (k.map kV)))(ry:F1 y u) :
  KT H (a2g kvs k y) (storedH xs k b u):=by
 have e:(kvs.any fun kv=>decide (kv.1=k))=(atKey xs k).isSome:=by
  rw[a8d,(r.val k).isSome_eq,a7q]
 unfold a2g storedH
 rw[e]
 by_cases q:(atKey xs k).isSome=true
 ·rw[if_pos q,if_pos q];exact r.repl k ry
 ·rw[if_neg q,if_neg q];exact Paired.snoc r ⟨rfl,hb,ry⟩
theorem KT.keeps{kvs:List (List Key×V)}{xs:List (List Key×Addr×Value)}(r:KT H kvs xs)(ht:∀b ys,H b=some (.tup ys)->H' b=some (.tup ys)):KT H' kvs xs:=
 Paired.mapP r fun _ _ z=>⟨z.1,ht _ _ z.2.1,z.2.2⟩
section
variable {P:D6}
theorem c3s{u:HO}(ok:HOk P w H h)(e:Rd H a u):W4 P w H h a u:=e.ok ok
theorem a7m(ok:HOk P w H h)(e:Rd H a (.dK kvs)):kvs.length<=u8/\(a == a0o)=false/\∃vs,KV kvs vs/\h.DictOf (O9 P w) a vs:=
 show W4 P w H h a (.dK kvs)from c3s ok e
theorem a8Z(ok:HOk P w H h)(e:H a=some (.dK kvs)):kvs.length<=u8/\(a == a0o)=false/\∃vs,KV kvs vs/\h.DictOf (O9 P w) a vs:=a7m ok (.inl e)
theorem a6K{ks:List Key}(ok:HOk P w H h)(e:H a=some (.tup (ks.map kV))):(b2n (O9 P w)).is h ks a:=by
 obtain⟨_,its,r,o,h1,h2,n,h3⟩:=(show W4 P w H h a (.tup (ks.map kV))from ok a _ e)
 exact⟨o,its.toArray,n,h1,h2,h3,by simpa using b0j r⟩
theorem a8Y{kvs:List (List Key×V)}(ok:HOk P w H h)(e:Rd H a (.dT kvs)):kvs.length<=u8/\(a == a0o)=false /\
  ∃xs,KT H kvs xs/\h.DictOfH (b2n (O9 P w)) a xs:=by
 obtain⟨z,y,xs,r,o,es,ep,h1,h2,h3,h4,h5⟩:=(show W4 P w H h a (.dT kvs)from c3s ok e)
 refine⟨z,y,xs,r,o,es,ep,h1,h2,h3,h4,fun x hx=>?_,h5⟩
 have all:∀ {l:List (List Key×V)} {m:List (List Key×Addr×Value)},KT H l m->∀x∈m,(b2n (O9 P w)).is h x.1 x.2.1:=by
  intro l m q
  induction q with
  | nil=>intro x hx;exact nomatch hx
  | @cons p q ps qs hq t ih=>
   intro x hx
   rcases p8.mp hx with e | hx
   ·subst e
    exact a6K ok (by rw[<-hq.1];exact hq.2.1)
   ·exact ih x hx
 exact all r x hx
theorem c7m{kvs:List (List Key×V)}(ok:HOk P w H h)(e:H a=some (.dT kvs)):kvs.length<=u8/\(a == a0o)=false /\
  ∃xs,KT H kvs xs/\h.DictOfH (b2n (O9 P w)) a xs:=a8Y ok (.inl e)
end
def a3I(H:Hp)(a:Addr)(y:V)(r:Option V):Prop:=
 (∃kvs k,Rd H a (.dK kvs)/\y=kV k/\r=a2X kvs k)\/∃kvs k b,Rd H a (.dT kvs)/\y=.ref b/\H b=some (.tup (k.map kV))/\r=a2X kvs k
def a7w(H:Hp)(a:Addr)(y v:V)(H':Hp):Prop:=
 (∃kvs k,H a=some (.dK kvs)/\y=kV k/\kvs.length<u8/\H'=upd H a (.dK (a2g kvs k v))) \/
 ∃kvs k b,H a=some (.dT kvs)/\y=.ref b/\H b=some (.tup (k.map kV))/\kvs.length<u8/\H'=upd H a (.dT (a2g kvs k v))
theorem a3I.k{k:Key}(e:H a=some (.dK kvs)):a3I H a (kV k) (a2X kvs k):=.inl ⟨kvs,k,.inl e,rfl,rfl⟩
theorem a7w.k{k:Key}(e:H a=some (.dK kvs))(hl:kvs.length<u8):a7w H a (kV k) v (upd H a (.dK (a2g kvs k v))):=.inl ⟨kvs,k,e,rfl,hl,rfl⟩
section
variable {r:Value}{o:Option V}{A:K7}{E:Value->l4->Prop}
theorem Inv.big(I:Inv X pins σ H s):a0o<s.heap.objs.size:=by
 have h:A4<s.heap.objs.size:=(I.mod.glob.keeps I.bk).lt
 exact Nat.lt_trans (by decide) h
theorem b7w(hu:A.units+1<cLine)(I:Inv X pins σ H s)(g:a3I H a y (some v))(ry:F1 y u)(h:∀w' s',Inv X pins σ H s'->F1 v w'->Q w' s') :
  wpAny (model X.prog X.w) A (b0z (.ref a) u) Q E s:=by
 rcases g with ⟨kvs,k,e,ey,l⟩ | ⟨kvs,k,b,e,ey,eb,l⟩
 ·subst ey
  obtain⟨z,hd,vs,rel,dd⟩:=a7m I.hok e
  obtain⟨w',hw,rw'⟩:=a3H.some_of (v:=v) (o:=b8b vs k) (by rw[l];exact rel.val k)
  exact wpAny_getItem_of (a8V ry) dd.mapOf hw (h w' _ (I.tok _) rw')
 ·subst ey
  cases (show u=Value.ref b from ry)
  obtain⟨z,hd,xs,rel,dd⟩:=a8Y I.hok e
  obtain⟨w',hw,rw'⟩:=a3H.some_of (v:=v) (o:=(atKey xs k).map (·.2)) (by rw[l];exact rel.val k)
  obtain⟨p,hp,hp2⟩:=G8.mp hw
  refine wpAny_getItem_heap (a1O hu) (a6K I.hok eb) dd hp ?_
  rw[hp2]
  exact h w' _ (I.tok _) rw'
theorem c7R(hu:A.units+1<cLine)(I:Inv X pins σ H s)(g:a3I H a y o)(ry:F1 y u)(h:∀s',Inv X pins σ H s'->Q (.bool o.isSome) s') :
  wpAny (model X.prog X.w) A (A3 .In u (.ref a)) Q E s:=by
 rcases g with ⟨kvs,k,e,ey,l⟩ | ⟨kvs,k,b,e,ey,eb,l⟩
 ·subst ey
  obtain⟨z,hd,vs,rel,dd⟩:=a7m I.hok e
  refine wpAny_in_of (a8V ry) hd dd.mapOf ?_
  rw[<-(rel.val k).isSome_eq,<-l]
  exact h _ (I.tok _)
 ·subst ey
  cases (show u=Value.ref b from ry)
  obtain⟨z,hd,xs,rel,dd⟩:=a8Y I.hok e
  refine wpAny_in_heap (a1O hu) (a6K I.hok eb) hd dd ?_
  have q:=(rel.val k).isSome_eq
  rw[a7q]at q
  rw[<-q,<-l]
  exact h _ (I.tok _)
theorem c2Q(hu:A.units+1<cLine)(I:Inv X pins σ H s)(g:a3I H a y o)(ry:F1 y u)(h:∀s',Inv X pins σ H s'->Q (.bool (!o.isSome)) s') :
  wpAny (model X.prog X.w) A (A3 .NotIn u (.ref a)) Q E s:=by
 rcases g with ⟨kvs,k,e,ey,l⟩ | ⟨kvs,k,b,e,ey,eb,l⟩
 ·subst ey
  obtain⟨z,hd,vs,rel,dd⟩:=a7m I.hok e
  refine wpAny_notIn_of (a8V ry) hd dd.mapOf ?_
  rw[<-(rel.val k).isSome_eq,<-l]
  exact h _ (I.tok _)
 ·subst ey
  cases (show u=Value.ref b from ry)
  obtain⟨z,hd,xs,rel,dd⟩:=a8Y I.hok e
  refine wpAny_notIn_heap (a1O hu) (a6K I.hok eb) hd dd ?_
  have q:=(rel.val k).isSome_eq
  rw[a7q]at q
  rw[<-q,<-l]
  exact h _ (I.tok _)
theorem a7J{ob:HO}(I:Inv X pins σ H s)(mu:Mut (H a))(hs:Heap.SameBut a s.heap h')(he:∃q,h'.get? a=some q)(new:W4 X.prog X.w (upd H a ob) h' a ob) :
  Inv X pins σ (upd H a ob) { s with heap:=h',toks:=t' }:=
 I.write (x:=a) (e:=a) mu (.inl rfl) (fun b q hb z=>(hs.2 b hb).trans z) he new
theorem b1O{P:D6}{vs:List (Key×Value)}(z:kvs.length<=u8)(hd:(a == a0o)=false)(rel:KV kvs vs)(dd:h'.DictOf (O9 P w) a vs) :
  W4 P w H' h' a (.dK kvs):=⟨z,hd,vs,rel,dd⟩
theorem b7v{Q:Unit->l4->Prop}(hu:A.units+1<cLine)(I:Inv X pins σ H s)(g:a7w H a y v H')(ry:F1 y u)(rv:F1 v r)(h:∀s',Inv X pins σ H' s'->Q () s') :
  wpAny (model X.prog X.w) A (c3J (.ref a) u r) Q E s:=by
 rcases g with ⟨kvs,k,e,ey,l,eH⟩ | ⟨kvs,k,b,e,ey,eb,l,eH⟩
 ·subst ey eH
  obtain⟨z,hd,vs,rel,dd⟩:=a8Z I.hok e
  have hz:vs.length<=u8:=by rw[<-rel.length];exact z
  have hl:(a2g kvs k v).length<=u8:=by have:=a4i kvs k v;omega
  refine wpAny_setItem_pairs (hsz:=hz) (a8V ry) dd fun h' dd' hs=>h _ ?_
  have he:∃q,h'.get? a=some q:=let⟨q,_,_,hq,_⟩:=dd'; ⟨q,hq⟩
  exact a7J I (by rw[e];exact True.intro) hs he (b1O hl hd (rel.put k rv) dd')
 ·subst ey eH
  cases (show u=Value.ref b from ry)
  obtain⟨z,hd,xs,rel,dd⟩:=c7m I.hok e
  have hz:xs.length<=u8:=by rw[<-Paired.length rel];exact z
  have hl:(a2g kvs k v).length<=u8:=by have:=a4i kvs k v;omega
  refine wpAny_setItem_heap (hsz:=hz) (a1O hu) (a6K I.hok eb) dd fun h' dd' hs=>h _ ?_
  obtain⟨q,es,ep,hq,h2,h3,h4,_,h5⟩:=dd'
  refine a7J I (by rw[e];exact True.intro) hs ⟨q,hq⟩ ⟨hl,hd,_,(rel.put k eb rv).keeps fun c ys ec=>?_,q,es,ep,hq,h2,h3,h4,h5⟩
  rw[d6 (F6 ec e (fun z=>nomatch z))]
  exact ec
end
section
variable {k:Key}{A:K7}{E:Value->l4->Prop}
theorem c2R(I:Inv X pins σ H s)(e:H a=some (.dK kvs))(h:∀s',Inv X pins σ (upd H a (.dK [])) s'->Q .none s'):wpAny (model X.prog X.w) A (call (.builtin "dict.clear") [.ref a]) Q E s:=by
 obtain⟨z,hd,vs,rel,dd⟩:=a8Z I.hok e
 refine call_meetsIn a3w dd.typeIs PySem.F.entry_dict_clear (PySem.F.args_dict_clear_1 _) (meets_dict_clear (O9 X.prog X.w) a) ⟨vs,dd,by rw[<-rel.length];exact z,fun h' dd' hs=>h _ ?_⟩
 have he:∃q,h'.get? a=some q:=let⟨q,_,_,hq,_⟩:=dd'; ⟨q,hq⟩
 exact a7J (t':=s.toks) I (by rw[e];exact True.intro) hs he (b1O (K0 _) hd .nil dd')
end
def c5X(i:Expr):Prop:=∀ov iv,b8c i false ov iv=operate [ov,iv] (b0z ov iv)
theorem c1j{prog:D6}{A:K7}{E:Value->l4->Prop}{env:Env}{value slice:Expr}{T id:String}
  (hl:c3f (.type T) "__getitem__" = pure (some (.builtin id))) (hs:c5X slice)
  (h:wpAny (model prog w) A (eval value env) (fun o s₁=>wpAny (model prog w) A (eval slice env) (fun i s₂=>s₂.TypeIs o T/\wpAny (model prog w) A (b0z o i) Q E s₂) E s₁) E s) :
  wpAny (model prog w) A (eval (.Subscript value slice pos) env) Q E s:=by
 refine Subscript_ (X8 h (fun o s₁ h₁=>X8 h₁ (fun i s₂ h₂=>?_) fun _ _ x=>x) fun _ _ x=>x)
 obtain⟨hT,h₂⟩:=h₂
 unfold c3I
 refine d5 ?_
 rw[getitemInPython_of_ne hT.not_modules]
 refine d5 (wpAny_specialOf hT hl ?_)
 have fin:wpAny (model prog w) A (b8c slice false o i) (fun r s₃=>wpAny (model prog w) A (letTemporaryGo value o r >>= fun _=>pure r) Q E s₃) E s₂:=by
  rw[hs o i]
  exact wpAny_operating (X8 h₂ (fun r s₃ h₃=>d5 (wpAny_letTemporaryGo (v6 h₃))) fun _ _ x=>x)
 first
  | exact v6 (d5 fin)
  | exact d5 (v6 (d5 fin))
  | exact d5 fin
theorem b3l{o:Option V}(I:Inv X pins σ H s)(g:a3I H a y o):s.TypeIs (.ref a) "dict" := by
 rcases g with ⟨kvs,k,e,_,_⟩ | ⟨kvs,k,b,e,_,_,_⟩
 ·obtain⟨_,_,vs,_,dd⟩:=a7m I.hok e
  exact dd.typeIs
 ·obtain⟨_,_,xs,_,dd⟩:=a8Y I.hok e
  exact dd.typeIs
def b5F(td ty:TE):TE:=fun σ H Q=>td σ H fun x H1=>ty σ H1 fun y H2=>∃a v,x=.ref a/\a3I H2 a y (some v)/\Q v H2
def b0H(ty td:TE):TE:=fun σ H Q=>ty σ H fun y H1=>td σ H1 fun x H2=>∃a o,x=.ref a/\a3I H2 a y o/\Q (.bl o.isSome) H2
def a4w(ty td:TE):TE:=fun σ H Q=>ty σ H fun y H1=>td σ H1 fun x H2=>∃a o,x=.ref a/\a3I H2 a y o/\Q (.bl (!o.isSome)) H2
def a1Z(td ty tv:TE):TS:=fun D σ H=>tv σ H fun v H1=>td σ H1 fun x H2=>ty σ H2 fun y H3=>∃a H4,x=.ref a/\a7w H3 a y v H4/\D.nx σ H4
section
variable {o i value:Expr}{pos' tpos:Pos}{td ty tv:TE}
theorem c1U(hu:X.A.units+1<cLine)(ho:PE X o td)(hi:PE X i ty)(hs:c5X i):PE X (.Subscript o i pos) (b5F td ty):=by
 intro pins s σ H Q I h
 refine c1j PySem.F.slot_dict_getitem.lookup hs (thn (ho pins s σ H _ I h) fun u s1 ⟨x,H1,I1,rx,q1⟩=>thn (hi pins s1 σ H1 _ I1 q1) fun iv s2 ⟨y,H2,I2,ry,a,v,ex,g,q2⟩=>?_)
 subst ex
 obtain rfl:u=Value.ref a:=rx
 exact⟨b3l I2 g,b7w hu I2 g ry fun w' s3 I3 rw'=>⟨v,H2,I3,rw',q2⟩⟩
theorem b9P(hu:X.A.units+1<cLine)(hi:PE X i ty)(ho:PE X o td):PC X .In i o (b0H ty td):=by
 intro pins s σ H Q I h
 refine thn (hi pins s σ H _ I h) fun iv s1 ⟨y,H1,I1,ry,q1⟩=>thn (ho pins s1 σ H1 _ I1 q1) fun u s2 ⟨x,H2,I2,rx,a,ov,ex,g,q2⟩=>?_
 subst ex
 obtain rfl:u=Value.ref a:=rx
 exact c7R hu I2 g ry fun s3 I3=>⟨.bl ov.isSome,H2,I3,rfl,q2⟩
theorem b6S(hu:X.A.units+1<cLine)(hi:PE X i ty)(ho:PE X o td):PC X .NotIn i o (a4w ty td):=by
 intro pins s σ H Q I h
 refine thn (hi pins s σ H _ I h) fun iv s1 ⟨y,H1,I1,ry,q1⟩=>thn (ho pins s1 σ H1 _ I1 q1) fun u s2 ⟨x,H2,I2,rx,a,ov,ex,g,q2⟩=>?_
 subst ex
 obtain rfl:u=Value.ref a:=rx
 exact c2Q hu I2 g ry fun s3 I3=>⟨.bl (!ov.isSome),H2,I3,rfl,q2⟩
theorem c1J(hu:X.A.units+1<cLine)(ho:PE X o td)(hi:PE X i ty)(hv:PE X value tv)(hs:a1P value (some (.Subscript o i pos')) pos.line X.env=pure false) :
  PS X (.Assign [.Subscript o i pos'] value pos) (a1Z td ty tv):=by
 intro pins s σ H D I h
 refine wpAny_Assign_Subscript (thn (hv pins s σ H _ I h) fun r s1 ⟨v,H1,I1,rv,q1⟩=>thn (ho pins s1 σ H1 _ I1 q1) fun u s2 ⟨x,H2,I2,rx,q2⟩=>thn (hi pins s2 σ H2 _ I2 q2) fun iv s3 ⟨y,H3,I3,ry,a,H4,ex,g,q3⟩=>?_) hs
 subst ex
 obtain rfl:u=Value.ref a:=rx
 exact b7v hu I3 g ry rv fun s4 I4=>⟨σ,H4,I4,q3⟩
end
theorem b3k{P:D6}(h:Heap)(hb:a0o<h.objs.size):W4 P w H (h.push { cls:=.type "dict",data:=.dict #[] }) h.objs.size (.dK []):=
 ⟨K0 _,beq_eq_false_iff_ne.mpr (Ne.symm (B0 hb)),[],.nil,Heap.DictOf.new h⟩
def a6o:TE:=fun _ H Q=>∀p,H p=none->Q (.ref p) (upd H p (.dK []))
section
theorem b9K:PE X (.Dict [] [] pos) a6o:=fun pins s σ H Q I h=>
 wpAny_Dict_empty ⟨.ref s.heap.objs.size,_,I.laid (a:=s.heap.objs.size) (o:=.dK []) (t':=s.toks) (fun _ _ q=>g9 _ q) (i9 _) (b3k s.heap I.big),rfl,h _ (I.hok.fresh (i9 _))⟩
end
def b3W:List (TE×TE)->St->Hp->(List (V×V)->Hp->Prop)->Prop
 | [],_,H,Q=>Q [] H
 | (tk,tv)::r,σ,H,Q=>tk σ H fun x H1=>tv σ H1 fun y H2=>b3W r σ H2 fun ps H3=>Q ((x,y)::ps) H3
abbrev VV:List (V×V)->List (Value×Value)->Prop:=Paired fun p q=>F1 p.1 q.1/\F1 p.2 q.2
def PPs(X:Cx)(pos:Pos)(keys:List (Option Expr))(values:List Expr)(trs:List (TE×TE)):Prop:=
 ∀(pins:List (Addr×Obj)) (s:l4) (σ:St) (H:Hp) (Q:List (V×V)->Hp->Prop),Inv X pins σ H s->b3W trs σ H Q ->
  wpAny (model X.prog X.w) X.A (evalPairs (pairTrees keys values X.env pos)) (fun vs s'=>∃ps H',Inv X pins σ H' s'/\VV ps vs/\Q ps H') X.xe s
theorem c1L:PPs X pos [] [] []:=fun pins s σ H Q I h=>pairTrees_nil_walk ⟨[],H,I,.nil,h⟩
theorem b9E{k v:Expr}{ks:List (Option Expr)}{vs:List Expr}{tk tv:TE}{trs:List (TE×TE)}(hk:PE X k tk)(hv:PE X v tv)(hr:PPs X pos ks vs trs) :
  PPs X pos (some k::ks) (v::vs) ((tk,tv)::trs):=fun pins s σ H Q I h=>
 pairTrees_cons_walk (thn (hk pins s σ H _ I h) fun u s1 ⟨x,H1,I1,rx,q1⟩=>thn (hv pins s1 σ H1 _ I1 q1) fun w2 s2 ⟨y,H2,I2,ry,q2⟩=>
  thn (hr pins s2 σ H2 _ I2 q2) fun ws s3 ⟨ps,H3,I3,rel,q3⟩=>⟨(x,y)::ps,H3,I3,.cons ⟨rx,ry⟩ rel,q3⟩)
def a6H(kvs more:List (Key×V)):List (Key×V):=more.foldl (fun acc kv=>a2g acc kv.1 kv.2) kvs
theorem KV.merge:∀ {more:List (Key×V)} {rs:List (Key×Value)} {kvs:List (Key×V)} {vs:List (Key×Value)},KV more rs->KV kvs vs->KV (a6H kvs more) (merged vs rs):=by
 intro more rs kvs vs r
 unfold KV at r
 induction r generalizing kvs vs with
 | nil=>intro q;exact q
 | @cons p q ps qs h t ih=>
  intro r0
  have e:KV (a2g kvs p.1 p.2) (stored vs q.1 q.2):=by
   have:=r0.put p.1 h.2
   rw[<-h.1];exact this
  exact ih e
theorem a4T:∀(more kvs:List (Key×V)),(a6H kvs more).length<=kvs.length+more.length
 | [],kvs=>by show kvs.length<=kvs.length+0;omega
 | p::r,kvs=>by
  have h1:=a4T r (a2g kvs p.1 p.2)
  have h2:=a4i kvs p.1 p.2
  show(a6H (a2g kvs p.1 p.2) r).length<=_
  rw[C1];omega
theorem a9h{P:D6}{w:World}:∀ {kvs:List (Key×V)} {ws:List (Value×Value)},VV (kvs.map fun kv=>(kV kv.1,kv.2)) ws->∃rs,Carries (O9 P w) ws rs/\KV kvs rs
 | [],_,r=>by rw[b6k]at r;cases r;exact⟨[],True.intro,.nil⟩
 | p::kvs,_,r=>by
  rw[F8]at r
  cases r with
  | @cons a b as bs h t=>
   obtain⟨rs,c,q⟩:=a9h (P:=P) (w:=w) t
   obtain⟨b1,b2⟩:=b
   exact⟨(p.1,b2)::rs,⟨a8V h.1,rfl,c⟩,.cons ⟨rfl,h.2⟩ q⟩
def b8H(trs:List (TE×TE)):TE:=fun σ H Q=>∀p,H p=none->b3W trs σ (upd H p (.dK [])) fun ps H2=>H2 p=some (.dK [])/\∃kvs:List (Key×V),ps=kvs.map (fun kv=>(kV kv.1,kv.2))/\kvs.length<=15/\Q (.ref p) (upd H2 p (.dK (a6H [] kvs)))
theorem c1T{keys:List (Option Expr)}{values:List Expr}{trs:List (TE×TE)}(h:PPs X pos keys values trs)(hall:keys.all (·.isSome)=true)(hl:keys.length=values.length)(h0:keys≠[])
  (h15:keys.length<=15):PE X (.Dict keys values pos) (b8H trs):=by
 intro pins s σ H Q I q
 have hn:=I.hok.fresh (i9 s.heap.objs.size)
 have I1:=I.laid (a:=s.heap.objs.size) (o:=.dK []) (h':=s.heap.push { cls:=.type "dict",data:=.dict #[] }) (t':=s.toks) (fun _ _ q=>g9 _ q) (i9 _) (b3k s.heap I.big)
 refine wpAny_Dict_walk (knd:=O9 X.prog X.w) hall hl h0 h15 (thn (h pins _ σ _ _ I1 (q _ hn)) fun ws s2 ⟨ps,H2,I2,rel,e,kvs,ep,lk,q2⟩=>?_)
 subst ep
 obtain⟨rs,c,rk⟩:=a9h (P:=X.prog) (w:=X.w) rel
 obtain⟨z,hd,vs0,r0,dd⟩:=a8Z I2.hok e
 cases r0
 refine⟨rs,c,dd,fun h' dd' hs=>⟨.ref s.heap.objs.size,_,?_,rfl,q2⟩⟩
 have hz:(a6H [] kvs).length<=u8:=by
  have h1:=a4T kvs []
  rw[a2f]at h1
  rw[sizeLine_eq];omega
 have he:∃q,h'.get? s.heap.objs.size=some q:=let⟨q,_,_,hq,_⟩:=dd'; ⟨q,hq⟩
 exact a7J I2 (by rw[e];exact True.intro) hs he (b1O hz hd (rk.merge .nil) dd')
structure M1(X:Cx)(o:Expr)(m:Str)(apos:Pos)(e:Expr)(cpos:Pos):Prop where
 base:Y1 o m X.env (eval o X.env)=eval o X.env
 few:((Y0 cpos (i8 [e] X.env)).all (fun x => !x.1)&&(a9r cpos (a2w [] X.env)).all (fun x=>x.1.isSome)
  && decide (([e]:List Expr).length+([]:List a6k).length+(if([]:List a6k).isEmpty then 0 else 1)<30))=true
 line:(apos.endLine == cpos.line)=true
 trees:Y0 cpos (i8 [e] X.env)=[(false,eval e X.env)]
structure M2(X:Cx)(o:Expr)(m:Str)(apos:Pos)(e f:Expr)(cpos:Pos):Prop where
 base:Y1 o m X.env (eval o X.env)=eval o X.env
 few:((Y0 cpos (i8 [e,f] X.env)).all (fun x => !x.1)&&(a9r cpos (a2w [] X.env)).all (fun x=>x.1.isSome)
  && decide (([e,f]:List Expr).length+([]:List a6k).length+(if([]:List a6k).isEmpty then 0 else 1)<30))=true
 line:(apos.endLine == cpos.line)=true
 trees:Y0 cpos (i8 [e,f] X.env)=[(false,eval e X.env),(false,eval f X.env)]
def IsD(H:Hp)(a:Addr):Prop:=(∃kvs,Rd H a (.dK kvs))\/∃kvs,Rd H a (.dT kvs)
theorem c5I(I:Inv X pins σ H s)(d:IsD H a) :
  s.TypeIs (.ref a) "dict" /\ (∀b,Value.ref a=.ref b->∃ob,s.heap.get? b=some ob/\ob.dict=none)/\(a == a0o)=false:=by
 rcases d with ⟨kvs,e⟩ | ⟨kvs,e⟩
 ·obtain⟨_,hd,vs,_,dd⟩:=a7m I.hok e
  refine⟨dd.typeIs,fun b q=>?_,hd⟩
  cases q
  obtain⟨ob,_,_,h1,h2,_⟩:=dd
  exact⟨ob,h1,h2.2.1⟩
 ·obtain⟨_,hd,xs,_,dd⟩:=a8Y I.hok e
  refine⟨dd.typeIs,fun b q=>?_,hd⟩
  cases q
  obtain⟨ob,_,_,h1,h2,_⟩:=dd
  exact⟨ob,h1,h2.2.1⟩
section
variable {d:V}{r:Value}{o:Option V}{A:K7}{E:Value->l4->Prop}
theorem c5N(hu:A.units+1<cLine)(I:Inv X pins σ H s)(g:a3I H a y o)(ry:F1 y u)(rd:F1 d r)(h:∀w' s',Inv X pins σ H s'->F1 (o.getD d) w'->Q w' s') :
  wpAny (model X.prog X.w) A (call (.builtin "dict.get") [.ref a,u,r]) Q E s:=by
 rcases g with ⟨kvs,k,e,ey,l⟩ | ⟨kvs,k,b,e,ey,eb,l⟩
 ·subst ey
  obtain⟨z,hd,vs,rel,dd⟩:=a7m I.hok e
  refine call_meetsIn a4q dd.typeIs b3A (b2m _ _ _) (meets_dict_get_default (O9 X.prog X.w) a (a8V ry) hd r) ⟨_,dd.mapOf,h _ _ (I.tok _) ?_⟩
  rw[l]
  exact(rel.val k).getD rd
 ·subst ey
  cases (show u=Value.ref b from ry)
  obtain⟨z,hd,xs,rel,dd⟩:=a8Y I.hok e
  refine call_meetsIn a4q dd.typeIs b3A (b2m _ _ _) (meetsH_dict_get_default (b2n (O9 X.prog X.w)) a b hd r) ⟨a1O hu,k,xs,a6K I.hok eb,dd,h _ _ (I.tok _) ?_⟩
  rw[l]
  exact(rel.val k).getD rd
end
def a8m(td ty tx:TE):TE:=fun σ H Q=>td σ H fun x H1=>∃a,x=.ref a/\IsD H1 a/\ty σ H1 fun y H2=>tx σ H2 fun z H3=>∃o,a3I H3 a y o/\Q (o.getD z) H3
section
variable {o f:Expr}{apos cpos:Pos}{td ty tx:TE}
theorem b9L(hu:X.A.units+1<cLine)(ho:PE X o td)(he:PE X e ty)(hf:PE X f tx)(m:M2 X o "get" apos e f cpos):PE X (.Call (.Attribute o "get" apos) [e,f] [] cpos) (a8m td ty tx):=by
 intro pins s σ H Q I h
 refine wpAny_Call_method m.base m.few m.line a3x a4q PySem.F.type_dict_get (thn (ho pins s σ H _ I h) fun u s1 ⟨x,H1,I1,rx,a,ex,d,q1⟩=>?_)
 subst ex
 obtain rfl:u=Value.ref a:=rx
 obtain⟨t1,t2,_⟩:=c5I I1 d
 refine⟨t1,t2,?_⟩
 rw[m.trees]
 refine Calls.callWith_builtin rfl (Calls.evalArgs_plain (Calls.spliced_cons (thn (he pins s1 σ H1 _ I1 q1) fun iv s2 ⟨y,H2,I2,ry,q2⟩=>
  Calls.spliced_cons (thn (hf pins s2 σ H2 _ I2 q2) fun fv s3 ⟨z,H3,I3,rz,ov,g,q3⟩=>Calls.spliced_nil ?_))))
 exact c5N hu I3 g ry rz fun w' s4 I4 rw'=>⟨_,H3,I4,rw',q3⟩
end
section
variable {A:K7}{E:Value->l4->Prop}
theorem c0C(I:Inv X pins σ H s)(e:Rd H a (.dK kvs))(h:∀p s',H p=none->Inv X pins σ (upd H p (.dK kvs)) s'->Q (.ref p) s'):wpAny (model X.prog X.w) A (call (.type "dict") [.ref a]) Q E s:=by
 obtain⟨z,hd,vs,rel,dd⟩:=a7m I.hok e
 refine kt_call_dict hd dd (by rw[<-rel.length];exact z) fun h' dd' hs=>?_
 refine h _ _ (I.hok.fresh (i9 _)) (I.laid (a:=s.heap.objs.size) (o:=.dK kvs) (t':=s.toks) (fun b q hq=>?_) (i9 _) (b1O z (beq_eq_false_iff_ne.mpr (Ne.symm (B0 I.big))) rel dd'))
 exact(hs.2 b (B0 (o6 hq))).trans (g9 _ hq)
end
section
variable {A:K7}{E:Value->l4->Prop}
end
end L2
namespace HT
open PySem PyProof.Rows
section
open PySem.SeqAt
open PySem.AutoSeq1 (wpAny_loadPart')
open PySem.MeetsSeq PySem.MeetsSeq2 PySem.MeetsSeq3
end
section
variable {prog:D6}{w:World}{A:K7}{E:Value->l4->Prop}{s:l4}
def sIx(n d:Nat):Option Int->Nat
 | none=>d
 | some v=>if v<0 then (v+(n:Int)).toNat else min v.toNat n
theorem a7E(n d k:Nat):sIx n d (some (k:Int))=min k n:=by
 show(if(k:Int)<0 then ((k:Int)+(n:Int)).toNat else min (k:Int).toNat n)=min k n
 rw[if_neg (by omega),A7]
theorem c4i(n d:Nat)(hd:d<=n)(o:Option Int):sIx n d o<=n:=by
 cases o with
 | none=>exact hd
 | some v=>
  show(if v<0 then (v+(n:Int)).toNat else min v.toNat n)<=n
  by_cases hv:v<0
  ·rw[if_pos hv];omega
  ·rw[if_neg hv];exact Nat.min_le_right _ _
theorem b6c(v:Int)(n d:Nat):(if v<0 then max (v+(n:Int)) 0 else min v (n:Int))=((sIx n d (some v):Nat):Int):=by
 show(if v<0 then max (v+(n:Int)) 0 else min v (n:Int))=(((if v<0 then (v+(n:Int)).toNat else min v.toNat n):Nat):Int)
 by_cases hv:v<0
 ·simp only[if_pos hv];omega
 ·simp only[if_neg hv];omega
theorem b5h(lo hi:Option Int)(n:Nat):Builtin.Slice.sliceAdjust lo hi 1 (n:Int)=(((sIx n 0 lo:Nat):Int),((sIx n n hi:Nat):Int)):=by
 have h1:¬((1:Int)<0):=by omega
 unfold Builtin.Slice.sliceAdjust
 simp only[h1,if_false]
 refine Prod.ext ?_ ?_
 ·cases lo with
  | none=>rfl
  | some v=>exact b6c v n 0
 ·cases hi with
  | none=>rfl
  | some v=>exact b6c v n n
theorem b4u(i j:Nat):Builtin.Slice.slicePlaces (i:Int) (j:Int) 1=j - i:=by
 unfold Builtin.Slice.slicePlaces
 have h1:(1:Int) > 0:=by omega
 simp only[h1,if_true,Int.ediv_one]
 split <;> omega
theorem a8t{v:Value}{o:Option Int}{Q:Option Int->l4->Prop}(p:c3h v o)(h:Q o s):wpAny (model prog w) A (Builtin.Slice.slicePartIndex v) Q E s:=by
 cases p with
 | none=>exact slicePart_none h
 | int i t=>exact slicePart_int h
theorem a6q{sl:Addr}{vl vu:Value}{lo hi:Option Int}{n:Nat}{Q:Int×Int×Nat->l4->Prop}(hs:s.heap.IsSliceOf sl vl vu .none)(pl:c3h vl lo)(pu:c3h vu hi)
  (h:Q (((sIx n 0 lo:Nat):Int),1,sIx n n hi - sIx n 0 lo) s):wpAny (model prog w) A (Builtin.Slice.sliceApplied (.ref sl) (pure (n:Int))) Q E s:=by
 obtain⟨os,hos,hcs,hds⟩:=id hs
 unfold Builtin.Slice.sliceApplied Builtin.Slice.sliceFields
 refine d5 (d5 (c7x hos hds (x:=vl) rfl (d5 (c7x hos hds (x:=vu) rfl (d5 (c7x hos hds (x:=.none) rfl (v6 ?_)))))))
 refine d5 (slicePart_none ?_)
 show wpAny _ _ (if((1:Int) == 0)=true then _ else _) _ _ s
 rw[if_neg (by decide)]
 refine d5 (a8t pl (d5 (a8t pu (d5 (v6 ?_)))))
 show wpAny _ _ (match Builtin.Slice.sliceAdjust lo hi 1 (n:Int)with | (lo,hi)=>pure (lo,(1:Int),Builtin.Slice.slicePlaces lo hi 1)) _ _ s
 rw[b5h lo hi n]
 show wpAny _ _ (pure (((sIx n 0 lo:Nat):Int),(1:Int),Builtin.Slice.slicePlaces ((sIx n 0 lo:Nat):Int) ((sIx n n hi:Nat):Int) 1)) _ _ s
 rw[b4u]
 exact v6 h
theorem b9F(xs:Array Value)(i k:Nat):((M0 k).filterMap fun(m:Nat)=>xs[((i:Int)+(m:Int) * 1).toNat]?).toArray=((xs.toList.drop i).take k).toArray:=by
 have e:(fun(m:Nat)=>xs[((i:Int)+(m:Int) * 1).toNat]?)=fun m=>xs[i+m]?:=by
  funext m
  have:((i:Int)+(m:Int) * 1).toNat=i+m:=by omega
  rw[this]
 rw[e]
 have:=pick_run xs i k
 rw[List.filterMap_map]at this
 have e2:((fun x=>xs[x]?) ∘ fun x=>i+x)=fun m=>xs[i+m]?:=rfl
 rw[e2]at this
 rw[this]
theorem a5U{t sl:Addr}{items:Array Value}{vl vu:Value}{lo hi:Option Int}{Q:Value->l4->Prop}(ht:IsTup s.heap t items)(hs:s.heap.IsSliceOf sl vl vu .none)(pl:c3h vl lo)(pu:c3h vu hi)
  (hw:¬(sIx items.size 0 lo=0/\sIx items.size items.size hi=items.size))
  (h:Q (.ref s.heap.objs.size) { s with heap:=s.heap.push { cls:=.type "tuple",data:=.seq ((items.toList.drop (sIx items.size 0 lo)).take (sIx items.size items.size hi - sIx items.size 0 lo)).toArray } })
  (hsz:items.size<=u8):wpAny (model prog w) A (b0z (.ref t) (.ref sl)) Q E s:=by
 have htake:sizeOk (.seq ((items.toList.drop (sIx items.size 0 lo)).take (sIx items.size items.size hi - sIx items.size 0 lo)).toArray):=by
  show((items.toList.drop (sIx items.size 0 lo)).take (sIx items.size items.size hi - sIx items.size 0 lo)).toArray.size<=u8
  rw[o9,J4,a9s,X3]
  omega
 have hj:sIx items.size items.size hi<=items.size:=c4i _ _ (i9 _) hi
 obtain⟨os,hos,hcs,hds⟩:=id hs
 have hTs:s.TypeIs (.ref sl) "slice" := ⟨os,hos,hcs⟩
 unfold b0z
 try with_reducible refine a1N ?_
 first | refine d5 (v6 ?_) | skip
 refine d5 (wpAny_sequenceKey ht.typeIs (by decide) ?_)
 refine d5 (a6i (name:=Str.ofString "__getitem__") ht.typeIs a0A
  (a1p a0A ht.typeIs entry_tuple_getitem ?_ (args_tuple_getitem _ _)))
 show wpAny _ _ (Builtin.Tuple.tupleItemsOf (.ref t) >>= _) _ _ s
 refine d5 (tupleItemsOf_ ht ?_)
 refine d5 (wpAny_typeOf hTs ?_)
 rw[if_pos (by decide)]
 refine d5 (a6q hs pl pu ?_)
 have hno:¬((((sIx items.size 0 lo:Nat):Int) == 0&&(1:Int) == 1&&(sIx items.size items.size hi - sIx items.size 0 lo) == items.size)=true):=by
  intro q
  rw[a1x,a1x]at q
  have q1:((sIx items.size 0 lo:Nat):Int)=0:=eq_of_beq q.1.1
  have q2:sIx items.size items.size hi - sIx items.size 0 lo=items.size:=eq_of_beq q.2
  exact hw ⟨by omega,by omega⟩
 show wpAny _ _ (if(((sIx items.size 0 lo:Nat):Int) == 0&&(1:Int) == 1&&(sIx items.size items.size hi - sIx items.size 0 lo) == items.size)=true then _ else _) _ _ s
 rw[if_neg hno,b9F]
 first
  | exact d5 (m:=Builtin.Tuple.tupleExact _) (R9 (v6 ⟨_,rfl,v6 h⟩) htake)
  | exact d5 (m:=Builtin.Tuple.tupleExact _) (R9 (d5 (v6 (v6 ⟨_,rfl,v6 h⟩))) htake)
  | exact d5 (d5 (m:=Builtin.Tuple.tupleExact _) (R9 (v6 (v6 ⟨_,rfl,v6 h⟩)) htake))
  | exact d5 (d5 (m:=Builtin.Tuple.tupleExact _) (R9 (v6 ⟨_,rfl,v6 h⟩) htake))
end
end HT
namespace L2
open PySem PySem.Spec PyProof.Rows
variable{X:Cx}{n:Nat}{pins:List (Addr×Obj)}{σ:St}{H:Hp}{s:l4}{xs:List V}{us:List Value}
abbrev TO:=St->Hp->(Option Int->Hp->Prop)->Prop
def PO(X:Cx)(e:Option Expr)(t:TO):Prop:=
 ∀(pins:List (Addr×Obj)) (s:l4) (σ:St) (H:Hp) (Q:Option Int->Hp->Prop),Inv X pins σ H s->t σ H Q ->
  wpAny (model X.prog X.w) X.A (evalPart e X.env) (fun u s'=>∃o H',Inv X pins σ H' s'/\c3h u o/\Q o H') X.xe s
def a2Y:TO:=fun _ H Q=>Q none H
def a8l(t:TE):TO:=fun σ H Q=>t σ H fun x H1=>∃i,x=.int i/\Q (some i) H1
section
variable {e:Expr}{te:TE}{lo hi:Option Expr}{tl th:TO}{pos p2:Pos}
theorem c1N:PO X none a2Y:=by
 intro pins s σ H Q I h
 rw[evalPart_none]
 exact v6 ⟨none,H,I,.none,h⟩
theorem c1M(h:PE X e te):PO X (some e) (a8l te):=by
 intro pins s σ H Q I hw
 rw[evalPart_some]
 refine thn (h pins s σ H _ I hw) fun u s1 ⟨x,H1,I1,r1,q1⟩=>?_
 obtain⟨i,rfl,q⟩:=q1
 obtain⟨t,rfl⟩:=r1
 exact⟨some i,H1,I1,.int i t,q⟩
def SlR(X:Cx)(r:V->Option Int->Option Int->Hp->VK->Prop):Prop:=
 ∀(pins:List (Addr×Obj)) (s:l4) (σ:St) (H:Hp) (x:V) (v vl vu:Value) (lo hi:Option Int) (sl:Addr) (Q:VK),Inv X pins σ H s->F1 x v->s.heap.IsSliceOf sl vl vu .none->c3h vl lo->c3h vu hi->r x lo hi H Q ->
  ∃T id,c3f (.type T) "__getitem__" = pure (some (.builtin id))/\s.TypeIs v T/\wpAny (model X.prog X.w) X.A (b0z v (.ref sl)) (EP X pins σ Q) X.xe s
theorem SlR.or{r r':V->Option Int->Option Int->Hp->VK->Prop}(h:SlR X r)(h':SlR X r'):SlR X (fun x lo hi H Q=>r x lo hi H Q\/r' x lo hi H Q):=by
 intro pins s σ H x v vl vu lo hi sl Q I rx hs pl pu q
 rcases q with q | q
 ·exact h pins s σ H x v vl vu lo hi sl Q I rx hs pl pu q
 ·exact h' pins s σ H x v vl vu lo hi sl Q I rx hs pl pu q
def tSl(r:V->Option Int->Option Int->Hp->VK->Prop)(te:TE)(tl th:TO):TE:=fun σ H Q=>te σ H fun x H1=>tl σ H1 fun l H2=>th σ H2 fun u H3=>r x l u H3 Q
theorem b9I{r:V->Option Int->Option Int->Hp->VK->Prop}(hr:SlR X r)(he:PE X e te)(hl:PO X lo tl)(hu:PO X hi th):PE X (.Subscript e (.Slice lo hi none p2) pos) (tSl r te tl th):=by
 intro pins s σ H Q I h
 refine Subscript_ (thn (he pins s σ H _ I h) fun v s1 ⟨x,H1,I1,r1,q1⟩=>?_)
 refine wpAny_Slice (thn (hl pins s1 σ H1 _ I1 q1) fun vl s2 ⟨l,H2,I2,pl,q2⟩=>thn (hu pins s2 σ H2 _ I2 q2) fun vu s3 ⟨u,H3,I3,pu,q3⟩=>?_)
 rw[evalPart_none]
 refine v6 ?_
 have I4:Inv X pins σ H3 { s3 with heap:=s3.heap.push { cls:=.type "slice",data:=.fields #[vl,vu,.none] } }:=I3.kept (t':=s3.toks) fun b ob q=>g9 _ q
 obtain⟨T,id,hT,ht,hg⟩:=hr pins { s3 with heap:=s3.heap.push { cls:=.type "slice",data:=.fields #[vl,vu,.none] } } σ H3 x v vl vu l u s3.heap.objs.size Q I4 r1 (Heap.IsSliceOf.new ..) pl pu q3
 show wpAny (model X.prog X.w) X.A (c3I e (.Slice lo hi none p2) v (.ref s3.heap.objs.size)) (EP X pins σ Q) X.xe { s3 with heap:=s3.heap.push { cls:=.type "slice",data:=.fields #[vl,vu,.none] } }
 exact tail_any (ops:=[.ref s3.heap.objs.size,v]) ht hT hg (by with_unfolding_all rfl)
def a4m(xs:List V)(lo hi:Option Int):List V:=(xs.drop (HT.sIx xs.length 0 lo)).take (HT.sIx xs.length xs.length hi - HT.sIx xs.length 0 lo)
theorem a7n(xs:List V)(lo hi:Option Int):(a4m xs lo hi).length<=xs.length:=by
 unfold a4m
 rw[J4,a9s]
 omega
def c7G(K:Fg):V->Option Int->Option Int->Hp->VK->Prop:=fun x lo hi H Q=>∃a xs,x=.ref a/\SqT K H a xs /\
 ¬(HT.sIx xs.length 0 lo=0/\HT.sIx xs.length xs.length hi=xs.length)/\∀p,H p=none->Q (.ref p) (upd H p (.tup (a4m xs lo hi)))
theorem c3P:SlR X (c7G X.K):=by
 intro pins s σ H x v vl vu lo hi sl Q I rx hs pl pu h
 obtain⟨a,xs,rfl,hx,hw,q⟩:=h
 cases rx
 obtain⟨its,r,ht,hz⟩:=I.tuple hx
 have hlen:its.toArray.size=xs.length:=by rw[o9];exact r.length.symm
 refine⟨"tuple",_,a0A.lookup,ht.typeIs,?_⟩
 refine HT.a5U ht hs pl pu (by rw[hlen];exact hw) ?_ (by rw[hlen];exact hz)
 rw[hlen]
 refine⟨.ref s.heap.objs.size,_,I.laid (t':=s.toks) (o:=.tup (a4m xs lo hi)) (fun b ob q=>g9 _ q) (i9 _) ?_,rfl,q _ (I.hok.fresh (i9 _))⟩
 exact⟨I0 (a7n xs lo hi) hz,_,(r.drop (HT.sIx xs.length 0 lo)).take (HT.sIx xs.length xs.length hi - HT.sIx xs.length 0 lo),IsTup.new _ _⟩
end
def ixN(n:Nat)(i:Int):Option Nat:=if 0<=i then (if i<n then some i.toNat else none)else if -(n:Int)<=i then some (i+n).toNat else none
def atI{α:Type}(xs:List α)(i:Int):Option α:=(ixN xs.length i).bind fun j=>xs[j]?
theorem b5U{i:Int}{j:Nat}(h:ixN n i=some j):seqIndex? i n=some j/\j<n /\ -(n:Int)<=i/\i<n:=by
 unfold ixN at h
 by_cases h0:0<=i
 ·rw[if_pos h0]at h
  by_cases h1:i<n
  ·rw[if_pos h1]at h
   have e:i.toNat=j:=Option.some.inj h
   exact⟨by rw[c7y h0 h1,e],by omega,by omega,h1⟩
  ·rw[if_neg h1]at h;cases h
 ·rw[if_neg h0]at h
  by_cases h1 : -(n:Int)<=i
  ·rw[if_pos h1]at h
   have e:(i+n).toNat=j:=Option.some.inj h
   exact⟨by rw[c6m (by omega) h1,e],by omega,h1,by omega⟩
  ·rw[if_neg h1]at h;cases h
theorem b1X{α:Type}{xs:List α}{i:Int}{v:α}(h:atI xs i=some v):∃j,seqIndex? i xs.length=some j/\xs[j]? = some v/\j<xs.length /\ -(xs.length:Int)<=i/\i<xs.length:=by
 unfold atI at h
 cases e:ixN xs.length i with
 | none=>rw[e]at h;cases h
 | some j=>
  rw[e]at h
  obtain⟨h1,h2,h3,h4⟩:=b5U e
  exact⟨j,h1,h,h2,h3,h4⟩
theorem a0q{α:Type}{xs:List α}{j:Nat}{v:α}(h:xs[j]? = some v):atI xs (j:Int)=some v:=by
 have hj:j<xs.length:=(u7.mp h).1
 have e:ixN xs.length (j:Int)=some j:=by
  unfold ixN
  rw[if_pos (by omega),if_pos (by omega)];simp
 unfold atI;rw[e];exact h
def b2b(b:Expr):Prop:=∀o i,b8c b false o i=operate [o,i] (b0z o i)
def IxR(X:Cx)(r:R2):Prop:=
 ∀(value slice:Expr) (pins:List (Addr×Obj)) (s:l4) (σ:St) (H:Hp) (x y:V) (v u:Value) (Q:VK),Inv X pins σ H s->F1 x v->F1 y u->r x y H Q ->
  b8c slice false v u=operate [v,u] (b0z v u)->wpAny (model X.prog X.w) X.A (c3I value slice v u) (EP X pins σ Q) X.xe s
def MtR(X:Cx)(id:String)(r:V->List V->Hp->VK->Prop):Prop:=
 ∀(pins:List (Addr×Obj)) (s:l4) (σ:St) (H:Hp) (x:V) (xs:List V) (v:Value) (us:List Value) (Q:VK),Inv X pins σ H s->F1 x v->G6 xs us->r x xs H Q ->
  wpAny (model X.prog X.w) X.A (call (.builtin id) (v::us)) (EP X pins σ Q) X.xe s
section
variable {a b:Expr}{ta tb:TE}{pos:Pos}
theorem IxR.or{r r':R2}(h:IxR X r)(h':IxR X r'):IxR X (fun x y H Q=>r x y H Q\/r' x y H Q):=by
 intro value slice pins s σ H x y v u Q I rx ry q hs
 rcases q with q | q
 ·exact h value slice pins s σ H x y v u Q I rx ry q hs
 ·exact h' value slice pins s σ H x y v u Q I rx ry q hs
theorem c6X{r:R2}(hr:IxR X r)(ha:PE X a ta)(hb:PE X b tb)(hs:b2b b):PE X (.Subscript a b pos) (tOp r ta tb):=by
 intro pins s σ H Q I h
 exact Subscript_ (c5P ha hb I h fun v u s2 x y H2 I2 rx ry q=>hr a b pins s2 σ H2 x y v u Q I2 rx ry q (hs _ _))
def c6I(K:Fg):R2:=fun x y H Q=>∃p xs i v,x=.ref p/\y=.int i/\SqL K H p xs/\atI xs i=some v/\Q v H
def c6G(K:Fg):R2:=fun x y H Q=>∃p xs i v,x=.ref p/\y=.int i/\SqT K H p xs/\atI xs i=some v/\Q v H
def c6H:R2:=fun x y H Q=>∃z i c,x=.str z/\y=.int i/\z.length<=u8/\atI z.cps.toList i=some c/\Q (.str ⟨#[c]⟩) H
theorem c2H:IxR X (c6I X.K):=by
 intro value slice pins s σ H x y v u Q I rx ry h hs
 obtain⟨p,xs,i,z,rfl,rfl,hq,he,q⟩:=h
 cases rx
 obtain⟨t,rfl⟩:=ry
 obtain⟨its,r,pl,hz⟩:=I.list hq
 obtain⟨j,h1,h2,h3,h4,h5⟩:=b1X he
 obtain⟨w,ew,rw'⟩:=r.get h2
 have hl:=r.length
 have hn:=a5m
 have fin:EP X pins σ Q w s:=⟨z,H,I,rw',q⟩
 by_cases h0:0<=i
 ·have hj:i.toNat=j:=by
   rw[c7y h0 h5]at h1
   exact Option.some.inj h1
  exact item_listR pl.isList h0 (by omega) (by rw[hj];simpa using ew) fin hs
 ·have hj:(i+(its.toArray.size:Int)).toNat=j:=by
   rw[c6m (by omega) h4]at h1
   rw[o9,<-hl]
   exact Option.some.inj h1
  exact c6g (x:=w) pl.isList.typeIs slot_list_getitem.lookup
   (wpAny_getItem_list_neg (Q:=fun r s'=>r=w/\EP X pins σ Q r s') pl.isList (by omega) (by rw[o9] <;> omega) (by omega) (by rw[hj];simpa using ew) ⟨rfl,fin⟩) hs
theorem c5F:IxR X (c6G X.K):=by
 intro value slice pins s σ H x y v u Q I rx ry h hs
 obtain⟨p,xs,i,z,rfl,rfl,hq,he,q⟩:=h
 cases rx
 obtain⟨t,rfl⟩:=ry
 obtain⟨its,r,pl,hz⟩:=I.tuple hq
 obtain⟨j,h1,h2,h3,h4,h5⟩:=b1X he
 obtain⟨w,ew,rw'⟩:=r.get h2
 have hl:=r.length
 have hn:=a5m
 have fin:EP X pins σ Q w s:=⟨z,H,I,rw',q⟩
 exact c6g (x:=w) pl.typeIs slot_tuple_getitem.lookup
  (getItem_tuple (j:=j) (Q:=fun r s'=>r=w/\EP X pins σ Q r s') pl (by omega) (by omega) (by rw[o9,<-hl];exact h1) (by simpa using ew) ⟨rfl,fin⟩) hs
theorem c5G:IxR X c6H:=by
 intro value slice pins s σ H x y v u Q I rx ry h hs
 obtain⟨z,i,c,rfl,rfl,hz,he,q⟩:=h
 obtain⟨t,rfl⟩:=rx
 obtain⟨t',rfl⟩:=ry
 obtain⟨j,h1,h2,h3,h4,h5⟩:=b1X he
 have hl:z.cps.toList.length=z.length:=by simp[Str.length]
 rw[hl]at h1 h4 h5
 have hn:=a5m
 exact tail_any (typeIs_str s z t) slot_str_getitem.lookup (getItem_str (c:=c) (by
  have e1:decide (i < -(2 ^ 63:Int))=false:=c9r (by omega)
  have e2:decide (i ≥ 2 ^ 63)=false:=c9r (by omega)
  rw[e1,e2,Bool.or_false]) (by rw[h1];simpa using h2) ⟨.str ⟨#[c]⟩,H,I.tok _,⟨_,rfl⟩,q⟩) hs
def rIx(K:Fg):R2:=fun x y H Q=>c6I K x y H Q\/c6G K x y H Q\/c6H x y H Q
theorem c0t:IxR X (rIx X.K):=c2H.or (c5F.or c5G)
theorem b4L(its:List Value)(n j:Nat)(u:Value):Obj.mapSeq (·.setIfInBounds j u) { cls:=.type "list",data:=.seq its.toArray n }={ cls:=.type "list",data:=.seq (its.set j u).toArray n }:=by
 simp[Obj.mapSeq]
theorem Inv.lst{pins:List (Addr×Obj)}{σ:St}{H:Hp}{s:l4}{p:Addr}{xs:List V}(I:Inv X pins σ H s)(h:H p=some (.lst xs)) :
  ∃(its:List Value) (n:Nat),G6 xs its/\s.heap.get? p=some { cls:=.type "list",data:=.seq its.toArray n }/\xs.length<=u8:=by
 obtain⟨z,its,n,r,e⟩:=I.hok p _ h
 exact⟨its,n,r,e,z⟩
theorem Inv.lstUpd{p:Addr}{ys:List V}{its its':List Value}{n':Nat}{f:Obj->Obj}(I:Inv X pins σ H s)(h:H p=some (.lst xs))
  (ho:s.heap.get? p=some { cls:=.type "list",data:=.seq its.toArray n }) (hf:f { cls:=.type "list",data:=.seq its.toArray n }={ cls:=.type "list",data:=.seq its'.toArray n' }) (r:G6 ys its') (hz:ys.length<=u8) (t:Nat) :
  Inv X pins σ (upd H p (.lst ys)) { s with heap:=s.heap.update p f,toks:=t }:=by
 have e:(s.heap.update p f).get? p=some { cls:=.type "list",data:=.seq its'.toArray n' }:=by
  rw[a4W f ho (by rw[hf] <;> rfl),hf]
 refine I.write (x:=p) (e:=p) (by rw[h];trivial) (.inl rfl) (fun b u hb q=>(a4J _ _ (Ne.symm hb)).trans q) ⟨_,e⟩ ?_
 exact⟨hz,its',n',r,e⟩
def c6F:V->V->V->Hp->(Hp->Prop)->Prop:=fun o i v H Q=>∃p xs k j,o=.ref p/\i=.int k/\H p=some (.lst xs)/\ixN xs.length k=some j/\Q (upd H p (.lst (xs.set j v)))
theorem b8M:c0O X c6F:=by
 intro pins s σ H o i v ov iv u Q I ro ri rv h
 obtain⟨p,xs,k,j,rfl,rfl,hp,hj,q⟩:=h
 cases ro
 obtain⟨t,rfl⟩:=ri
 obtain⟨its,n,r,ho,hz⟩:=I.lst hp
 obtain⟨h1,h2,h3,h4⟩:=b5U hj
 have hl:=r.length
 have hn:=a5m
 have I':Inv X pins σ (upd H p (.lst (xs.set j v))) { s with heap:=s.heap.update p (Obj.mapSeq (·.setIfInBounds j u)) }:=
  I.lstUpd hp ho (b4L its n j u) (r.set rv j) (by rw[T3];exact hz) s.toks
 by_cases h0:0<=k
 ·have hk:k.toNat=j:=by
   rw[c7y h0 h4]at h1
   exact Option.some.inj h1
  exact PySem.W.ki_setAt ho h0 (by omega) (by rw[o9,<-hl];exact h4) (by rw[hk];exact⟨_,I',q⟩)
 ·have hk:(k+(its.toArray.size:Int)).toNat=j:=by
   rw[c6m (by omega) h3]at h1
   rw[o9,<-hl]
   exact Option.some.inj h1
  exact PySem.W.ki_setBack ho (by omega) (by rw[o9,<-hl];exact h3) (by omega) (by rw[hk];exact⟨_,I',q⟩)
theorem b0O(lo hi:Option Int)(n:Nat):(a3K lo hi none n).1=((HT.sIx n 0 lo:Nat):Int)/\(a3K lo hi none n).2.1=((HT.sIx n n hi:Nat):Int)/\(a3K lo hi none n).2.2=1:=by
 refine⟨?_,?_,rfl⟩
 ·cases lo with
  | none=>simp[a3K,HT.sIx]
  | some i=>
   simp only[a3K,HT.sIx,c0Y,show(1:Int) > 0 by decide,if_true]
   by_cases h:i<0
   ·simp only[h,if_true] <;> omega
   ·simp only[h,if_false] <;> omega
 ·cases hi with
  | none=>simp[a3K,HT.sIx]
  | some i=>
   simp only[a3K,HT.sIx,c0Y,show(1:Int) > 0 by decide,if_true]
   by_cases h:i<0
   ·simp only[h,if_true] <;> omega
   ·simp only[h,if_false] <;> omega
theorem a9v(its:List Value)(lo hi:Option Int):slicePick its.toArray lo hi none=((its.drop (HT.sIx its.length 0 lo)).take (HT.sIx its.length its.length hi - HT.sIx its.length 0 lo)).toArray:=by
 obtain⟨h1,h2,h3⟩:=b0O lo hi its.toArray.size
 unfold slicePick
 rw[h1,h2,h3]
 simp only[sliceRange_one,pick_run,o9] <;> rfl
def c4l(K:Fg):V->Option Int->Option Int->Hp->VK->Prop:=fun x lo hi H Q=>∃a xs,x=.ref a/\SqL K H a xs/\∀p,H p=none->Q (.ref p) (upd H p (.lst (a4m xs lo hi)))
theorem b5H:SlR X (c4l X.K):=by
 intro pins s σ H x v vl vu lo hi sl Q I rx hs pl pu h
 obtain⟨a,xs,rfl,hx,q⟩:=h
 cases rx
 obtain⟨its,r,ht,hz⟩:=I.list hx
 have hlen:=r.length
 refine⟨"list",_,slot_list_getitem.lookup,ht.isList.typeIs,?_⟩
 refine wpAny_getItem_list_slice ht.isList hs pl pu .none (by simp) ?_ (by rw[o9] <;> omega)
 rw[a9v,<-hlen]
 refine⟨.ref s.heap.objs.size,_,I.laid (t':=s.toks) (o:=.lst (a4m xs lo hi)) (fun b ob q=>g9 _ q) (i9 _) ?_,rfl,q _ (I.hok.fresh (i9 _))⟩
 exact⟨I0 (a7n xs lo hi) hz,_,0,(r.drop (HT.sIx xs.length 0 lo)).take (HT.sIx xs.length xs.length hi - HT.sIx xs.length 0 lo),C3 _ rfl⟩
def Q0:V->Bool
 | .non=>true
 | .bl _=>true
 | .int _=>true
 | .str _=>true
 | _=>false
def eqV:V->V->Bool
 | .non,.non=>true
 | .bl a,.bl b=>a == b
 | .bl a,.int b=>(if a then 1 else 0) == b
 | .int a,.bl b=>a == (if b then 1 else 0)
 | .int a,.int b=>a == b
 | .str a,.str b=>a == b
 | _,_=>false
theorem b1L{A:K7}{y x:V}{u v:Value}(ry:F1 y u)(rx:F1 x v)(fy:Q0 y=true)(fx:Q0 x=true):SeqAt.EqAt A s u v (eqV y x):=by
 cases y with
 | non=>
  cases ry
  cases x with
  | non=>cases rx;exact SeqAt.EqAt.same _
  | bl b=>cases rx;exact SeqAt.EqAt.none_bool b
  | int b=>obtain⟨t,rfl⟩:=rx;exact SeqAt.EqAt.none_int b t
  | str b=>obtain⟨t,rfl⟩:=rx;exact SeqAt.EqAt.none_str b t
  | _=>exact absurd (show false=true from fx) u9
 | bl a=>
  cases ry
  cases x with
  | non=>cases rx;exact SeqAt.EqAt.bool_none a
  | bl b=>cases rx;exact SeqAt.EqAt.bool_bool a b
  | int b=>obtain⟨t,rfl⟩:=rx;exact SeqAt.EqAt.bool_int a b t
  | str b=>obtain⟨t,rfl⟩:=rx;exact SeqAt.EqAt.bool_str a b t
  | _=>exact absurd (show false=true from fx) u9
 | int a=>
  obtain⟨t',rfl⟩:=ry
  cases x with
  | non=>cases rx;exact SeqAt.EqAt.int_none a t'
  | bl b=>cases rx;exact SeqAt.EqAt.int_bool a t' b
  | int b=>obtain⟨t,rfl⟩:=rx;exact SeqAt.EqAt.int_int a t' b t
  | str b=>obtain⟨t,rfl⟩:=rx;exact SeqAt.EqAt.int_str a t' b t
  | _=>exact absurd (show false=true from fx) u9
 | str a=>
  obtain⟨t',rfl⟩:=ry
  cases x with
  | non=>cases rx;exact SeqAt.EqAt.str_none a t'
  | bl b=>cases rx;exact SeqAt.EqAt.str_bool a t' b
  | int b=>obtain⟨t,rfl⟩:=rx;exact SeqAt.EqAt.str_int a t' b t
  | str b=>obtain⟨t,rfl⟩:=rx;exact SeqAt.EqAt.str_str a t' b t
  | _=>exact absurd (show false=true from fx) u9
 | _=>exact absurd (show false=true from fy) u9
def eqU(x:V)(u:Value):Bool:=match u with
 | .none=>eqV .non x
 | .bool b=>eqV (.bl b) x
 | .int i _=>eqV (.int i) x
 | .str z _=>eqV (.str z) x
 | _=>false
theorem c0A{x y:V}{u:Value}(r:F1 y u)(f:Q0 y=true):eqU x u=eqV y x:=by
 cases y with
 | non=>cases r;rfl
 | bl b=>cases r;rfl
 | int i=>obtain⟨t,rfl⟩:=r;rfl
 | str z=>obtain⟨t,rfl⟩:=r;rfl
 | _=>exact absurd (show false=true from f) u9
theorem a6b{x:V}:∀ {xs:List V} {us:List Value},G6 xs us->xs.all Q0=true->us.any (eqU x)=xs.any fun y=>eqV y x
 | _,_,.nil,_=>rfl
 | y::xs,u::us,.cons r t,f=>by
  rw[b3H,a1x]at f
  rw[Z6,Z6,c0A r f.1,a6b t f.2]
theorem a4h{A:K7}{x:V}{v:Value}(rx:F1 x v)(fx:Q0 x=true):∀ {xs:List V} {us:List Value},G6 xs us->xs.all Q0=true->∀u∈us,SeqAt.EqAt A s u v (eqU x u)
 | _,_,.nil,_=>fun u hu=>by cases hu
 | y::xs,u::us,.cons r t,f=>fun u' hu=>by
  rw[b3H,a1x]at f
  rcases p8.mp hu with rfl | hu
  ·rw[c0A r f.1];exact b1L r rx f.1 fx
  ·exact a4h rx fx t f.2 u' hu
def inV(x:V)(xs:List V):Bool:=xs.any fun y=>eqV y x
def rIn(K:Fg)(neg:Bool):R2:=fun x y H Q=>∃p xs,y=.ref p/\(SqL K H p xs\/SqT K H p xs)/\Q0 x=true/\xs.all Q0=true/\Q (.bl (if neg then !inV x xs else inV x xs)) H
theorem b0g:OpR X (A3 .In) (rIn X.K false):=by
 intro pins s σ H x y v u Q I rx ry h
 obtain⟨p,xs,rfl,hq,fx,fs,q⟩:=h
 cases ry
 rcases hq with hq | hq
 ·obtain⟨its,r,pl,hz⟩:=I.list hq
  refine SeqAt.in_listAt (eqU x) pl.isList (fun w hw=>a4h rx fx r fs w (by simpa using hw)) ⟨.bl _,H,I,rfl,?_⟩
  rw[show its.toArray.any (eqU x)=its.any (eqU x) by simp,a6b r fs]
  exact q
 ·obtain⟨its,r,pl,hz⟩:=I.tuple hq
  refine SeqAt.in_tupleAt (eqU x) pl (fun w hw=>a4h rx fx r fs w (by simpa using hw)) ⟨.bl _,H,I,rfl,?_⟩
  rw[show its.toArray.any (eqU x)=its.any (eqU x) by simp,a6b r fs]
  exact q
theorem b1y:OpR X (A3 .NotIn) (rIn X.K true):=by
 intro pins s σ H x y v u Q I rx ry h
 obtain⟨p,xs,rfl,hq,fx,fs,q⟩:=h
 cases ry
 rcases hq with hq | hq
 ·obtain⟨its,r,pl,hz⟩:=I.list hq
  refine SeqAt.notIn_listAt (eqU x) pl.isList (fun w hw=>a4h rx fx r fs w (by simpa using hw)) ⟨.bl _,H,I,rfl,?_⟩
  rw[show its.toArray.any (eqU x)=its.any (eqU x) by simp,a6b r fs]
  exact q
 ·obtain⟨its,r,pl,hz⟩:=I.tuple hq
  refine SeqAt.notIn_tupleAt (eqU x) pl (fun w hw=>a4h rx fx r fs w (by simpa using hw)) ⟨.bl _,H,I,rfl,?_⟩
  rw[show its.toArray.any (eqU x)=its.any (eqU x) by simp,a6b r fs]
  exact q
theorem b1x:OpR X (A3 .NotIn) (fun x y H Q=>∃i j,x=.str i/\y=.str j/\Q (.bl (!(!(Builtin.Str.occurrences j i 0 j.length 1).isEmpty))) H):=by
 intro pins s σ H x y v u Q I rx ry h
 obtain⟨i,j,rfl,rfl,q⟩:=h
 obtain⟨t,rfl⟩:=rx
 obtain⟨t',rfl⟩:=ry
 exact notIn_str ⟨.bl _,H,I,rfl,q⟩
theorem a5W:V6 X (.builtin "len") (fun xs H Q=>∃p ys,xs=[.ref p]/\(SqL X.K H p ys\/SqT X.K H p ys)/\Q (.int ys.length) H):=by
 intro pins s σ H xs us Q I r h
 obtain⟨p,ys,rfl,hq,q⟩:=h
 obtain⟨u,rfl,rx⟩:=a3U r
 cases rx
 have hn:=a5m
 rcases hq with hq | hq
 ·obtain⟨its,r',pl,hz⟩:=I.list hq
  have hlen:=r'.length
  exact Calls.call_len_list pl.isList (by simp only[o9] <;> omega) ⟨.int ys.length,H,I.tok _,⟨s.toks+1,by rw[o9,hlen]⟩,q⟩
 ·obtain⟨its,r',pl,hz⟩:=I.tuple hq
  have hlen:=r'.length
  exact len_tuple pl (by simp only[o9] <;> omega) ⟨.int ys.length,H,I.tok _,⟨s.toks+1,by rw[o9,hlen]⟩,q⟩
theorem b1T:V6 X (.builtin "len") (fun xs H Q=>∃z,xs=[.str z]/\z.length<=u8/\Q (.int z.length) H):=by
 intro pins s σ H xs us Q I r h
 obtain⟨z,rfl,hz,q⟩:=h
 obtain⟨u,rfl,t,rfl⟩:=a3U r
 have hn:=a5m
 exact len_str (by omega) ⟨.int z.length,H,I.tok _,⟨_,rfl⟩,q⟩
theorem V6.or{f:Value}{r r':List V->Hp->VK->Prop}(h:V6 X f r)(h':V6 X f r'):V6 X f (fun xs H Q=>r xs H Q\/r' xs H Q):=by
 intro pins s σ H xs us Q I rs q
 rcases q with q | q
 ·exact h pins s σ H xs us Q I rs q
 ·exact h' pins s σ H xs us Q I rs q
theorem b1S:V6 X (.type "list") (fun xs H Q=>∃p ys,xs=[.ref p]/\(SqL X.K H p ys\/SqT X.K H p ys)/\∀l,H l=none->Q (.ref l) (upd H l (.lst ys))):=by
 intro pins s σ H xs us Q I r h
 obtain⟨p,ys,rfl,hq,q⟩:=h
 obtain⟨u,rfl,rx⟩:=a3U r
 cases rx
 have fin:∀(its:List Value),G6 ys its->ys.length<=u8->∀(h':Heap) (c':Nat),(∀b o',s.heap.get? b=some o'->h'.get? b=some o') ->
   h'.get? s.heap.objs.size=some { cls:=.type "list",dict:=none,data:=.seq its.toArray c',slots := #[] }->EP X pins σ Q (.ref s.heap.objs.size) { s with heap:=h' }:=fun its r' hz h' c' kp e=>
  ⟨.ref s.heap.objs.size,_,I.laid (t':=s.toks) kp (i9 _) (show W4 X.prog X.w _ h' _ (.lst ys)from⟨hz,its,c',r',e⟩),rfl,q _ (I.hok.fresh (i9 _))⟩
 rcases hq with hq | hq
 ·obtain⟨its,r',pl,hz⟩:=I.list hq
  have hlen:=r'.length
  obtain⟨o,ho,hc,n,hd⟩:=pl.isList
  exact call_list_seq p (.inl rfl) ho hc hd (fun h' c' kp e=>fin its r' hz h' c' kp e) (by simp only[o9] <;> omega)
 ·obtain⟨its,r',pl,hz⟩:=I.tuple hq
  have hlen:=r'.length
  obtain⟨o,ho,hc,n,hd⟩:=pl
  exact call_list_seq p (.inr rfl) ho hc hd (fun h' c' kp e=>fin its r' hz h' c' kp e) (by simp only[o9] <;> omega)
def tyV(K:Fg)(T:String)(x:V)(H:Hp):Prop:=match x with
 | .str _=>T = "str"
 | .int _=>T = "int"
 | .ref p=>(T = "list" /\ ∃xs,SqL K H p xs)\/(T = "tuple" /\ ∃o,K.lookup p=some o/\o.cls=.type "tuple" /\ o.dict=none) \/
   (T = "dict" /\ ((∃kvs,H p=some (.dK kvs))\/∃kvs,H p=some (.dT kvs)))\/(T = "set" /\ ∃S n,H p=some (.set S n))
 | _=>False
theorem b8w{T:String}{x:V}{v:Value}(I:Inv X pins σ H s)(r:F1 x v)(ty:tyV X.K T x H) :
  s.TypeIs v T/\∀a,v=.ref a->∃ob,s.heap.get? a=some ob/\ob.dict=none:=by
 cases x with
 | str z=>
  obtain⟨t,rfl⟩:=r
  cases (show T = "str" from ty)
  exact⟨typeIs_str s z t,fun _ e=>nomatch e⟩
 | int i=>
  obtain⟨t,rfl⟩:=r
  cases (show T = "int" from ty)
  exact⟨typeIs_int s i t,fun _ e=>nomatch e⟩
 | ref p=>
  cases r
  rcases ty with ⟨rfl,xs,hq⟩ | ⟨rfl,o,hk,hc,hd⟩ | ⟨rfl,hk⟩ | ⟨rfl,S,n,hk⟩
  ·obtain⟨its,_,pl,_⟩:=I.list hq
   refine⟨pl.isList.typeIs,fun a e=>?_⟩
   cases e
   obtain⟨o,n,e,c,hd,_⟩:=pl
   exact⟨o,e,hd⟩
  ·refine⟨⟨o,I.kIn p o hk,hc⟩,fun a e=>?_⟩
   cases e
   exact⟨o,I.kIn _ o hk,hd⟩
  ·have z:∃o,s.heap.get? p=some o/\o.ExactDict:=by
    rcases hk with ⟨kvs,hk⟩ | ⟨kvs,hk⟩
    ·obtain⟨_,_,_,_,o,_,_,e,ex,_⟩:=I.hok p _ hk
     exact⟨o,e,ex⟩
    ·obtain⟨_,_,_,_,o,_,_,e,ex,_⟩:=I.hok p _ hk
     exact⟨o,e,ex⟩
   obtain⟨o,e,ex⟩:=z
   refine⟨⟨o,e,ex.1⟩,fun a e2=>?_⟩
   cases e2
   exact⟨o,e,ex.2.1⟩
  ·obtain⟨o,_,_,_,e,ex,_⟩:=I.hok p _ hk
   refine⟨⟨o,e,ex.1⟩,fun a e2=>?_⟩
   cases e2
   exact⟨o,e,ex.2.1⟩
 | _=>exact False.elim ty
def a9u(K:Fg)(T:String)(r:V->List V->Hp->VK->Prop)(to:TE):TE:=fun σ H Q=>to σ H fun x H1=>tyV K T x H1/\r x [] H1 Q
def tBM(K:Fg)(T:String)(r:V->List V->Hp->VK->Prop)(to:TE)(t:TA):TE:=fun σ H Q=>to σ H fun x H1=>tyV K T x H1/\t σ H1 fun xs H2=>r x xs H2 Q
variable {o e:Expr}{es:List Expr}{to:TE}{t:TA}{name:Str}{apos cpos:Pos}{T id:String}{r:V->List V->Hp->VK->Prop}
theorem c4V(pa:c3g T)(slot:Slot T name id)(hty:typeOf (.builtin id)=pure (.type "method_descriptor"))(hm:MtR X id r)(ho:PE X o to)
  (hbase:Y1 o name X.env (eval o X.env)=eval o X.env:=by rfl) (hline:(apos.endLine == cpos.line)=true:=by rfl):PE X (.Call (.Attribute o name apos) [] [] cpos) (a9u X.K T r to):=by
 intro pins s σ H Q I h
 refine wpAny_Call_method0_late hbase hline (thn (ho pins s σ H _ I h) fun v s1 ⟨x,H1,I1,r1,ty,q1⟩=>?_)
 obtain⟨h1,h2⟩:=b8w I1 r1 ty
 exact⟨T,id,pa,slot,hty,h1,h2,Calls.callWith_builtin rfl (PySem.evalArgs_none (hm pins s1 σ H1 x [] v [] Q I1 r1 .nil q1))⟩
theorem c6Y(pa:c3g T)(slot:Slot T name id)(hty:typeOf (.builtin id)=pure (.type "method_descriptor"))(hm:MtR X id r)(ho:PE X o to)(ha:PA X (e::es) t)
  (hbase:Y1 o name X.env (eval o X.env)=eval o X.env:=by rfl)
  (hfew:((Y0 cpos (i8 (e::es) X.env)).all (fun x => !x.1)&&(a9r cpos (a2w [] X.env)).all (fun x=>x.1.isSome)
   && decide ((e::es).length+([]:List a6k).length+(if([]:List a6k).isEmpty then 0 else 1)<30))=true:=by rfl)
  (hline:(apos.endLine == cpos.line)=true:=by rfl) (hs:i8 (e::es) X.env=(false,eval e X.env)::i8 es X.env:=by rfl) (hplain:(Y0 cpos (i8 es X.env)).any (·.1)=false:=by rfl) :
  PE X (.Call (.Attribute o name apos) (e::es) [] cpos) (tBM X.K T r to t):=by
 intro pins s σ H Q I h
 refine wpAny_Call_method_late hbase hfew hline rfl (thn (ho pins s σ H _ I h) fun v s1 ⟨x,H1,I1,r1,ty,q1⟩=>?_)
 obtain⟨h1,h2⟩:=b8w I1 r1 ty
 refine⟨T,id,pa,slot,hty,h1,h2,?_⟩
 have hA:=ha cpos pins s1 σ H1 _ I1 q1
 rw[hs]at hA ⊢
 refine Calls.callWith_builtin (by show(false||(Y0 cpos (i8 es X.env)).any (·.1))=false;rw[hplain] <;> rfl) (Calls.evalArgs_plain ?_)
 exact thn hA fun us s2 ⟨vs,H2,I2,r2,q2⟩=>hm pins s2 σ H2 x vs v us Q I2 r1 r2 q2
end
def MtM(X:Cx)(id:String)(r:V->List V->Hp->VK->Prop):Prop:=
 ∀(pins:List (Addr×Obj)) (s:l4) (σ:St) (H:Hp) (x:V) (xs:List V) (v:Value) (us:List Value) (Q:VK),Inv X pins σ H s->F1 x v->G6 xs us->r x xs H Q ->
  wpAny (model X.prog X.w) X.A (call (.builtin id) (v::us)) (EP X pins σ Q) X.xe s
theorem G6.one:∀ {x:V} {us:List Value},G6 [x] us->∃u,us=[u]/\F1 x u
 | _,_,.cons r .nil=>⟨_,rfl,r⟩
theorem G6.zero:∀ {us:List Value},G6 [] us->us=[]
 | _,.nil=>rfl
theorem G6.dropLast(h:G6 xs us):G6 xs.dropLast us.dropLast:=by
 induction h with
 | nil=>exact .nil
 | cons r t ih=>
  cases t with
  | nil=>exact .nil
  | cons q t'=>exact .cons r ih
theorem G6.reverse(h:G6 xs us):G6 xs.reverse us.reverse:=by
 induction h with
 | nil=>exact .nil
 | cons r t ih=>rw[c3c,c3c];exact G6.append ih (.cons r .nil)
theorem G6.rep(h:G6 xs us):∀k:Nat,G6 (u5 k xs).flatten (u5 k us).flatten
 | 0=>.nil
 | k+1=>by
  rw[T8,T8,a1f,a1f]
  exact G6.append h (G6.rep h k)
theorem b4Z{α:Type}(l:List α):l.eraseIdx (l.length - 1)=l.dropLast:=by
 induction l with
 | nil=>rfl
 | cons a r ih=>
  cases r with
  | nil=>rfl
  | cons b r=>
   have e:(a::b::r).length - 1=((b::r).length - 1)+1:=by
    have h1:(a::b::r).length=r.length+2:=rfl
    have h2:(b::r).length=r.length+1:=rfl
    omega
   rw[e,List.eraseIdx_cons_succ,ih]
   all_goals rfl
theorem b0l(its:List Value):∀(k:Nat) (acc:List Value),
  c1a (fun x1 x2=>x1++x2) acc.toArray (u5 k its.toArray)=(acc++(u5 k its).flatten).toArray
 | 0,acc=>by simp
 | k+1,acc=>by
  have e:acc.toArray++its.toArray=(acc++its).toArray:=by simp
  have e2:(acc++its)++(u5 k its).flatten=acc++(u5 (k+1) its).flatten:=by
   rw[T8,a1f,List.append_assoc]
  rw[<-e2,<-b0l its k (acc++its),<-e,T8,List.foldl_cons]
section
variable {l b:Addr}{ys zs:List V}
theorem Inv.lset{its its':List Value}{f:Array Value->Array Value}{t':Nat}(I:Inv X pins σ H s)(hH:H l=some (.lst xs))
  (e:s.heap.get? l=some { cls:=.type "list",data:=.seq its.toArray n }) (hf:f its.toArray=its'.toArray) (hv:G6 ys its') (hz:ys.length<=u8) :
  Inv X pins σ (upd H l (.lst ys)) { s with heap:=s.heap.update l (Obj.mapSeq f),toks:=t' }:=by
 have q:=PySem.IsL.update e f
 rw[hf]at q
 refine I.write (x:=l) (e:=l) (by rw[hH];exact trivial) (.inl rfl) (fun b' u hb hu=>(a4J s.heap (Obj.mapSeq f) (Ne.symm hb)).trans hu) ⟨_,q⟩ ?_
 exact⟨hz,its',_,hv,q⟩
theorem Inv.lnew{its:List Value}{t':Nat}(I:Inv X pins σ H s)(hv:G6 ys its)(hz:ys.length<=u8) :
  Inv X pins σ (upd H s.heap.objs.size (.lst ys)) { s with heap:=s.heap.push { cls:=.type "list",data:=.seq its.toArray },toks:=t' }:=
 I.laid (fun _ _ q=>g9 _ q) (i9 _) ⟨hz,its,0,hv,C3 _ rfl⟩
theorem Inv.fresh(I:Inv X pins σ H s):H s.heap.objs.size=none:=I.hok.fresh (i9 _)
theorem Inv.lstM(I:Inv X pins σ H s)(hH:H l=some (.lst xs)):xs.length<=u8/\∃(its:List Value) (n:Nat),G6 xs its/\xs.length=its.length/\s.heap.get? l=some { cls:=.type "list",data:=.seq its.toArray n }:=by
 obtain⟨z,its,n,r,e⟩:=I.hok l _ hH
 exact⟨z,its,n,r,r.length,e⟩
theorem b2Z(h:n<=u8):Builtin.List.listTooLong n=false:=by
 unfold Builtin.List.listTooLong
 exact c9r (by omega)
end
section
def c1y:V->List V->Hp->VK->Prop:=fun x vs H Q=>∃l xs y,x=.ref l/\vs=[y]/\H l=some (.lst xs)/\xs.length<u8/\Q .non (upd H l (.lst (xs++[y])))
theorem a6G:MtM X "list.append" c1y:=by
 intro pins s σ H x vs v us Q I rx rv h
 obtain⟨l,xs,y,rfl,rfl,hH,hz,q⟩:=h
 cases rx
 obtain⟨u,rfl,ru⟩:=rv.one
 obtain⟨z,its,n,r,hl,e⟩:=I.lstM hH
 refine a5u F.slot_list_append ⟨_,e,rfl⟩ F.entry_list_append (F.args_list_append_2 _ _) (PySem.list_append l its.toArray n u (by rw[o9];omega)) ⟨e,?_⟩
 refine⟨.non,_,I.lset (its':=its++[u]) hH e (by simp) (r.append (.cons ru .nil)) ?_,rfl,q⟩
 rw[t5,C9]
 omega
def c1x:V->List V->Hp->VK->Prop:=fun x vs H Q=>∃l b xs zs,x=.ref l/\vs=[.ref b]/\H l=some (.lst xs)/\H b=some (.lst zs)/\xs.length+zs.length<=u8/\Q .non (upd H l (.lst (xs++zs)))
theorem b7g:MtM X "list.extend" c1x:=by
 intro pins s σ H x vs v us Q I rx rv h
 obtain⟨l,b,xs,zs,rfl,rfl,hH,hB,hz,q⟩:=h
 cases rx
 obtain⟨u,rfl,ru⟩:=rv.one
 cases ru
 obtain⟨z,its,n,r,hl,e⟩:=I.lstM hH
 obtain⟨z2,its2,n2,r2,hl2,e2⟩:=I.lstM hB
 have hsz:its.toArray.size+its2.toArray.size<=u8:=by rw[o9,o9];omega
 have hlong:¬(!its.toArray.isEmpty&&Builtin.List.listTooLong (its.toArray.size+its2.toArray.size))=true:=by
  rw[b2Z hsz,Bool.and_false]
  exact u9
 refine a5u F.slot_list_extend ⟨_,e,rfl⟩ F.entry_list_extend (F.args_list_extend_2 _ _)
  (AutoSeq1.list_extend_list_list_0 l its.toArray n b its2.toArray n2 hlong (by rw[o9];omega) (by omega)) ⟨e,e2,?_⟩
 refine⟨.non,_,I.lset (its':=its++its2) hH e (by simp) (r.append r2) ?_,rfl,q⟩
 rw[t5]
 omega
def c7H:V->List V->Hp->VK->Prop:=fun x vs H Q=>∃l xs y,x=.ref l/\vs=[]/\H l=some (.lst xs)/\xs[xs.length - 1]? = some y/\Q y (upd H l (.lst xs.dropLast))
theorem c5t:MtM X "list.pop" c7H:=by
 intro pins s σ H x vs v us Q I rx rv h
 obtain⟨l,xs,y,rfl,rfl,hH,hy,q⟩:=h
 cases rx
 have hus:=rv.zero
 subst hus
 obtain⟨z,its,n,r,hl,e⟩:=I.lstM hH
 obtain⟨u,hu,ru⟩:=r.get hy
 have hy':its.toArray[its.toArray.size - 1]? = some u:=by
  show its.toArray[its.length - 1]? = some u
  rw[<-V0,<-hl]
  exact hu
 refine a5u F.slot_list_pop ⟨_,e,rfl⟩ F.entry_list_pop (F.args_list_pop_1 _) (MeetsSeq.list_pop_last l its.toArray n u hy' (by rw[o9];omega)) ⟨e,?_⟩
 refine⟨y,_,I.lset (its':=its.dropLast) hH e ?_ r.dropLast ?_,ru,q⟩
 ·show its.toArray.eraseIdxIfInBounds (its.toArray.size - 1)=its.dropLast.toArray
  rw[o9,List.eraseIdxIfInBounds_toArray,b4Z]
 ·rw[List.length_dropLast]
  omega
def c4n:V->List V->Hp->VK->Prop:=fun x vs H Q=>∃l xs,x=.ref l/\vs=[]/\H l=some (.lst xs)/\Q .non (upd H l (.lst []))
theorem c0k:MtM X "list.clear" c4n:=by
 intro pins s σ H x vs v us Q I rx rv h
 obtain⟨l,xs,rfl,rfl,hH,q⟩:=h
 cases rx
 have hus:=rv.zero
 subst hus
 obtain⟨z,its,n,r,hl,e⟩:=I.lstM hH
 refine a5u F.slot_list_clear ⟨_,e,rfl⟩ F.entry_list_clear (F.args_list_clear_1 _) (AutoSeq1.list_clear_list_0 l its.toArray n (by rw[o9];omega)) ⟨e,?_⟩
 exact⟨.non,_,I.lset (its':=[]) (ys:=[]) hH e rfl .nil (K0 _),rfl,q⟩
def c7I:R2:=fun x y H Q=>∃l b xs zs,x=.ref l/\y=.ref b/\H l=some (.lst xs)/\H b=some (.lst zs)/\xs.length+zs.length<=u8/\∀p,H p=none->Q (.ref p) (upd H p (.lst (xs++zs)))
theorem c5k:OpR X (X0 .Add) c7I:=by
 intro pins s σ H x y v u Q I rx ry h
 obtain⟨l,b,xs,zs,rfl,rfl,hH,hB,hz,q⟩:=h
 cases rx
 cases ry
 obtain⟨z,its,n,r,hl,e⟩:=I.lstM hH
 obtain⟨z2,its2,n2,r2,hl2,e2⟩:=I.lstM hB
 refine PySem.P.add_list e e2 ?_ (by rw[o9,o9];omega)
 have ea:its.toArray++its2.toArray=(its++its2).toArray:=by simp
 rw[ea]
 exact⟨.ref _,_,I.lnew (t':=s.toks) (r.append r2) (by rw[t5];omega),rfl,q _ I.fresh⟩
def c4m:R2:=fun x y H Q=>∃l k xs,x=.ref l/\y=.int k/\H l=some (.lst xs) /\ -(2 ^ 63)<=k/\k<2 ^ 63/\xs.length * k.toNat<=u8 /\
 ∀p,H p=none->Q (.ref p) (upd H p (.lst (u5 k.toNat xs).flatten))
theorem c2w{α:Type}(xs:List α)(k:Nat):(u5 k xs).flatten.length=k * xs.length:=by
 induction k with
 | zero=>simp
 | succ k ih=>rw[T8,a1f,t5,ih,b7O,Nat.add_comm]
theorem c5a:OpR X (X0 .Mult) c4m:=by
 intro pins s σ H x y v u Q I rx ry h
 obtain⟨l,k,xs,rfl,rfl,hH,h1,h2,hz,q⟩:=h
 cases rx
 obtain⟨t,rfl⟩:=ry
 obtain⟨z,its,n,r,hl,e⟩:=I.lstM hH
 have hlen:its.toArray.size * k.toNat<=u8:=by rw[o9,<-hl];exact hz
 have hcap:¬its.toArray.size * k.toNat > (2 ^ 63 - 1) / 8:=by
  have:(u8:Nat)<=(2 ^ 63 - 1) / 8:=by decide
  omega
 have hfit:¬(!Builtin.List.listFitsIndex k)=true:=by
  rw[fitsIndex_both h1 h2]
  exact u9
 have hlong:¬Builtin.List.listTooLong (its.toArray.size * k.toNat)=true:=by
  rw[b2Z hlen]
  exact u9
 have hnew:c1a (fun x1 x2=>x1++x2) #[] (u5 (if its.toArray.isEmpty=true then 0 else k.toNat) its.toArray)=(u5 k.toNat its).flatten.toArray:=by
  have f0:∀m:Nat,c1a (fun x1 x2=>x1++x2) #[] (u5 m its.toArray)=(u5 m its).flatten.toArray:=fun m=>by
   have:=b0l its m []
   rw[List.nil_append]at this
   exact this
  rw[f0]
  cases its with
  | nil=>simp
  | cons a r'=>rw[if_neg (by simp)]
 refine wpAny_binaryOp_repeat_ref (T := "list") (U := "int") (by decide) ⟨_,e,rfl⟩ (fun s'=>typeIs_int s' k t) noFill_list_mul F.fills_int_mul F.slot_int_rmul repeat_list F.slot_int_index.lookup
  (a5u F.slot_int_rmul (typeIs_int s k t) F.entry_int_rmul (F.args_int_rmul_2 _ _) (int___rmul___int_list k t l its.toArray n)
   ⟨e,rfl,⟨_,e,rfl⟩,a5u F.slot_list_mul ⟨_,e,rfl⟩ F.entry_list_mul (F.args_list_mul_2 _ _) (AutoListH.list___mul___list_int_3 l its.toArray n k t hfit hcap hlong) ⟨e,?_⟩⟩)
 rw[hnew]
 exact⟨.ref _,_,I.lnew (t':=s.toks) (r.rep k.toNat) (by rw[c2w,Nat.mul_comm];exact hz),rfl,q _ I.fresh⟩
end
section
variable {prog:D6}{w:World}{A:K7}{E:Value->l4->Prop}
set_option maxRecDepth 100000 in
end
section
end
end L2
namespace Att
open PySem PySem.W PySem.Calls PyProof.Rows
theorem a7u{P:Params}{h:Heap}:∀(ns:List Int) (vs:List Value),WellAll P h vs (ns.map WData.int)->c3L vs ns:=by
 intro ns
 induction ns with
 | nil=>
  intro vs w
  rw[b6k]at w
  cases w
  exact .nil
 | cons n ns ih=>
  intro vs w
  rw[F8]at w
  cases w with
  | cons a b=>
   cases a
   exact .cons _ _ (ih _ b)
theorem b6E{l:OpenLaw}{n:Nat}(hn:l.most=some n){P:Params}{h:Heap}{args:List WData}{vals:List Value}
  (hpre:l.row.toRowW.claim.pre args=true) (hwl:WellAll P h vals args) :
  ∃a vs ns,vals=[Value.ref a]/\args=[WData.list (ns.map WData.int)]/\h.get? a=some { cls:=.type "list",data:=.seq vs.toArray }/\c3L vs ns/\ns.length<=n:=by
 have hsh:WShape.hasAll [] args [.list .int]=true:=(pre_splitW hpre).1
 have hc:l.pre.holds [] { args:=args }=true:=(pre_splitW hpre).2
 obtain⟨d,r,rfl,h1,h2⟩:=hasAllW_cons hsh
 obtain rfl:=hasAllW_nil h2
 obtain⟨xs,rfl,h3⟩:=hasW_list h1
 obtain⟨ns,rfl⟩:=items_int h3
 have hlen:ns.length<=n:=by
  unfold OpenLaw.pre at hc
  have h4:(WTm.not (.lt (.lit (.int (n:Int))) (.len (.arg 0)))).holds [] { args:=[.list (ns.map .int)] }=true:=by
   have h4:=(holds_andW hc).1
   rw[hn]at h4
   exact h4
  have h5:=condW_of h4 (w_not (w_lt w_lit (w_len_list (w_arg rfl))))
  rw[c7]at h5
  refine Nat.le_of_not_lt fun q=>?_
  have q':(n:Int)<((ns.length:Nat):Int):=by omega
  first
   | (rw[c9s q']at h5;exact absurd h5 (by decide))
   | (simp at h5;omega)
 cases hwl with
 | cons w1 w2=>
  cases w2
  cases w1 with
  | list ho hall=>exact⟨_,_,ns,rfl,rfl,ho,a7u ns _ hall,hlen⟩
theorem b6O(l:OpenLaw)(args:List WData):l.row.toRowW.claim.post args (.bool true) args=true:=
 postW_of (r:=l.row.toRowW) (X:=(true == true))
  (show WShape.has [] (.bool true) .bool=true by first | rfl | decide | simp[WShape.has,WShape.arms,WShape.armsAll])
  (show(WTm.eq .res (.lit (.bool true))).value [] { args:=args,res:=some (.bool true),after:=args }=some (.bool (true == true))from w_eq_bool (w_res rfl) w_lit) rfl
theorem b3x{l:OpenLaw}{n:Nat}{q:D6}{loose:List Str}{XP:(Str->Option Value)->Heap->Prop}{YP:World->Heap->Prop}{d:DefRec}
  (hn:l.most=some n) (hdf:d.params.defaults=[])
  (call:∀(w:World) (s₀ s₁:l4) (mg mb:Str->Option Value) (fa:Addr) (o:Obj) (pm cd doc:Value) (a:Addr) (vs:List Value) (ns:List Int),
   Ground q loose [] XP w s₀ mg mb s₁.heap->YP w s₁.heap ->
   s₁.heap.get? fa=some o->o.data=.func (docDef d.name d.params d.body d.scope pm cd doc)->s₁.heap.CodeRec cd d.name->mg d.name=some (.ref fa) ->
   s₁.heap.get? a=some { cls:=.type "list",data:=.seq vs.toArray }->c3L vs ns->ns.length<=n->s₁.gens = #[] ->
   a2T (model l.prog w) b8f (.call (.ref fa) ⟨[.ref a],[]⟩) (fun r s'=>r=.ok (.ret (.bool true))/\OldK s₁.heap s'.heap/\s'.os=s₁.os/\b0A s'.gens) s₁) :
  WalkO q loose XP YP l.row.toRowW d [] (fun f vs=>b2c f vs):=by
 intro w s₀ s₁ mg mb G Y fa o pm cd doc dV kV ho hd hcd hD hmg hg args vals as hpre hlay hrd hwl hlo
 obtain rfl:dV=.none:=Dflts.none hD hdf
 obtain rfl:kV=.none:=Dflts.noKw hD
 obtain⟨a,vs,ns,rfl,rfl,hobj,hints,hlen⟩:=b6E hn hpre hwl
 refine enter_call (b5q (call w s₀ s₁ mg mb fa o pm cd doc a vs ns G Y ho (fd_plain hd) hcd hmg hobj hints hlen hg) fun r s' hq=>?_)
 obtain⟨rfl,h2,h3,h4⟩:=hq
 exact⟨.inl ⟨.bool true,.bool true,[],rfl,fun _=>rfl,.bool true,b6O l _,fun _=>⟨List.Pairwise.nil,fun _ hm=>(nomatch hm)⟩⟩,h2,h3,h4⟩
section
variable {prog:D6}{w:World}{A:K7}{E:Value->l4->Prop}{s:l4}{K:Frag}
end
end Att
namespace L2
open PySem PySem.Spec PyProof.Rows
theorem a6m:∀ {vs:List Value} {ns:List Int},c3L vs ns->G6 (ns.map V.int) vs
 | _,_,.nil=>.nil
 | _,_,.cons n t h=>.cons ⟨t,rfl⟩ (a6m h)
def c2Y(H:Hp):Prop:=∀b,H b=none\/∃o xs,H b=some (.frz o (.lst xs))
theorem c0o{P:D6}{w:World}{K:Fg}{mg mb:Str->Option Value}{CX:CXT}{k:Nat}{fa a:Addr}{fd:Y9}{x:Str}{sp:Sp}{s₁:l4}{vs:List Value}{ns:List Int}
  (KX:K.In s₁.heap) (hns:s₁.heap.Ns A4 mg) (hb:s₁.heap.Ns builtinsNs mb) (hbb:∀x:Str,x ≠ "__name__" -> mb x=U0 x) (hlim:s₁.heap.NoLimit) (hg:s₁.gens = #[])
  (ha:s₁.heap.get? a=some { cls:=.type "list",data:=.seq vs.toArray }) (hi:c3L vs ns) (hl:ns.length<=u8) (hr:Q6 k b8f)
  (F:∀base:Heap,K.In base->base.Ns A4 mg->L9 P w K mg base CX k fa fd [x] sp) (hbind:∀(s:l4) (u:Value),b8g s fd ⟨[u],[]⟩ [(x,u)])
  (hsp:∀H:Hp,c2Y H->SqL K H a (ns.map V.int)->sp [.ref a] H (fun v _=>v=.bl true) fun _ _ _=>False)
  (hCX:∀H e s',CX [] H s₁ (fun _ _ _=>False) e s'->False) :
  a2T (model P w) b8f (.call (.ref fa) ⟨[.ref a],[]⟩) (fun r s'=>r=.ok (.ret (.bool true))/\OldK s₁.heap s'.heap/\s'.os=s₁.os/\b0A s'.gens) s₁:=by
 have rv:=a6m hi
 have lenV:=hi.length
 have core:∀H:Hp,c2Y H->SqL K H a (ns.map V.int)->HOk P w H s₁.heap->(∀b,H b≠none->b=a)->(H a≠none->K.lookup a=none) ->
   a2T (model P w) b8f (.call (.ref fa) ⟨[.ref a],[]⟩) (fun r s'=>r=.ok (.ret (.bool true))/\OldK s₁.heap s'.heap/\s'.os=s₁.os/\b0A s'.gens) s₁:=by
  intro H hO hS hok hA hK
  have base_of:∀ {b:Addr} {o:Obj},s₁.heap.get? b=some o->H b=none->(b1J s₁.heap H).get? b=some o:=fun e n=>c0x e n
  have noA:∀ {b:Addr} {o:Obj} {es:Array a2H} {ep:Nat},s₁.heap.get? b=some o->o.data=.dict es ep->H b=none:=fun {b o es ep} e d=>by
   cases q:H b with
   | none=>rfl
   | some u=>
    have e':b=a:=hA b (by rw[q];simp)
    subst e'
    rw[ha]at e;cases e
    have d':Data.seq vs.toArray _=Data.dict es ep:=d
    cases d'
  have nsK:∀ {b:Addr} {m:Str->Option Value},s₁.heap.Ns b m->(b1J s₁.heap H).Ns b m:=fun {b m} ⟨o,es,ep,e,d,r⟩=>⟨o,es,ep,base_of e (noA e d),d,r⟩
  have hKb:K.In (b1J s₁.heap H):=fun b o e=>base_of (KX b o e) (by
   cases q:H b with
   | none=>rfl
   | some u=>
    have e':b=a:=hA b (by rw[q];simp)
    subst e'
    rw[hK (by rw[q];simp)]at e;cases e)
  have hM:Mod K mg (b1J s₁.heap H):=⟨hKb,nsK hns,⟨mb,nsK hb,hbb⟩,let⟨mc,h1,h2⟩:=hlim; ⟨mc,nsK h1,h2⟩⟩
  have e0:b5l P w K mg (b1J s₁.heap H) b8f [] s₁ H:=⟨rfl,hM,fun b o e=>c2s e,Nat.le_of_eq (b7s _ _),trivial,fun b hb=>absurd (show b∈([]:List Addr)from hb) (by simp),hok,.of_eq hg⟩
  refine b5q ((F _ hKb (nsK hns)).run b8f [] s₁ H ⟨[.ref a],[]⟩ [.ref a] [.ref a] _ _ hr e0 (hbind s₁ (.ref a)) (.cons rfl .nil) (hsp H hO hS)) fun r s' h=>?_
  cases r with
  | error e=>exact(hCX H e s' h).elim
  | ok fl=>
   cases fl with
   | next=>exact False.elim h
   | brk=>exact False.elim h
   | cont=>exact False.elim h
   | ret u=>
    obtain⟨v,H',os,bare,un,hok',r',q⟩:=h
    have q':v=.bl true:=q
    subst q'
    obtain rfl:u=Value.bool true:=r'
    refine⟨rfl,OldK.of_keep fun b o e=>?_,os,bare⟩
    cases q:H b with
    | none=>exact un.keep b o e q (by intro z;exact absurd (show b∈([]:List Addr)from z) (by simp)) (by simp)
    | some u=>
     rcases hO b with z | ⟨ob,xs,z⟩
     ·rw[q]at z;cases z
     ·have z2:=un.frzs b ob _ z
      obtain⟨e1,_⟩:=hok b _ z
      obtain⟨e2,_⟩:=hok' b _ z2
      rw[e]at e1;cases e1
      exact e2
 cases hk:K.lookup a with
 | some o=>
  have e:=KX a o hk
  rw[ha]at e
  cases e
  refine core (fun _=>none) (fun _=>.inl rfl) (.inr ⟨_,vs.toArray,_,hk,rfl,rfl,rfl,by rw[o9,lenV];exact hl,by simpa using rv⟩) (fun b u z=>by have z':(none:Option HO)=some u:=z;cases z') (fun b z=>absurd rfl z) fun z=>absurd rfl z
 | none=>
  refine core (fun b=>if b=a then some (.frz { cls:=.type "list",data:=.seq vs.toArray } (.lst (ns.map V.int)))else none) (fun b=>?_) (.inl (.inr ⟨{ cls:=.type "list",data:=.seq vs.toArray },if_pos rfl⟩)) (fun b u z=>?_) (fun b z=>?_) fun _=>hk
  ·by_cases hb:b=a
   ·exact .inr ⟨_,_,if_pos hb⟩
   ·exact .inl (if_neg hb)
  ·by_cases hb:b=a
   ·have z':=(if_pos hb).symm.trans z
    cases z'
    subst hb
    exact⟨ha,by rw[c7];exact hl,vs,_,rv,ha⟩
   ·have z':=(if_neg hb).symm.trans z
    cases z'
  ·by_cases hb:b=a
   ·exact hb
   ·exact absurd (if_neg hb) z
theorem c1g{l:PySem.W.OpenLaw}{n k:Nat}{q:D6}{loose:List Str}{XP:(Str->Option Value)->Heap->Prop}{YP:World->Heap->Prop}{d:DefRec}{K:Params->Fg}{CX:World->CXT}{sp:World->Sp}{x:Str}
  (hn:l.most=some n) (hn2:n<=u8) (hdf:d.params.defaults=[]) (hr:Q6 k b8f)
  (hY:∀(w:World) (h:Heap),YP w h->(K w.params).In h)
  (F:∀(w:World) (mg:Str->Option Value) (fa:Addr) (h:Heap),(K w.params).In h->h.Ns A4 mg->mg d.name=some (.ref fa) ->
   ∃fd:Y9,(∀(s:l4) (u:Value),b8g s fd ⟨[u],[]⟩ [(x,u)]) /\
    ∀base:Heap,(K w.params).In base->base.Ns A4 mg->L9 l.prog w (K w.params) mg base (CX w) k fa fd [x] (sp w))
  (hsp:∀(w:World) (H:Hp) (a:Addr) (ns:List Int),ns.length<=n->c2Y H->SqL (K w.params) H a (ns.map V.int)->sp w [.ref a] H (fun v _=>v=.bl true) fun _ _ _=>False)
  (hCX:∀(w:World) (H:Hp) (s:l4) (e:Value) (s':l4),CX w [] H s (fun _ _ _=>False) e s'->False) :
  PySem.W.WalkO q loose XP YP l.row.toRowW d [] (fun f vs=>b2c f vs):=by
 refine Att.b3x hn hdf fun w s₀ s₁ mg mb fa o pm cd doc a vs ns G Y ho hd hcd hmg hobj hints hlen hg=>?_
 have KX:=hY w _ Y
 obtain⟨fd,hb,hF⟩:=F w mg fa _ KX G.T.g hmg
 exact c0o KX G.T.g G.T.b G.T.builtins G.T.nolimit hg hobj hints (I0 hlen hn2) hr hF hb (fun H hO hS=>hsp w H a ns hlen hO hS) fun H e s'=>hCX w H s₁ e s'
abbrev CX0:CXT:=fun _ _ _ _ _ _=>False
abbrev E0:XK:=fun _ _ _=>False
theorem b9Q{X:Cx}:a6R CX0 X E0:=fun _ _ _ _ _ _ _ h=>h.elim
structure Fun(K:Fg)(x qual:Str)(st:Stmt)(f:Addr)(fd:Y9):Prop where
 ex:∃(oc:Value) (od:Option Addr) (kV doc pm:Value) (an:Option Addr) (cdv ct:Value) (osl:Array (Option Value)),
  fd=a0d x qual (a2q st) (a0H st) (o5 st) .none kV doc pm an cdv ct/\K.lookup f=some ⟨oc,od,.func fd,osl⟩/\a4M K cdv qual=true
 kp:U3 K (.ref f)=true
section
variable {P:D6}{w:World}{K:Fg}{mg:Str->Option Value}{base:Heap}
theorem Fun.ok{x qual:Str}{st:Stmt}{f:Addr}{fd:Y9}{N ps:List Str}{k:Nat}{sp:Sp}(F:Fun K x qual st f fd)(S:C5 N ps (o5 st))(len:∀vs H Q E,sp vs H Q E->vs.length=ps.length)
  (hbody:∀(cdv:Value) (A:K7) (outer:List Env) (s:l4) (H:Hp) (vs:List V) (Q:VK) (E:XK),Q6 k (A.deeper (b2o qual (o5 st) s.heap.objs.size f cdv))->sp vs H Q E ->
   ∃t,PSs (b3m CX0 P w K mg base N qual (o5 st) f cdv A outer s H E).nox (a0H st) t/\t { nx:=fun _ H'=>Q .non H',rt:=Q } (a5F N vs) H):L9 P w K mg base CX0 (k+1) f fd ps sp:=by
 obtain⟨oc,od,kV,doc,pm,an,cdv,ct,osl,rfl,lk,hcd⟩:=F.ex
 refine c7l lk hcd S len fun A outer s H vs Q E hr hsp=>?_
 obtain⟨t,h,q⟩:=hbody cdv A outer s H vs Q E hr hsp
 exact⟨t,h.nox,q⟩
theorem Fun.binds{x qual:Str}{st:Stmt}{f:Addr}{fd:Y9}{ps:List Str}(F:Fun K x qual st f fd)
  (h:∀(kV doc pm:Value) (an:Option Addr) (cdv ct:Value) (us:List Value),us.length=ps.length->bindArgs (a0d x qual (a2q st) (a0H st) (o5 st) .none kV doc pm an cdv ct) ⟨us,[]⟩=pure (ps.zip us)):a3E K fd ps []:=by
 obtain⟨oc,od,kV,doc,pm,an,cdv,ct,osl,rfl,lk,hcd⟩:=F.ex
 exact .all (h kV doc pm an cdv ct)
theorem c5L{x qual:Str}{st:Stmt}{f:Addr}{oc:Value}{od an:Option Addr}{osl:Array (Option Value)}{kV doc pm cdv ct:Value}(l:K.lookup f=some ⟨oc,od,.func (a0d x qual (a2q st) (a0H st) (o5 st) .none kV doc pm an cdv ct),osl⟩)
  (c:a4M K cdv qual=true) (k:U3 K (.ref f)=true):Fun K x qual st f (a0d x qual (a2q st) (a0H st) (o5 st) .none kV doc pm an cdv ct):=⟨⟨oc,od,kV,doc,pm,an,cdv,ct,osl,rfl,l,c⟩,k⟩
end
theorem b0k{A:K7}{k:Nat}(hr:Q6 k A):A.units+1<cLine:=Nat.lt_of_le_of_lt (Nat.add_le_add_left (by decide:1<=64) _) hr.units
section
variable {X:Cx}
end
theorem c5H{A B:Prop}(h:B):if false=true then A else B:=by
 rw[if_neg u9]
 exact h
theorem b3f{A B:Prop}(h:A):if true=true then A else B:=by
 rw[if_pos rfl]
 exact h
theorem Y2{c A B:Prop}[Decidable c](h1:c->A)(h2:¬c->B):if c then A else B:=by
 by_cases h:c
 ·rw[if_pos h]
  exact h1 h
 ·rw[if_neg h]
  exact h2 h
def A0(H H':Hp):Prop:=∀b o,H b=some o->H' b=some o
theorem A0.refl(H:Hp):A0 H H:=fun _ _ h=>h
theorem A0.trans{H H1 H2:Hp}(a:A0 H H1)(b:A0 H1 H2):A0 H H2:=fun c o h=>b c o (a c o h)
theorem A0.free{H H':Hp}(e:A0 H H'){l:Addr}(h:H' l=Option.none):H l=Option.none:=by
 cases q:H l with
 | none=>rfl
 | some o=>
  rw[e l o q]at h
  cases h
section
variable {κ:Type}[DecidableEq κ]
end
end L2
set_option maxHeartbeats 4000000
namespace L2
open PySem PySem.Spec PyProof.Rows
variable{env:Env}{scope:Scope}{X:Cx}{w:World}{s:l4}{elt iter:Expr}{elts ifs:List Expr}{p pos tp:Pos}{pins:List (Addr×Obj)}{σ:St}{H:Hp}{cl:List (Str×Addr)}{fp:List Addr}{tt:TT}{te:TE}{xs:List V}{us:List Value}{u:Value}{ps:List Str}{sp:Sp}
theorem b1P:∀(names:List (Str×a4P)) (cs:List (Str×Addr)),(∀y∈names,y.2=.free->∃c,env.cells.lookup y.1=some c) ->
  (∀y c,cs.lookup y=some c->env.cells.lookup y=some c) ->
  ∃cl,(forIn names cs (fun(x:Str×a4P) (r:List (Str×Addr))=>(if(x.2 == NameKind.free)=true then (do let c <-cellOf env x.1;pure (ForInStep.yield ((x.1,c)::r)))else pure (ForInStep.yield r):Sem (ForInStep (List (Str×Addr)))))=(pure cl:Sem (List (Str×Addr)))) /\
   (∀y c,cl.lookup y=some c->env.cells.lookup y=some c)/\(∀y,(y,NameKind.free)∈names\/(cs.lookup y).isSome=true->(cl.lookup y).isSome=true)
 | [],cs,_,h=>⟨cs,rfl,h,fun y q=>q.elim (fun z=>absurd z (by simp)) id⟩
 | (n,k)::r,cs,hc,h=>by
  by_cases e:(k == NameKind.free)=true
  ·have ek:k=.free:=by simpa using e
   obtain⟨c,hcc⟩:=hc (n,k) K5 ek
   have h':∀y d,((n,c)::cs).lookup y=some d->env.cells.lookup y=some d:=by
    intro y d q
    rw[J3]at q
    cases eq:y == n with
    | true=>
     rw[eq]at q
     have e2:y=n:=by simpa using eq
     cases q;rw[e2];exact hcc
    | false=>rw[eq]at q;exact h y d q
   obtain⟨cl,h1,h2,h3⟩:=b1P r ((n,c)::cs) (fun y hy=>hc y (E1 _ hy)) h'
   refine⟨cl,?_,h2,fun y q=>h3 y ?_⟩
   ·rw[c6e]
    show((if(k == NameKind.free)=true then (do let c <-cellOf env n;pure (ForInStep.yield ((n,c)::cs)))else pure (ForInStep.yield cs):Sem (ForInStep (List (Str×Addr)))) >>= _)=_
    rw[if_pos e]
    have ec:cellOf env n=pure c:=by unfold cellOf;rw[hcc]
    rw[ec]
    exact h1
   ·rcases q with q | q
    ·rcases p8.mp q with q | q
     ·cases q
      right
      simp[J3]
     ·exact .inl q
    ·right
     rw[J3]
     cases y == n
     ·exact q
     ·rfl
  ·obtain⟨cl,h1,h2,h3⟩:=b1P r cs (fun y hy=>hc y (E1 _ hy)) h
   refine⟨cl,?_,h2,fun y q=>h3 y ?_⟩
   ·rw[c6e]
    show((if(k == NameKind.free)=true then (do let c <-cellOf env n;pure (ForInStep.yield ((n,c)::cs)))else pure (ForInStep.yield cs):Sem (ForInStep (List (Str×Addr)))) >>= _)=_
    rw[if_neg e]
    exact h1
   ·rcases q with q | q
    ·rcases p8.mp q with q | q
     ·cases q
      exact absurd rfl e
     ·exact .inl q
    ·exact .inr q
theorem a5n(hc:∀y∈scope.names,y.2=.free->∃c,env.cells.lookup y.1=some c) :
  ∃cl,closureFor scope env=pure cl/\(∀y c,cl.lookup y=some c->env.cells.lookup y=some c)/\∀y,(y,NameKind.free)∈scope.names->(cl.lookup y).isSome=true:=by
 obtain⟨cl,h1,h2,h3⟩:=b1P scope.names [] hc (fun y c q=>by cases q)
 refine⟨cl,?_,h2,fun y q=>h3 y (.inl q)⟩
 unfold closureFor
 first
  | exact h1
  | (show(forIn scope.names [] _ >>= fun r=>pure r)=_;rw[h1];rfl)
theorem O4{env:Env}:∀ {names:List (Str×a4P)} {y:Str} {k:a4P},
  (names.map fun(n,k)=>if(k == NameKind.free&&env.scope.kind == .function&&env.kindOf n == some .cell)then (n,NameKind.cell)else (n,k)).lookup y=some k ->
  names.lookup y=some k\/(names.lookup y=some .free/\k=.cell)
 | [],_,_,h=>by cases h
 | (n,k0)::r,y,k,h=>by
  have ih := @O4 env r y k
  rw[F8]at h
  rw[J3]
  cases hx:y == n with
  | true=>
   by_cases hc:(k0 == NameKind.free&&env.scope.kind == .function&&env.kindOf n == some .cell)=true
   ·have e2:k0=.free:=by simp at hc;exact hc.1.1
    dsimp only at h
    rw[if_pos hc,J3,hx]at h
    cases h
    exact .inr ⟨by rw[e2],rfl⟩
   ·dsimp only at h
    rw[if_neg hc,J3,hx]at h
    exact .inl h
  | false=>
   by_cases hc:(k0 == NameKind.free&&env.scope.kind == .function&&env.kindOf n == some .cell)=true
   ·dsimp only at h
    rw[if_pos hc,J3,hx]at h
    exact ih h
   ·dsimp only at h
    rw[if_neg hc,J3,hx]at h
    exact ih h
def hid(x:Str)(N:List Str):List Str:=N.map fun y=>if y=x then ("." : Str)++x else y
def U7(X:Cx)(scope:Scope)(cl:List (Str×Addr))(C:Addr)(x:Str)(fp:List Addr)(s3:l4)(H3:Hp):Cx:=
 { X with N:=x::hid x X.N,s₀:=s3,H₀:=H3,env:=b7S scope cl C X.env,outer:=X.stack,stack:=X.stack,ex:=fp,fn:=fun _=>false,pn:=[],xe:=fun _ _=>False }
structure T0(N:List Str)(osc sc:Scope)(x:Str):Prop where
 kind:sc.kind=.function
 cell:∀y∈sc.names,y.2≠.cell
 names:∀y∈sc.names,y.2=.local->sc.names.lookup y.1=some .local
 own:sc.names.lookup x=some .local
 fr:∀y∈sc.names,y.2=.free->osc.names.lookup y.1=some .cell\/osc.names.lookup y.1=some .free
 see:∀y∈hid x N,sc.names.lookup y≠some .local
 dot:sc.names.lookup (("." : Str)++x)=none
 nd:(x::hid x N).Nodup
def Z2(wi:TI)(tt:TT)(te:TE):TE:=fun σ H Q=>wi σ H fun J H1=>∀D,H1 D=none->∃W:Nat->Nat->List V->Hp->Prop,
 (∃m,W 0 m [] (upd H1 D (.lst [])))/\∀i m ys H2,W i m ys H2->H2 D=some (.lst ys) /\
  ((J.stop i H2 /\ Q (.ref D) H2) \/ (J.go i H2 /\ ∀ x H3,J.yld i H2 x H3 -> tt (some x :: σ) H3 fun ok H4 => if ok = true then
    te (some x::σ) H4 (fun y H5=>H5 D=some (.lst ys)/\ys.length<u8/\∃m',m'<m/\W (i+1) m' (ys++[y]) (upd H5 D (.lst (ys++[y]))))
    else ∃m',m'<m/\W (i+1) m' ys H4))
def PTs(X:Cx)(ifs:List Expr)(t:TT):Prop:=
 ∀(pins:List (Addr×Obj)) (s:l4) (σ:St) (H:Hp) (Q:Bool->Hp->Prop),Inv X pins σ H s->t σ H Q ->
  wpAny (model X.prog X.w) X.A (forIn ifs true fun c r=>if r=true then do let ok <-isTrue c X.env (eval c X.env);pure (ForInStep.yield ok)else pure (ForInStep.yield r)) (TP X pins σ Q) X.xe s
def Z1:TT:=fun _ H Q=>Q true H
theorem c1D:PTs X [] Z1:=fun _ _ _ H _ I h=>wpAny_tests_nil ⟨H,I,h⟩
theorem c1C{c:Expr}{t:TT}(h:PT X c t):PTs X [c] t:=fun pins s σ H Q I hq=>wpAny_tests_one (h pins s σ H Q I hq)
theorem b0m{prog:D6}{A:K7}{R:b5r->l4->Prop}{target:Expr}{it acc:Value}(I:Nat->l4->Prop)
  (turn:∀n s,I n s->wpAny (model prog w) A (c6n it) (fun r s₁=>match r with
   | none=>R (.ok .next) s₁
   | some v=>wpAny (model prog w) A (a3L target it v) (fun _ s₂=>wpAny (model prog w) A (a9O target env v) (fun _ s₃=>
     wpAny (model prog w) A (forIn ifs true fun c r=>if r=true then do let ok <-isTrue c env (eval c env);pure (ForInStep.yield ok)else pure (ForInStep.yield r)) (fun ok s₄=>
      if ok=true then wpAny (model prog w) A (eval elt env) (fun x s₅=>
       wpAny (model prog w) A (call (.builtin "list.append") [acc,x]) (fun _ s₆=>∃m,m<n/\I m s₆) (fun _ _=>False) s₅) (fun _ _=>False) s₄
      else ∃m,m<n/\I m s₄) (fun _ _=>False) s₃) (fun _ _=>False) s₂) (fun _ _=>False) s₁) (fun _ _=>False) s)
  (n:Nat) (h:I n s) :
  a2T (model prog w) A (.compLoop (.ListComp elt [⟨target,iter,ifs,0⟩] scope pos) 0 it acc env) R s:=by
 have up:∀ {α:Type} {m:Sem α} {Q:α->l4->Prop} {E:Value->l4->Prop} {s:l4},wpAny (model prog w) A m Q (fun _ _=>False) s->wpAny (model prog w) A m Q E s:=
  fun h=>X8 h (fun _ _ q=>q) fun _ _ f=>f.elim
 refine codeAny_loop rfl I (fun n s hI=>?_) n h
 refine wpAny_noted ?_
 rw[compTurn_list]
 refine d5 (c3H (d5 (up (thn (turn n s hI) fun r s₁ h₁=>?_))))
 cases r with
 | none=>exact v6 h₁
 | some v=>
  refine d5 (up (thn h₁ fun _ s₂ h₂=>d5 (up (thn h₂ fun _ s₃ h₃=>d5 (up (thn h₃ fun ok s₄ h₄=>?_))))))
  cases ok with
  | false=>exact v6 ⟨rfl,by simpa using h₄⟩
  | true=>
   rw[if_pos rfl]at h₄
   exact d5 (d5 (up (thn h₄ fun x s₅ h₅=>d5 (up (thn h₅ fun _ s₆ h₆=>v6 (v6 ⟨rfl,h₆⟩))))))
section
variable {x:Str}{px:Pos}
theorem c0G{s3:l4}{h4:Heap}{tk:Nat}(hc:T0 X.N X.env.scope scope x)(I:Inv X pins σ H s3)
  (hcl:∀y c,cl.lookup y=some c->X.env.cells.lookup y=some c) (hcl2:∀y,(y,NameKind.free)∈scope.names->(cl.lookup y).isSome=true)
  (fpo:∀b∈fp,a4K X pins H b) (fpl:∀b∈fp,b<s3.heap.objs.size)
  (hn:h4.Ns s3.heap.objs.size (fun _=>none)) (k:∀b o,s3.heap.get? b=some o->h4.get? b=some o) :
  Inv (U7 X scope cl s3.heap.objs.size x fp s3 H) [] (none::σ) H { s3 with heap:=h4,toks:=tk }:=by
 have low:∀x y,(U7 X scope cl s3.heap.objs.size x fp s3 H).env.cells.lookup y=cl.lookup y:=fun _ _=>rfl
 have below:∀y c,cl.lookup y=some c->c<s3.heap.objs.size:=fun y c e=>by
  obtain⟨v,q⟩:=I.cell y c (hcl y c e)
  exact q.lt
 have kinds:∀y,((U7 X scope cl s3.heap.objs.size x fp s3 H).env.kindOf y=some .cell\/(U7 X scope cl s3.heap.objs.size x fp s3 H).env.kindOf y=some .free)->scope.names.lookup y=some .free:=by
  intro y hy
  rcases hy with hy | hy
  ·rcases O4 hy with q | ⟨q,_⟩
   ·exact absurd rfl (hc.cell _ (D9 q))
   ·exact q
  ·rcases O4 hy with q | ⟨q,z⟩
   ·exact q
   ·cases z
 refine⟨⟨I.ok.mod,?_,I.ok.glob,I.ok.blt,i9 _,fun y z c h1 h2=>?_,fun y hy=>?_,fun y c h=>?_,I.ok.hd,I.ok.frames,.inl rfl,fun b hb=>⟨?_,fun y c e z=>?_⟩,fun b o e=>I.bs b o e,I0 I.ok.bsz I.sz,fun b o e hb=>?_,fun b hb hf=>?_,I.stack,I.stkFree⟩,
  rfl,I.bare,Un.kept k,⟨_,hn,fun i y v h1 h2 h3=>?_⟩,fun y c e=>?_,I.fresh,fun y c e=>?_,fun p hp=>absurd (show p∈([]:List (Addr×Obj))from hp) (by simp),I.hok.kept k,?_⟩
 ·exact hc.kind
 ·exact I.ok.inj y z c (hcl _ _ h1) (hcl _ _ h2)
 ·have:=hcl2 y (D9 (kinds y hy))
  exact W6.mp this
 ·cases h
 ·exact B0 (fpl b hb)
 ·exact(fpo b hb).2.2.2.2.1 y c (hcl y c e) z
 ·rcases(fpo b hb).2.2.2.1 with q | q
  ·exact I.ok.noex b o e q
  ·exact absurd (D4 (o6 (I.ok.bs b o e).1) q) (L1 _)
 ·rcases p8.mp (I.stkSub b hf)with e | e
  ·exact(fpo b hb).2.1 e
  ·exact(fpo b hb).2.2.1 e
 ·-- the names
  have h1:(x::hid x X.N)[i]? = some y:=h1
  cases i with
  | zero=>cases h2
  | succ i=>
   have h1:(hid x X.N)[i]? = some y:=h1
   have h2:σ[i]? = some (some v):=h2
   have my:y∈hid x X.N:=a0f h1
   have h3:(a6j scope X.env).names.lookup y=some .local\/(a6j scope X.env).names.lookup y=some .cell\/(a6j scope X.env).names.lookup y=some .free:=h3
   have hf:scope.names.lookup y=some .free:=by
    rcases h3 with q | q
    ·rcases O4 q with q | ⟨_,z⟩
     ·exact absurd q (hc.see y my)
     ·cases z
    ·exact kinds y q
   have hy:X.N[i]? = some y:=by
    unfold hid at h1
    rw[d4]at h1
    cases e:X.N[i]? with
    | none=>rw[e]at h1;cases h1
    | some z=>
     rw[e]at h1
     by_cases ez:z=x
     ·rw[a4r,if_pos ez]at h1
      have h1:=Option.some.inj h1
      subst h1
      rw[hc.dot]at hf
      cases hf
     ·rw[a4r,if_neg ez]at h1
      exact h1
   obtain⟨m,_,hl⟩:=I.loc
   obtain⟨c,hcc⟩:=W6.mp (hcl2 y (D9 hf))
   have vis:Vis X.env.scope y:=by
    rcases hc.fr _ (D9 hf) rfl with q | q
    ·exact .inr (.inl q)
    ·exact .inr (.inr q)
   obtain⟨u,ru,lk⟩:=hl i y v hy h2 vis
   refine⟨u,ru,.inr ⟨?_,c,hcc,?_⟩⟩
   ·rcases h3 with q | q
    ·rcases O4 q with q | ⟨_,z⟩
     ·exact absurd q (hc.see y my)
     ·cases z
    ·exact q
   ·have hce:=hcl y c hcc
    rcases lk with ⟨q,_⟩ | ⟨_,c',e',z⟩
    ·rcases hc.fr _ (D9 hf) rfl with q' | q'
     ·have q:X.env.scope.names.lookup y=some .local:=q
      rw[show X.env.scope.names.lookup y=some NameKind.cell from q']at q
      cases q
     ·have q:X.env.scope.names.lookup y=some .local:=q
      rw[show X.env.scope.names.lookup y=some NameKind.free from q']at q
      cases q
    ·rw[e']at hce
     cases hce
     obtain⟨o,ho,hd⟩:=z
     exact⟨o,k _ _ ho,hd⟩
 ·obtain⟨v,o,ho,hd⟩:=I.cell y c (hcl y c e)
  exact⟨v,o,k _ _ ho,hd⟩
 ·exact I.freeC y c (hcl y c e)
 ·show(none::σ).length=(x::hid x X.N).length
  have:=I.len
  simp[hid,this]
theorem a9b{H1:Hp}{s2:l4}{it:Addr}{tn:Nat->Heap->Prop}{J:It}{Q:VK}{E:Value->l4->Prop}
  {RR:Value->Addr->b5r->l4->Prop} (hc:T0 X.N X.env.scope scope x) (hcalm:X.calm=true)
  (hcl:∀y c,cl.lookup y=some c->X.env.cells.lookup y=some c) (hcl2:∀y,(y,NameKind.free)∈scope.names->(cl.lookup y).isSome=true)
  (ht:∀C fp s3 H3,PTs (U7 X scope cl C x fp s3 H3) ifs tt) (he:∀C fp s3 H3,PE (U7 X scope cl C x fp s3 H3) elt te)
  (I:Inv X pins σ H1 s2) (T:b1Z X.prog X.w X.K (.Name x px) J fp it tn) (st:tn 0 s2.heap) (fpo:∀b∈fp,a4K X pins H1 b)
  (h:∀D,H1 D=none->∃W:Nat->Nat->List V->Hp->Prop,
   (∃m,W 0 m [] (upd H1 D (.lst [])))/\∀i m ys H2,W i m ys H2->H2 D=some (.lst ys) /\
   ((J.stop i H2 /\ Q (.ref D) H2) \/ (J.go i H2 /\ ∀ x H3,J.yld i H2 x H3 -> tt (some x :: σ) H3 fun ok H4 => if ok = true then
     te (some x::σ) H4 (fun y H5=>H5 D=some (.lst ys)/\ys.length<u8/\∃m',m'<m/\W (i+1) m' (ys++[y]) (upd H5 D (.lst (ys++[y]))))
     else ∃m',m'<m/\W (i+1) m' ys H4)))
  (hRR:∀D C s' H' m,Inv X pins σ H' s'->s'.heap.Ns C m->H' C=none->C≠X.env.locals->X.s₀.heap.objs.size<=C->(∀y c,X.env.cells.lookup y=some c->c≠C)->(∀p∈X.pn++pins,p.1≠C)->Q (.ref D) H'->RR (.ref D) C (.ok .next) s') :
  wpAny (model X.prog X.w) X.A (newList []) (fun acc s₃=>wpAny (model X.prog X.w) X.A (newFunctionEnv scope X.env.globals cl [] X.env.qual none .none (some X.env)) (fun cenv s₄=>
   a2T (model X.prog X.w) X.A (.compStart (.ListComp elt [⟨.Name x px,iter,ifs,0⟩] scope pos) 0 (.ref it) acc { cenv with scope:=a6j scope X.env }) (RR acc cenv.locals) s₄) E s₃) E s2:=by
 refine R9 (hd:=by size_fits) ?_
 have I3:=I.lnew (ys:=[]) (its:=[]) (t':=s2.toks) .nil (by show 0<=u8;exact K0 _)
 obtain⟨W,⟨m0,w0⟩,turn⟩:=h _ I.fresh
 generalize hD:s2.heap.objs.size=D at I3 w0 turn ⊢
 generalize hs3:({ s2 with heap:=s2.heap.push { cls:=.type "list",data:=.seq ([]:List Value).toArray } }:l4)=s3
 have hs3':({ s2 with heap:=s2.heap.push { cls:=.type "list",data:=.seq ([]:List Value).toArray },toks:=s2.toks }:l4)=s3:=hs3
 rw[hs3']at I3
 have keep3:∀b o,s2.heap.get? b=some o->s3.heap.get? b=some o:=fun b o e=>by rw[<-hs3];exact g9 _ e
 have fpl:∀b∈fp,b<s3.heap.objs.size:=fun b hb=>by
  obtain⟨o,e,_⟩:=T.obj _ _ st b hb
  exact o6 (keep3 b o e)
 have fpD:∀b∈fp,b≠D:=fun b hb z=>by
  obtain⟨o,e,_⟩:=T.obj _ _ st b hb
  exact absurd (o6 e) (by rw[z,hD];exact L1 _)
 have fpo3:∀b∈fp,a4K X pins (upd H1 D (.lst [])) b:=fun b hb=>⟨by rw[d6 (fpD b hb)];exact(fpo b hb).1,(fpo b hb).2⟩
 show wpAny _ _ _ _ _ s3
 refine c7u hc.cell (by intro y hy;simp at hy) (fun h₁ hns₁ hsb₁=>?_) hc.kind
 dsimp only[newEnv]at hns₁ hsb₁ ⊢
 have keep4:∀b o,s3.heap.get? b=some o->h₁.get? b=some o:=fun b o e=>hsb₁.extBut b o (B0 (o6 e)) (g9 _ e)
 have I4:=c0G (tk:=s3.toks+([]:List (Str×Value)).length) hc I3 hcl hcl2 fpo3 fpl hns₁ keep4
 have st4:tn 0 h₁:=T.keep _ _ _ st fun b hb o e=>keep4 b o (keep3 b o e)
 have loop:∀s₄:l4,s₄={ s3 with heap:=h₁,toks:=s3.toks+([]:List (Str×Value)).length } ->
   a2T (model X.prog X.w) X.A (.compLoop (.ListComp elt [⟨.Name x px,iter,ifs,0⟩] scope pos) 0 (.ref it) (.ref D) (b7S scope cl s3.heap.objs.size X.env)) (RR (.ref D) s3.heap.objs.size) s₄:=by
  rintro s₄ rfl
  have stat:∀ {H':Hp},(∀b∈fp,H' b=none)->∀b∈fp,a4K (U7 X scope cl s3.heap.objs.size x fp s3 (upd H1 D (.lst []))) [] H' b:=fun hn b hb=>
   ⟨hn b hb,B0 (fpl b hb),fun hf=>by
    rcases p8.mp (I3.stkSub b hf)with e | e
    ·exact(fpo b hb).2.1 e
    ·exact(fpo b hb).2.2.1 e,.inl hb,fun y c e=>(fpo b hb).2.2.2.2.1 y c (hcl y c e),fun p hp=>absurd (show p∈([]:List (Addr×Obj))from hp) (by simp)⟩
  refine b0m (env:=b7S scope cl s3.heap.objs.size X.env) (fun n s'=>∃i ys H',Inv (U7 X scope cl s3.heap.objs.size x fp s3 (upd H1 D (.lst []))) [] (none::σ) H' s'/\tn i s'.heap/\(∀b∈fp,H' b=none)/\W i n ys H') ?_ m0
   ⟨0,[],_,I4,st4,fun b hb=>(fpo3 b hb).1,w0⟩
  rintro n s5 ⟨i,ys,H5,I5,st5,fr5,w5⟩
  obtain⟨hDy,alt⟩:=turn i n ys H5 w5
  rcases alt with ⟨stop,q⟩ | ⟨go,step⟩
  ·refine X8 (T.done (U7 X scope cl s3.heap.objs.size x fp s3 (upd H1 D (.lst []))) rfl rfl rfl hcalm i [] s5 _ H5 (fun _ _=>False) I5 (stat fr5) st5 stop) (fun r s6 ⟨hr,I6⟩=>?_) fun _ _ f=>f
   subst hr
   obtain⟨m6,n6,_⟩:=I6.loc
   have J6:Inv X pins σ H5 s6:=by
    refine I3.call' (ch:=fp) I6.os I6.base I6.hok I6.bare fun b hb=>?_
    obtain⟨_,f1,f2,f3,f4,f5⟩:=fpo3 b hb
    exact⟨f3,f1,f4,f5⟩
   refine hRR D _ s6 H5 m6 J6 n6 I6.free (a4O I3.lt) I3.sz (fun y c e z=>?_) (fun p hp z=>?_) q
   ·obtain⟨v,q⟩:=I3.cell y c e
    exact absurd q.lt (by rw[z];exact L1 _)
   ·exact absurd (o6 (I3.pin p hp).1) (by rw[z];exact L1 _)
  ·refine X8 (T.item (U7 X scope cl s3.heap.objs.size x fp s3 (upd H1 D (.lst []))) rfl rfl rfl hcalm i [] s5 _ H5 (fun _ _=>False) I5 (stat fr5) st5 go) (fun r s6 ⟨u,hr,h6⟩=>?_) fun _ _ f=>f
   subst hr
   refine thn h6 fun _ s6 ⟨xv,H6,I6,r6,y6,st6,fr6⟩=>?_
   have I6':=I6.pinned (stat fr6) (T.obj _ _ st6)
   refine b3L (a8p (i:=0) I6' ?nd rfl (.inl ?loc) r6 (fun s7 I7=>?_) (.inr ?loc))
   case nd=>exact hc.nd
   case loc=>exact a0Q hc.own
   have I7:Inv (U7 X scope cl s3.heap.objs.size x fp s3 (upd H1 D (.lst []))) ([]++a5f fp s6.heap) (some xv::σ) H6 s7:=I7
   have again:∀ {s8:l4} {H8:Hp} {ys8:List V},Inv (U7 X scope cl s3.heap.objs.size x fp s3 (upd H1 D (.lst []))) ([]++a5f fp s6.heap) (some xv::σ) H8 s8->(∃m',m'<n/\W (i+1) m' ys8 H8) ->
     ∃m,m<n/\∃i ys H',Inv (U7 X scope cl s3.heap.objs.size x fp s3 (upd H1 D (.lst []))) [] (none::σ) H' s8/\tn i s8.heap/\(∀b∈fp,H' b=none)/\W i m ys H':=by
    rintro s8 H8 ys8 I8 ⟨m',hm,w8⟩
    refine⟨m',hm,i+1,ys8,H8,(I8.unpinned (pins:=[])).weak rfl (fun j v e=>?_),T.keep _ _ _ st6 fun b hb o e=>(I8.pin (b,o) (C2 _ (C2 _ (a0W hb e)))).1,fun b hb=>?_,w8⟩
    ·cases j with
     | zero=>cases e
     | succ j=>exact e
    ·obtain⟨o,e,d⟩:=T.obj _ _ st6 b hb
     exact(I8.pin (b,o) (C2 _ (C2 _ (a0W hb e)))).2.1
   refine thn (ht _ fp s3 _ _ s7 _ H6 _ I7 (step xv H6 y6)) (fun ok s8 ⟨H8,I8,q8⟩=>?_)
   cases ok with
   | false=>exact again I8 (by simpa using q8)
   | true=>
    rw[if_pos rfl]at q8
    rw[if_pos rfl]
    refine thn (he _ fp s3 _ _ s8 _ H8 _ I8 q8) (fun v s9 ⟨y,H9,I9,r9,hD9,hz9,w9⟩=>?_)
    refine X8 (a6G (X:=U7 X scope cl s3.heap.objs.size x fp s3 (upd H1 D (.lst []))) _ s9 _ H9 (.ref D) [y] (.ref D) [v] (fun _ H'=>H'=upd H9 D (.lst (ys++[y]))) I9 rfl (.cons r9 .nil) ⟨D,ys,y,rfl,rfl,hD9,hz9,rfl⟩) (fun _ s10 ⟨_,H10,I10,_,e10⟩=>?_) fun _ _ f=>f
    subst e10
    exact again I10 w9
 exact c6h (loop _ rfl) (T.self X.A 0 _ _ _ st4 (loop _ rfl))
theorem a9a(hc:T0 X.N X.env.scope scope x)(I:Inv X pins σ H s):∀y∈scope.names,y.2=.free->∃c,X.env.cells.lookup y.1=some c:=by
 intro y hy e
 rcases hc.fr y hy e with q | q
 ·exact I.ok.has y.1 (.inl q)
 ·exact I.ok.has y.1 (.inr q)
theorem c1V{wi:TI}(hc:T0 X.N X.env.scope scope x)(hcalm:X.calm=true)(hi:PI X (.Name x px) iter wi)
  (ht:∀cl C fp s3 H3,PTs (U7 X scope cl C x fp s3 H3) ifs tt) (he:∀cl C fp s3 H3,PE (U7 X scope cl C x fp s3 H3) elt te)
  (hs:∀x,P6 iter X.env x=pure x:=by intro _;rfl) :
  PE X (.ListComp elt [⟨.Name x px,iter,ifs,0⟩] scope pos) (Z2 wi tt te):=by
 intro pins s σ H Q I h
 obtain⟨cl,hclos,hcl,hcl2⟩:=a5n (a9a hc I)
 rw[eval_ListComp]
 refine a5t (use:=none) rfl hs hclos hc.kind hc.names (thn (hi pins s σ H _ I h) fun v s1 h1=>thn h1 fun itv s2 ⟨it,fp,tn,J,H2,e,I2,T,st,fpo,R⟩=>?_)
 subst e
 refine a9b (RR:=fun acc C=>compPost (model X.prog X.w) X.A X.xe none (EP X pins σ Q) acc C) (Q:=Q) hc hcalm hcl hcl2 (ht cl) (he cl) I2 T st fpo R ?_
 intro D C s' H' m I' n f1 f2 f3 f4 f5 q
 exact⟨m,n,fun h' sb=>⟨.ref D,H',I'.turned (t':=s'.toks) (fun b o hb e=>(sb.2 b hb).trans e) f1 f2 (.inr f3) f4 f5,rfl,q⟩⟩
theorem b4t{wi:TI}{i:Nat}{y:Str}{py spos:Pos}(hN:X.N.Nodup)(hiy:X.N[i]? = some y)(hy:X.env.scope.names.lookup y=some .local)(hc:T0 X.N X.env.scope scope x)(hcalm:X.calm=true)(hi:PI X (.Name x px) iter wi)
  (ht:∀cl C fp s3 H3,PTs (U7 X scope cl C x fp s3 H3) ifs tt) (he:∀cl C fp s3 H3,PE (U7 X scope cl C x fp s3 H3) elt te)
  (hsw:a1P (.ListComp elt [⟨.Name x px,iter,ifs,0⟩] scope pos) (some (.Name y py)) spos.line X.env=pure true:=by rfl)
  (hs:∀x,P6 iter X.env x=pure x:=by intro _;rfl) :
  PS X (.Assign [.Name y py] (.ListComp elt [⟨.Name x px,iter,ifs,0⟩] scope pos) spos) (fun D σ H=>Z2 wi tt te σ H fun v H1=>D.nx (σ.set i (some v)) H1):=by
 intro pins s σ H D I h
 obtain⟨cl,hclos,hcl,hcl2⟩:=a5n (a9a hc I)
 rw[exec_Assign_Name_used _ _ _ _ hsw]
 refine d5 (c3H (d5 ?_))
 show wpAny _ X.A (do let _ <-comprehension (.ListComp elt [⟨.Name x px,iter,ifs,0⟩] scope pos) scope X.env _ (newList []) false (eval iter X.env) (some (a9O (.Name y py) X.env))) _ _ s
 refine d5 (X8 (a5t (use:=some (a9O (.Name y py) X.env)) (Q:=fun _ s'=>SP X pins D .next s') rfl hs hclos hc.kind hc.names
  (thn (hi pins s σ H _ I h) fun v s1 h1=>thn h1 fun itv s2 ⟨it,fp,tn,J,H2,e,I2,T,st,fpo,R⟩=>?_)) (fun _ s' hq=>v6 (v6 hq)) fun _ _ e=>e)
 subst e
 refine a9b (RR:=fun acc C=>compPost (model X.prog X.w) X.A X.xe (some (a9O (.Name y py) X.env)) (fun _ s'=>SP X pins D .next s') acc C) (Q:=fun v H1=>D.nx (σ.set i (some v)) H1) hc hcalm hcl hcl2 (ht cl) (he cl) I2 T st fpo R ?_
 intro E C s' H' m I' n f1 f2 f3 f4 f5 q
 show wpAny _ _ (a9O (.Name y py) X.env (.ref E)) _ _ _
 refine b3L (b0c (v:=.ref E) I' hN hiy (.inl hy) rfl (fun s'' I'' ch=>?_) (.inr hy))
 obtain⟨a,sb,ha⟩:=ch
 have hCa:C≠a:=by
  rcases ha with e | e
  ·rw[e];exact f2
  ·exact fun z=>f4 y a e z.symm
 exact⟨m,n.sameBut sb hCa,fun h' sb'=>⟨_,_,I''.turned (t':=s''.toks) (fun b o hb e=>(sb'.2 b hb).trans e) f1 f2 (.inr f3) f4 f5,q⟩⟩
end
section
theorem OpR.imp{f:Value->Value->Sem Value}{r r':R2}(h:OpR X f r)(i:∀x y H Q,r' x y H Q->r x y H Q):OpR X f r':=fun pins s σ H x y u v Q I rx ry q=>h pins s σ H x y u v Q I rx ry (i _ _ _ _ q)
theorem V6.imp{f:Value}{r r':List V->Hp->VK->Prop}(h:V6 X f r)(i:∀xs H Q,r' xs H Q->r xs H Q):V6 X f r':=fun pins s σ H xs us Q I rx q=>h pins s σ H xs us Q I rx (i _ _ _ q)
theorem IxR.imp{r r':R2}(h:IxR X r)(i:∀x y H Q,r' x y H Q->r x y H Q):IxR X r':=by
 intro value slice pins s σ H x y v u Q I rx ry q hs
 exact h value slice pins s σ H x y v u Q I rx ry (i _ _ _ _ q) hs
theorem SlR.imp{r r':V->Option Int->Option Int->Hp->VK->Prop}(h:SlR X r)(i:∀x lo hi H Q,r' x lo hi H Q->r x lo hi H Q):SlR X r':=fun pins s σ H x v vl vu lo hi sl Q I rx hs pl pu q=>h pins s σ H x v vl vu lo hi sl Q I rx hs pl pu (i _ _ _ _ _ q)
def a0c:R2:=fun x y H Q=>match x,y with
 | .int i,.int j=>Q (.int (i+j)) H
 | .str i,.str j=>i.length+j.length<=u8/\Q (.str (i++j)) H
 | .ref a,.ref b=>match H a,H b with
  | some (.lst xs),some (.lst ys)=>xs.length+ys.length<=u8/\∀p,H p=none->Q (.ref p) (upd H p (.lst (xs++ys)))
  | _,_=>False
 | _,_=>False
theorem c2k:OpR X (X0 .Add) a0c:=by
 refine(c5l.or (b4B.or c5k)).imp fun x y H Q h=>?_
 unfold a0c at h
 split at h
 ·exact .inl ⟨_,_,rfl,rfl,h⟩
 ·exact .inr (.inl ⟨_,_,rfl,rfl,h.1,h.2⟩)
 ·split at h
  ·exact .inr (.inr ⟨_,_,_,_,rfl,rfl,by assumption,by assumption,h.1,h.2⟩)
  ·exact h.elim
 ·exact h.elim
def q2I(C:Int->Int->Prop)(g:Int->Int->V):R2:=fun x y H Q=>match x,y with
 | .int i,.int j=>C i j/\Q (g i j) H
 | _,_=>False
def b2R(g:Int->Int->V):R2:=fun x y H Q=>match x,y with
 | .int i,.int j=>Q (g i j) H
 | _,_=>False
theorem b4s{f:Value->Value->Sem Value}{C:Int->Int->Prop}{g:Int->Int->V}(h:OpR X f (rI C g)):OpR X f (q2I C g):=h.imp fun x y H Q q=>by
 unfold q2I at q
 split at q
 ·exact⟨_,_,rfl,rfl,q.1,q.2⟩
 ·exact q.elim
theorem a5R{f:Value->Value->Sem Value}{g:Int->Int->V}(h:OpR X f (rI0 g)):OpR X f (b2R g):=h.imp fun x y H Q q=>by
 unfold b2R at q
 split at q
 ·exact⟨_,_,rfl,rfl,q⟩
 ·exact q.elim
abbrev b1f:R2:=b2R fun i j=>.int (i - j)
abbrev b1g:R2:=q2I c3a fun i j=>.int (i * j)
abbrev a2P:R2:=q2I (fun _ j=>0<j) fun i j=>.int (i % j)
abbrev b9w:R2:=q2I (fun _ j=>0<j/\j<2 ^ 64) fun i j=>.int (i / j)
abbrev qLt:R2:=b2R fun i j=>.bl (decide (i<j))
abbrev qLe:R2:=b2R fun i j=>.bl (decide (i<=j))
abbrev qGt:R2:=b2R fun i j=>.bl (decide (j<i))
abbrev qGe:R2:=b2R fun i j=>.bl (decide (j<=i))
theorem c2b:OpR X (X0 .Sub) b1f:=a5R c4Z
theorem c2e:OpR X (X0 .Mult) b1g:=b4s c5i
theorem c2f:OpR X (X0 .Mod) a2P:=b4s c5j
theorem c2j:OpR X (X0 .FloorDiv) b9w:=b4s (opI fun i j _ _ _ _ _ hc q=>by
 have hl:j.natAbs.log2<9000:=by
  have:j.natAbs<2 ^ 64:=by have:=hc.1;have:=hc.2;omega
  by_cases h0:j.natAbs=0
  ·rw[h0];decide +kernel
  ·exact Nat.lt_trans ((Nat.log2_lt h0).mpr this) (by decide)
 refine floordiv_int (by omega) ?_ (.inl (PyProof.noPylong_of_log2 hl))
 rw[Int.fdiv_eq_ediv_of_nonneg _ (by omega)]
 exact q)
theorem c5c:OpR X (A3 .Lt) qLt:=a5R c7b
theorem c5d:OpR X (A3 .LtE) qLe:=a5R c7c
theorem c5f:OpR X (A3 .Gt) qGt:=a5R c7d
theorem c5g:OpR X (A3 .GtE) qGe:=a5R c7e
def qIx:R2:=fun x y H Q=>match x,y with
 | .ref p,.int i=>match H p with
  | some (.lst xs)=>∃v,atI xs i=some v/\Q v H
  | some (.tup xs)=>∃v,atI xs i=some v/\Q v H
  | _=>False
 | .str z,.int i=>z.length<=u8/\∃c,atI z.cps.toList i=some c/\Q (.str ⟨#[c]⟩) H
 | _,_=>False
theorem c7M:IxR X qIx:=c0t.imp fun x y H Q h=>by
 unfold qIx at h
 split at h
 ·split at h
  ·obtain⟨v,e,q⟩:=h
   exact .inl ⟨_,_,_,v,rfl,rfl,SqL.of (by assumption),e,q⟩
  ·obtain⟨v,e,q⟩:=h
   exact .inr (.inl ⟨_,_,_,v,rfl,rfl,SqT.of (by assumption),e,q⟩)
  ·exact h.elim
 ·obtain⟨z,c,e,q⟩:=h
  exact .inr (.inr ⟨_,_,c,rfl,rfl,z,e,q⟩)
 ·exact h.elim
def qSl:V->Option Int->Option Int->Hp->VK->Prop:=fun x lo hi H Q=>match x with
 | .ref a=>match H a with
  | some (.lst xs)=>∀p,H p=none->Q (.ref p) (upd H p (.lst (a4m xs lo hi)))
  | some (.tup xs)=>¬(HT.sIx xs.length 0 lo=0/\HT.sIx xs.length xs.length hi=xs.length)/\∀p,H p=none->Q (.ref p) (upd H p (.tup (a4m xs lo hi)))
  | _=>False
 | _=>False
theorem c7A:SlR X qSl:=(b5H.or c3P).imp fun x lo hi H Q h=>by
 unfold qSl at h
 split at h
 ·split at h
  ·exact .inl ⟨_,_,rfl,SqL.of (by assumption),h⟩
  ·exact .inr ⟨_,_,rfl,SqT.of (by assumption),h.1,h.2⟩
  ·exact h.elim
 ·exact h.elim
def U6:List V->Hp->VK->Prop:=fun xs H Q=>match xs with
 | [.ref p]=>match H p with
  | some (.lst ys)=>Q (.int ys.length) H
  | some (.tup ys)=>Q (.int ys.length) H
  | _=>False
 | [.str z]=>z.length<=u8/\Q (.int z.length) H
 | _=>False
theorem b7C:V6 X (.builtin "len") U6:=(a5W.or b1T).imp fun xs H Q h=>by
 unfold U6 at h
 split at h
 ·split at h
  ·exact .inl ⟨_,_,rfl,.inl (SqL.of (by assumption)),h⟩
  ·exact .inl ⟨_,_,rfl,.inr (SqT.of (by assumption)),h⟩
  ·exact h.elim
 ·exact .inr ⟨_,rfl,h.1,h.2⟩
 ·exact h.elim
def b9x:List V->Hp->VK->Prop:=fun xs H Q=>match xs with
 | [.int i]=>Q (.int (if i<0 then -i else i)) H
 | _=>False
theorem b7H:V6 X (.builtin "abs") b9x:=c0I.imp fun xs H Q h=>by
 unfold b9x at h
 split at h
 ·exact⟨_,rfl,h⟩
 ·exact h.elim
def a8E:V->V->V->Hp->(Hp->Prop)->Prop:=fun o i v H Q=>match o,i with
 | .ref p,.int k=>match H p with
  | some (.lst xs)=>∃j,ixN xs.length k=some j/\Q (upd H p (.lst (xs.set j v)))
  | _=>False
 | _,_=>False
theorem c6s:c0O X a8E:=by
 intro pins s σ H o i v u1 u2 u3 Q I r1 r2 r3 h
 refine b8M pins s σ H o i v u1 u2 u3 Q I r1 r2 r3 ?_
 unfold a8E at h
 split at h
 ·split at h
  ·obtain⟨j,e,q⟩:=h
   exact⟨_,_,_,j,rfl,rfl,by assumption,e,q⟩
  ·exact h.elim
 ·exact h.elim
def a0X(xs ys:List V):Bool:=(M0 (min xs.length ys.length)).all (fun j=>eqV (xs.getD j .non) (ys.getD j .non))&&xs.length == ys.length
def eqO(x y:V)(H:Hp):Option Bool:=if b2G x y=true then some (decide (x=y))else match x,y with
 | .ref a,.ref b=>match H a,H b with
  | some (.tup xs),some (.tup ys)=>if xs.all Q0=true/\ys.all Q0=true then some (a0X xs ys)else none
  | some (.lst xs),some (.lst ys)=>if xs.all Q0=true/\ys.all Q0=true then some (a0X xs ys)else none
  | _,_=>none
 | .non,.ref a=>match H a with
  | some (.tup _)=>some false
  | _=>none
 | .ref a,.non=>match H a with
  | some (.tup _)=>some false
  | _=>none
 | _,_=>none
def qEq:R2:=fun x y H Q=>∃b,eqO x y H=some b/\Q (.bl b) H
def qNe:R2:=fun x y H Q=>∃b,eqO x y H=some b/\Q (.bl (!b)) H
theorem a5V{A:K7}{ys:List V}{ws:List Value}(rx:G6 xs us)(ry:G6 ys ws)(fx:xs.all Q0=true)(fy:ys.all Q0=true) :
  ∀j (h1:j<us.toArray.size) (h2:j<ws.toArray.size),SeqAt.EqAt A s us.toArray[j] ws.toArray[j] (eqV (xs.getD j .non) (ys.getD j .non)):=by
 intro j h1 h2
 have l1:=rx.length
 have l2:=ry.length
 have h1':j<us.length:=by simpa using h1
 have h2':j<ws.length:=by simpa using h2
 have e1:xs[j]? = some (xs[j]'(by omega)):=by simp
 have e2:ys[j]? = some (ys[j]'(by omega)):=by simp
 obtain⟨u,hu,ru⟩:=rx.get e1
 obtain⟨w,hw,rw'⟩:=ry.get e2
 have z1:us.toArray[j]=u:=by
  have:us[j]? = some us[j]:=by simp
  rw[this]at hu
  simpa using hu
 have z2:ws.toArray[j]=w:=by
  have:ws[j]? = some ws[j]:=by simp
  rw[this]at hw
  simpa using hw
 rw[z1,z2]
 have g1:xs.getD j .non=xs[j]'(by omega):=by simp[Q5,e1]
 have g2:ys.getD j .non=ys[j]'(by omega):=by simp[Q5,e2]
 rw[g1,g2]
 exact b1L ru rw' (O1.mp fx _ (G9 _)) (O1.mp fy _ (G9 _))
theorem c3t{x y:V}{v:Value}{k:Bool}(I:Inv X pins σ H s)(hu:X.A.units<cLine)(rx:F1 x v)(ry:F1 y u)(hs:¬b2G x y=true)(e:eqO x y H=some k) :
  SeqAt.RcAt X.A s v u k/\SeqAt.RcNeAt X.A s v u (!k):=by
 unfold eqO at e
 rw[if_neg hs]at e
 split at e
 ·rename_i a b
  cases rx
  cases ry
  split at e
  ·rename_i xs ys ha hb
   split at e
   ·rename_i hf
    cases e
    obtain⟨us,r1,t1,_⟩:=I.tuple (SqT.of ha)
    obtain⟨ws,r2,t2,_⟩:=I.tuple (SqT.of hb)
    have l1:=r1.length
    have l2:=r2.length
    have q1:=SeqAt.RcAt.tuples (A:=X.A) t1 t2 hu (a5V r1 r2 hf.1 hf.2)
    have q2:=SeqAt.RcNeAt.tuples (A:=X.A) t1 t2 hu (a5V r1 r2 hf.1 hf.2)
    simp only[o9,<-l1,<-l2]at q1 q2
    exact⟨q1,q2⟩
   ·cases e
  ·rename_i xs ys ha hb
   split at e
   ·rename_i hf
    cases e
    obtain⟨us,r1,t1,_⟩:=I.list (SqL.of ha)
    obtain⟨ws,r2,t2,_⟩:=I.list (SqL.of hb)
    have l1:=r1.length
    have l2:=r2.length
    by_cases hl:us.toArray.size=ws.toArray.size
    ·have q1:=SeqAt.RcAt.lists (A:=X.A) t1.isList t2.isList hl hu (a5V r1 r2 hf.1 hf.2)
     have q2:=SeqAt.RcNeAt.lists (A:=X.A) t1.isList t2.isList hl hu (a5V r1 r2 hf.1 hf.2)
     have hl':xs.length=ys.length:=by simpa[<-l1,<-l2]using hl
     have ef:a0X xs ys=(M0 us.toArray.size).all fun j=>eqV (xs.getD j .non) (ys.getD j .non):=by
      unfold a0X
      rw[hl',Nat.min_self,o9,<-l1,hl']
      simp
     rw[ef]
     exact⟨q1,q2⟩
    ·have hl2:(us.toArray.size != ws.toArray.size)=true:=by simpa using hl
     have q1:=SeqAt.RcAt.lists_lengths (A:=X.A) t1.isList t2.isList hl2 hu
     have q2:=SeqAt.RcNeAt.lists_lengths (A:=X.A) t1.isList t2.isList hl2 hu
     have ef:a0X xs ys=false:=by
      unfold a0X
      have:¬xs.length=ys.length:=by simpa[<-l1,<-l2]using hl
      simp[this]
     rw[ef]
     exact⟨q1,q2⟩
   ·cases e
  ·cases e
 ·cases rx
  cases ry
  split at e
  ·cases e
   obtain⟨us,_,t1,_⟩:=I.tuple (SqT.of (by assumption))
   exact⟨SeqAt.RcAt.none_tuple t1 hu,SeqAt.RcNeAt.none_tuple t1 hu⟩
  ·cases e
 ·cases rx
  cases ry
  split at e
  ·cases e
   obtain⟨us,_,t1,_⟩:=I.tuple (SqT.of (by assumption))
   exact⟨SeqAt.RcAt.tuple_none t1 hu,SeqAt.RcNeAt.tuple_none t1 hu⟩
  ·cases e
 ·cases e
theorem c5h(hu:X.A.units<cLine):OpR X (A3 .Eq) qEq:=by
 intro pins s σ H x y v u Q I rx ry h
 obtain⟨k,e,q⟩:=h
 by_cases hs:b2G x y=true
 ·unfold eqO at e
  rw[if_pos hs]at e
  cases e
  exact c7f pins s σ H x y v u Q I rx ry ⟨hs,q⟩
 ·exact(c3t I hu rx ry hs e).1 _ _ _ _ ⟨.bl k,H,I,rfl,q⟩
theorem c5b(hu:X.A.units<cLine):OpR X (A3 .NotEq) qNe:=by
 intro pins s σ H x y v u Q I rx ry h
 obtain⟨k,e,q⟩:=h
 by_cases hs:b2G x y=true
 ·unfold eqO at e
  rw[if_pos hs]at e
  cases e
  exact c7a pins s σ H x y v u Q I rx ry ⟨hs,q⟩
 ·exact(c3t I hu rx ry hs e).2 _ _ _ _ ⟨.bl (!k),H,I,rfl,q⟩
def qIn(neg:Bool):R2:=fun x y H Q=>match x,y with
 | .str i,.str j=>Q (.bl (if neg then !(!(Builtin.Str.occurrences j i 0 j.length 1).isEmpty)else !(Builtin.Str.occurrences j i 0 j.length 1).isEmpty)) H
 | x,.ref p=>match H p with
  | some (.lst xs)=>Q0 x=true/\xs.all Q0=true/\Q (.bl (if neg then !inV x xs else inV x xs)) H
  | some (.tup xs)=>Q0 x=true/\xs.all Q0=true/\Q (.bl (if neg then !inV x xs else inV x xs)) H
  | _=>False
 | _,_=>False
theorem c5e:OpR X (A3 .In) (qIn false):=(b6W.or b0g).imp fun x y H Q h=>by
 unfold qIn at h
 split at h
 ·exact .inl ⟨_,_,rfl,rfl,h⟩
 ·split at h
  ·exact .inr ⟨_,_,rfl,.inl (SqL.of (by assumption)),h.1,h.2.1,h.2.2⟩
  ·exact .inr ⟨_,_,rfl,.inr (SqT.of (by assumption)),h.1,h.2.1,h.2.2⟩
  ·exact h.elim
 ·exact h.elim
theorem b6U:OpR X (A3 .NotIn) (qIn true):=(b1x.or b1y).imp fun x y H Q h=>by
 unfold qIn at h
 split at h
 ·exact .inl ⟨_,_,rfl,rfl,h⟩
 ·split at h
  ·exact .inr ⟨_,_,rfl,.inl (SqL.of (by assumption)),h.1,h.2.1,h.2.2⟩
  ·exact .inr ⟨_,_,rfl,.inr (SqT.of (by assumption)),h.1,h.2.1,h.2.2⟩
  ·exact h.elim
 ·exact h.elim
def R0:V->List V->Hp->VK->Prop:=fun x vs H Q=>match x,vs with
 | .ref l,[y]=>match H l with
  | some (.lst xs)=>xs.length<u8/\Q .non (upd H l (.lst (xs++[y])))
  | _=>False
 | _,_=>False
theorem b4K:MtR X "list.append" R0:=fun pins s σ H x xs v us Q I rx rv h=>by
 refine a6G pins s σ H x xs v us Q I rx rv ?_
 unfold R0 at h
 split at h
 ·split at h
  ·exact⟨_,_,_,rfl,rfl,by assumption,h.1,h.2⟩
  ·exact h.elim
 ·exact h.elim
def a2y:List V->Option (List Str)
 | []=>some []
 | .str s::r=>(a2y r).map (s :: ·)
 | _=>none
theorem b3X(ss:List Str):a2y (ss.map V.str)=some ss:=by
 induction ss with
 | nil=>rfl
 | cons s r ih=>simp[a2y,ih]
theorem a8o:∀ {xs:List V} {us:List Value} {ss:List Str},G6 xs us->a2y xs=some ss->StrsAre us ss
 | _,_,ss,.nil,e=>by cases e;exact .nil
 | x::xs,_,ss,.cons r t,e=>by
  cases x with
  | str s=>
   obtain⟨k,rfl⟩:=r
   cases e2:a2y xs with
   | none=>simp[a2y,e2]at e
   | some ss2=>
    simp[a2y,e2]at e
    subst e
    exact .cons _ _ (a8o t e2)
  | _=>simp[a2y]at e
def a8F:V->List V->Hp->VK->Prop:=fun x vs H Q=>match x,vs with
 | .str x,[.ref l]=>match H l with
  | some (.lst xs)=>∃ss,a2y xs=some ss/\(ss.map (·.length)).sum+ss.length * x.length<=16777216/\Q (.str (Txt.join x ss)) H
  | _=>False
 | _,_=>False
theorem c0j:MtR X "str.join" a8F:=fun pins s σ H x xs v us Q I rx rv h=>by
 unfold a8F at h
 split at h
 ·split at h
  ·obtain⟨ss,e,hk,q⟩:=h
   obtain⟨t,rfl⟩:=rx
   obtain⟨u,rfl,ru⟩:=rv.one
   cases ru
   obtain⟨its,r,p,hz⟩:=I.list (SqL.of (by assumption))
   exact join_list p.isList (a8o r e) hk fun t' k=>⟨.str _,H,I.tok _,⟨_,rfl⟩,q⟩
  ·exact h.elim
 ·exact h.elim
def a0D(x:V)(H:Hp):Option String:=match x with
 | .non=>some "NoneType"
 | .bl _=>some "bool"
 | .int _=>some "int"
 | .str _=>some "str"
 | .ref a=>match H a with
  | some (.lst _)=>some "list"
  | some (.tup _)=>some "tuple"
  | some (.dK _)=>some "dict"
  | some (.dT _)=>some "dict"
  | _=>none
 | _=>none
def b4S(t c:String):Bool:=t == c||(t == "bool" && c == "int")
def a6I:List String:=["int","bool","str","list","tuple","dict"]
theorem c0q(K:Fg):∀t ∈ "NoneType" :: a6I,∀c∈a6I,c3b K (.type t) (.type c)=some (b4S t c):=by
 intro t ht c hc
 simp only[a6I,p8,E5,or_false]at ht hc
 rcases ht with rfl | rfl | rfl | rfl | rfl | rfl | rfl <;> rcases hc with rfl | rfl | rfl | rfl | rfl | rfl <;> kernel_rfl
theorem c6r{K:Fg}{x:V}{t:String}(h:a0D x H=some t):a6P K H x (.type t)/\t ∈ "NoneType" :: a6I:=by
 unfold a0D at h
 split at h
 ·cases h;exact⟨.non,by decide⟩
 ·cases h;exact⟨.bl _,by decide⟩
 ·cases h;exact⟨.int _,by decide⟩
 ·cases h;exact⟨.str _,by decide⟩
 ·split at h
  ·cases h;exact⟨.lst (by assumption),by decide⟩
  ·cases h;exact⟨.tup (by assumption),by decide⟩
  ·cases h;exact⟨.dK (by assumption),by decide⟩
  ·cases h;exact⟨.dT (by assumption),by decide⟩
  ·cases h
 ·cases h
def a1r:List V->Hp->VK->Prop:=fun xs H Q=>match xs with
 | [x,.ty c]=>∃t,a0D x H=some t/\c∈a6I/\Q (.bl (b4S t c)) H
 | _=>False
theorem b7D:V6 X (.builtin "isinstance") a1r:=fun pins s σ H xs us Q I r h=>by
 unfold a1r at h
 split at h
 ·obtain⟨t,e,hc,q⟩:=h
  obtain⟨u,u2,rfl,ru,ru2⟩:=b8v r
  cases ru2
  obtain⟨ty,ht⟩:=c6r (K:=X.K) e
  exact b7o I ru ty (c0q X.K t ht _ hc) fun tk=>⟨.bl _,H,I.tok _,rfl,q⟩
 ·exact h.elim
def b6L:V->V->Hp->VK->Prop:=fun x y H Q=>match x,y with
 | .ref p,.int i=>match H p with
  | some (.lst xs)=>0<=i/\∃v,xs[i.toNat]? = some v/\Q v H
  | _=>False
 | _,_=>False
theorem c7k:c5W X b6L:=fun pins s σ H o i ov iv Q I r1 r2 h=>by
 unfold b6L at h
 split at h
 ·split at h
  ·obtain⟨h0,v,e,q⟩:=h
   cases r1
   obtain⟨t,rfl⟩:=r2
   obtain⟨its,r,pl,hz⟩:=I.list (SqL.of (by assumption))
   obtain⟨u,eu,ru⟩:=r.get e
   have hl:=(u7.mp e).1
   have hn:=a5m
   exact wpAny_getItem_list pl.isList h0 (by omega) (by simpa using eu) ⟨v,H,I,ru,q⟩
  ·exact h.elim
 ·exact h.elim
def b1h:R2:=fun x y H Q=>y=.non/\Q (.bl (!decide (x=.non))) H
theorem b6V:OpR X (A3 .IsNot) b1h:=c2l
structure E9(P:D6)(w:World)(K:Fg)(mg:Str->Option Value)(base:Heap)(k:Nat)(x:Str)(ps:List Str)(sp:Sp):Prop where
 ex:∃f fd,L9 P w K mg base CX0 k f fd ps sp/\mg x=some (.ref f)/\U3 K (.ref f)=true/\a3E K fd ps []
theorem c4M{k j:Nat}{x:Str}{e:Expr}{es:List Expr}{t:TA}{p:Pos}(C:E9 X.prog X.w X.K X.mg X.base k x ps sp)(hr:Q6 j X.A)(hk:k<=j)(hg:Gl X x)(ha:PA X (e::es) t)
  (hdb:(x == ("__debug__" : Str))=false:=by decide) (he:i8 (e::es) X.env=(false,eval e X.env)::i8 es X.env:=by rfl) (hpl:(Y0 pos (i8 es X.env)).any (·.1)=false:=by rfl) :
  PE X (.Call (.Name x p) (e::es) [] pos) (v7 sp [] E0 t):=by
 obtain⟨f,fd,F,hm,hkp,hb⟩:=C.ex
 exact c1X F (hr.mono hk) hg hm hkp hb .nil b9Q ha hdb he hpl
theorem b7A{P:D6}{K:Fg}{mg:Str->Option Value}{base:Heap}{k:Nat}{x q:Str}{st:Stmt}{f:Addr}{fd:Y9}(F:Fun K x q st f fd)(O:L9 P w K mg base CX0 k f fd ps sp)
  (hm:mg x=some (.ref f)) (hb:a3E K fd ps []):E9 P w K mg base k x ps sp:=⟨f,fd,O,hm,F.kp,hb⟩
def a2o:List V->Hp->VK->Prop:=fun xs H Q=>match xs with
 | [.ref p]=>match H p with
  | some (.lst ys)=>∀l,H l=none->Q (.ref l) (upd H l (.lst ys))
  | some (.tup ys)=>∀l,H l=none->Q (.ref l) (upd H l (.lst ys))
  | _=>False
 | _=>False
theorem b5d:V6 X (.type "list") a2o:=b1S.imp fun xs H Q h=>by
 unfold a2o at h
 split at h
 ·split at h
  ·exact⟨_,_,rfl,.inl (SqL.of (by assumption)),h⟩
  ·exact⟨_,_,rfl,.inr (SqT.of (by assumption)),h⟩
  ·exact h.elim
 ·exact h.elim
theorem a8c:∀ {kvs:List (Key×V)} {k:Key} {x:V},(kvs.map (·.1)).Nodup->(k,x)∈kvs->a2X kvs k=some x
 | [],_,_,_,h=>by cases h
 | (k0,x0)::r,k,x,nd,h=>by
  have nd':k0∉r.map (·.1)/\(r.map (·.1)).Nodup:=K6.mp nd
  unfold a2X
  rw[Z0]
  by_cases e:k0=k
  ·rw[show decide (((k0,x0):Key×V).1=k)=true from c9s e]
   rcases p8.mp h with z | z
   ·cases z;rfl
   ·exact absurd (E3.mpr ⟨_,z,e.symm⟩) nd'.1
  ·rw[show decide (((k0,x0):Key×V).1=k)=false from c9r e]
   rcases p8.mp h with z | z
   ·cases z;exact absurd rfl e
   ·exact a8c nd'.2 z
theorem c2L{A:K7}{kb:List (Key×Value)}{kvs:List (Key×V)}(r2:KV kvs kb)(nd:(kvs.map (·.1)).Nodup)(fl:kvs.all (fun p=>Q0 p.2)=true) :
  ∀ {l:List (Key×V)} {la:List (Key×Value)},KV l la->(∀p∈l,p∈kvs)->PySem.W.KeqHits A s kb la true:=by
 intro l la r
 unfold KV at r
 induction r with
 | nil=>intro _;exact .nil
 | @cons p q l1 l2 h hr ih=>
  intro hm
  obtain⟨k,x⟩:=p
  obtain⟨k',v⟩:=q
  obtain⟨e,rv⟩:=h
  have e:k=k':=e
  subst e
  have mem:=hm (k,x) K5
  have rel:=r2.val k
  rw[a8c nd mem]at rel
  obtain⟨y,hy,ry⟩:=rel.some_of
  have fx:Q0 x=true:=O1.mp fl _ mem
  have eq:SeqAt.EqAt A s v y (eqV x x):=b1L rv ry fx fx
  have ex:eqV x x=true:=by
   cases x with
   | non=>rfl
   | bl b=>simp[eqV]
   | int i=>simp[eqV]
   | str s=>simp[eqV]
   | byt b=>cases fx
   | flt b=>cases fx
   | ref a=>cases fx
   | ty n=>cases fx
  rw[ex]at eq
  exact PySem.W.KeqHits.hit (e:=true) (b:=true) hy eq (ih fun p hp=>hm p (E1 _ hp))
def a4S:List V->Hp->VK->Prop:=fun xs H Q=>match xs with
 | [.ref a]=>match H a with
  | some (.dK kvs)=>∀p,H p=none->Q (.ref p) (upd H p (.dK kvs))
  | _=>False
 | _=>False
theorem b5g:V6 X (.type "dict") a4S:=fun pins s σ H xs us Q I r h=>by
 unfold a4S at h
 split at h
 ·split at h
  ·obtain⟨u,rfl,ru⟩:=a3U r
   cases ru
   exact c0C I (.inl (by assumption)) fun p s' hp I'=>⟨.ref p,_,I',rfl,h p hp⟩
  ·exact h.elim
 ·exact h.elim
def b2Q:List V->Hp->VK->Prop:=fun xs H Q=>match xs with
 | [.int i]=>Q (.int i) H
 | [.bl k]=>Q (.int (if k then 1 else 0)) H
 | _=>False
theorem b7E:V6 X (.type "int") b2Q:=b7J.imp fun xs H Q h=>by
 unfold b2Q at h
 split at h
 ·exact .inl ⟨_,rfl,h⟩
 ·exact .inr ⟨_,rfl,h⟩
 ·exact h.elim
end
def Its(x:Str):It:=⟨fun i _=>i<x.length,fun i H v H'=>H'=H/\∃c,x.cps[i]? = some c/\v=.str ⟨#[c]⟩,fun i _=>x.length<=i⟩
theorem b8y{P:D6}{K:Fg}{tg:Expr}(x:Str)(t:Tok)(it:Addr):b1Z P w K tg (Its x) [it] it (fun i h=>h.IsStrIter it (a2v x) x t i) where
 mem:=by simp
 obj:=fun i h st b hb=>by
  have e:b=it:=by simpa using hb
  subst e
  obtain⟨o,e,c,d⟩:=st
  exact⟨o,e,fun v z=>by rw[d]at z;cases z⟩
 keep:=fun i h h' st k=>let⟨o,ho,r⟩:=st; ⟨o,k it (by simp) o ho,r⟩
 item:=by
  intro X hP hw hK hc i pins s σ H E I hf st hg
  subst hP hw hK
  have hi:i<x.cps.size:=hg
  obtain⟨f0,f1,f2,f3,f4,f5⟩:=hf it (by simp)
  have hx:x.cps[i]? = some x.cps[i]:=by simp[hi]
  have fin:∀h',h'.IsStrIter it (a2v x) x t (i+1)->Heap.SameBut it s.heap h'->∃u,some (Value.str ⟨#[x.cps[i]]⟩ s.toks)=some u /\
    wpAny (model X.prog X.w) X.A (a3L tg (.ref it) u) (fun _ s2=>∃v H',Inv X pins σ H' s2/\F1 v u/\(Its x).yld i H v H'/\s2.heap.IsStrIter it (a2v x) x t (i+1)/\∀b∈[it],H' b=none) E { s with heap:=h',toks:=s.toks+1 }:=by
   intro h' st' sb
   have I1:Inv X pins σ H { s with heap:=h',toks:=s.toks+1 }:=I.turned (t':=s.toks+1) (fun b o hb e=>(sb.2 b hb).trans e) f0 f1 f3 f4 f5
   obtain⟨o,e,c,d⟩:=id st'
   refine⟨_,rfl,b5W (s:={ s with heap:=h',toks:=s.toks+1 }) e c d ?_ ⟨.str ⟨#[x.cps[i]]⟩,H,I1,⟨_,rfl⟩,⟨rfl,_,hx,rfl⟩,st',fun b hb=>(hf b hb).1⟩⟩
   unfold a2v
   split <;> decide
  unfold a2v at st fin ⊢
  split at st
  ·rename_i ha
   simp only[ha]at fin ⊢
   exact wpAny_pyNext_ascii_item st hx fun h' st' sb=>fin h' st' sb
  ·rename_i ha
   simp only[ha]at fin ⊢
   exact wpAny_pyNext_wide_item st hx fun h' st' sb=>fin h' st' sb
 done:=by
  intro X hP hw hK hc i pins s σ H E I hf st hg
  subst hP hw hK
  have hi:x.cps.size<=i:=hg
  obtain⟨f0,f1,f2,f3,f4,f5⟩:=hf it (by simp)
  have hx:x.cps[i]? = none:=by simp[hi]
  unfold a2v at st
  split at st
  ·exact wpAny_pyNext_ascii_end (I.ok.hd hc) st hx fun h' eb=>⟨rfl,I.turned (t':=s.toks) (fun b o hb e=>eb b o hb e) f0 f1 f3 f4 f5⟩
  ·exact wpAny_pyNext_wide_end (I.ok.hd hc) st hx fun h' eb=>⟨rfl,I.turned (t':=s.toks) (fun b o hb e=>eb b o hb e) f0 f1 f3 f4 f5⟩
 self:=fun _ _ _ _ _ st h=>by
  unfold a2v at st
  split at st
  ·exact wpAny_pyIter_striter_ascii st h
  ·exact wpAny_pyIter_striter_wide st h
def c2K(tl:TE):TI:=fun σ H R=>tl σ H fun v H1=>∃x,v=.str x/\R (Its x) H1
section
variable {tg:Expr}
theorem c4H{l:Expr}{tl:TE}(hl:PE X l tl):PI X tg l (c2K tl):=by
 intro pins s σ H R I h
 refine thn (hl pins s σ H _ I h) fun v s1 ⟨y,H1,I1,r1,x,e,q1⟩=>?_
 subst e
 obtain⟨t,rfl⟩:=r1
 refine wpAny_pyIter_strU ?_
 have k:∀b u,s1.heap.get? b=some u->(s1.heap.push { cls:=.type (a2v x),data:=.fields #[.str x t,.int 0 0] }).get? b=some u:=fun b u q=>g9 _ q
 refine⟨s1.heap.objs.size,[s1.heap.objs.size],_,Its x,H1,rfl,I1.kept (t':=s1.toks) k,b8y x t _,⟨_,C3 _ rfl,rfl,rfl⟩,fun b hb=>?_,q1⟩
 have e:b=s1.heap.objs.size:=by simpa using hb
 subst e
 exact I1.fpOk (i9 _) I1.fresh
def V5:List V->Option (List Bool)
 | []=>some []
 | .bl b::r=>(V5 r).map (b :: ·)
 | _=>none
theorem a6N:∀ {xs:List V} {bs:List Bool} {i:Nat} {x:V},V5 xs=some bs->xs[i]? = some x->∃b,bs[i]? = some b/\x=.bl b
 | [],_,_,_,_,h=>by simp at h
 | y::r,bs,i,x,e,h=>by
  cases y with
  | bl b=>
   cases e2:V5 r with
   | none=>simp[V5,e2]at e
   | some bs2=>
    simp[V5,e2]at e
    subst e
    cases i with
    | zero=>simp at h;exact⟨b,rfl,h.symm⟩
    | succ i=>
     obtain⟨b',h1,h2⟩:=a6N (i:=i) e2 (by simpa using h)
     exact⟨b',by simpa using h1,h2⟩
  | _=>simp[V5]at e
theorem a6M:∀ {xs:List V} {bs:List Bool},V5 xs=some bs->xs.length=bs.length
 | [],_,e=>by cases e;rfl
 | y::r,bs,e=>by
  cases y with
  | bl b=>
   cases e2:V5 r with
   | none=>simp[V5,e2]at e
   | some bs2=>
    simp[V5,e2]at e
    subst e
    simp[a6M e2]
  | _=>simp[V5]at e
theorem b7L(bs:List Bool):((M0 bs.length).all fun i=>(bs[i]?).getD true)=bs.all id:=by
 rw[a0N,O1,O1]
 constructor
 ·intro h b hb
  obtain⟨i,hi,rfl⟩:=List.mem_iff_getElem.mp hb
  have:=h i (by simpa using hi)
  simpa[hi]using this
 ·intro h i hi
  have hl:i<bs.length:=by simpa using hi
  have:=h bs[i] (G9 _)
  simpa[hl]using this
def b1i:List V->Hp->VK->Prop:=fun vs H Q=>match vs with
 | [.ref l]=>match H l with
  | some (.lst xs)=>∃bs,V5 xs=some bs/\Q (.bl (bs.all id)) H
  | _=>False
 | _=>False
theorem b7G(hc:X.calm=true):V6 X (.builtin "all") b1i:=fun pins s σ H xs us Q I r h=>by
 unfold b1i at h
 split at h
 ·split at h
  ·rename_i l _ ys hl
   obtain⟨bs,e,q⟩:=h
   obtain⟨u,rfl,ru⟩:=a3U r
   cases ru
   obtain⟨its,rv,pl,hz⟩:=I.list (SqL.of hl)
   have hlt:l<s.heap.objs.size:=by obtain⟨_,e,_⟩:=pl.isList;exact o6 e
   have hlen:=rv.length
   have hbl:=a6M e
   refine call_all_walk (b3J pl.isList ?_)
   refine⟨s.heap.objs.size,[s.heap.objs.size,l],[s.heap.objs.size],its.toArray.size,_,_,fun i=>(bs[i]?).getD true,rfl,Walks.list (A:=X.A.in1) (I.ok.hd hc) _ l (B0 hlt) its.toArray,
    ⟨⟨_,C3 _ rfl,rfl,rfl⟩,pl.isList.push _⟩,fun i v s' Q' E' hP hQ=>?_,fun h' tk hk=>?_⟩
   ·have hP:its[i]? = some v:=by simpa using hP
    have hi:i<ys.length:=by rw[hlen];exact(u7.mp hP).1
    have ey:ys[i]? = some ys[i]:=by simp[hi]
    obtain⟨b,eb,ez⟩:=a6N e ey
    obtain⟨u,eu,ru⟩:=rv.get ey
    rw[hP]at eu
    cases eu
    rw[ez]at ru
    cases ru
    simp only[eb,a3F]at hQ
    exact L5 hQ
   ·have e2:((M0 its.toArray.size).all fun i=>(bs[i]?).getD true)=bs.all id:=by
     rw[o9,<-hlen,hbl]
     exact b7L bs
    rw[e2]
    exact⟨.bl _,H,I.kept (t':=tk) fun b x e=>hk b x (fun hm=>by rw[v9.mp hm]at e;exact L1 _ (o6 e)) (g9 _ e),rfl,q⟩
  ·exact h.elim
 ·exact h.elim
end
section
theorem Inv.turnedL{h':Heap}{t':Nat}(I:Inv X pins σ H s)(k:∀b o,b∉fp->s.heap.get? b=some o->h'.get? b=some o)(hf:∀b∈fp,a4K X pins H b) :
  Inv X pins σ H { s with heap:=h',toks:=t' }:=by
 have nit:∀b u,H b=some u->b∉fp:=fun b u e z=>by rw[(hf b z).1]at e;cases e
 refine I.step (g':=s.gens) (d':=s.drawn) (ch:=fp) (fun b hb=>?_) (fun b o _ _ hc e _=>k b o hc e) (fun b o _ _ hc e _=>⟨o.slots,k b o hc e⟩) (fun _ _ _ _ n=>n)
  (fun b o hc e=>⟨o,k b o hc e⟩) (fun _ _ e=>e) (fun _ _ _ e=>e) (fun b ps e=>⟨#[],by rw[e];simp⟩) (fun m hm=>?_) (fun b u e=>?_) I.bare
 ·obtain⟨_,f1,_,f3,f4,f5⟩:=hf b hb
  exact⟨f3,f1,f4,f5⟩
 ·obtain⟨o,es,ep,ho,r⟩:=hm
  exact⟨o,es,ep,k _ o (fun z=>(hf _ z).2.1 rfl) ho,r⟩
 ·refine(I.hok b u e).stay (fun c v hc q=>k c v ?_ q) (fun _ q=>q) fun _ _ q=>q
  rcases hc with z | z
  ·rw[z];exact nit b u e
  ·exact nit c _ z
theorem Inv.pairL{h':Heap}{t':Nat}{x y:V}{v:Value}(I:Inv X pins σ H s)(hf:∀b∈fp,a4K X pins H b)(fl:∀b∈fp,b≠s.heap.objs.size)
  (rx:F1 x u) (ry:F1 y v) (ht:h'.get? s.heap.objs.size=some { cls:=.type "tuple",data:=.seq #[u,v] }) (k:∀b o,b∉fp->s.heap.get? b=some o->h'.get? b=some o) :
  Inv X pins σ (upd H s.heap.objs.size (.tup [x,y])) { s with heap:=h',toks:=t' }:=by
 have I1:Inv X pins σ (upd H s.heap.objs.size (.tup [x,y])) { s with heap:=s.heap.push { cls:=.type "tuple",data:=.seq #[u,v] },toks:=s.toks }:=
  I.laid (fun b u e=>g9 _ e) (i9 _) ⟨by show 2<=u8;decide,[u,v],.cons rx (.cons ry .nil),⟨_,C3 _ rfl,rfl,_,rfl⟩⟩
 refine Inv.turnedL (s:={ s with heap:=s.heap.push { cls:=.type "tuple",data:=.seq #[u,v] },toks:=s.toks }) (fp:=fp) I1 (fun b o hb e=>?_) fun b hb=>⟨by rw[d6 (fl b hb)];exact(hf b hb).1,(hf b hb).2⟩
 by_cases hz:b=s.heap.objs.size
 ·subst hz
  have e2:=C3 s.heap (o:={ cls:=.type "tuple",data:=.seq #[u,v] }) rfl
  rw[show(s.heap.push { cls:=.type "tuple",data:=.seq #[u,v] }).get? s.heap.objs.size=some o from e]at e2
  cases e2
  exact ht
 ·refine k b o hb ?_
  have e:(s.heap.push { cls:=.type "tuple",data:=.seq #[u,v] }).get? b=some o:=e
  rwa [Heap.get?_push_ne _ _ _ hz]at e
def Ite(K:Fg)(a:Addr):It:=
 ⟨fun i H=>∃xs x,SqL K H a xs/\xs[i]? = some x,fun i H v H'=>∃p x,H p=none/\v=.ref p/\H'=upd H p (.tup [.int i,x])/\∀xs,SqL K H a xs->xs[i]? = some x,fun i H=>∃xs,SqL K H a xs/\xs.length<=i⟩
theorem b6B{P:D6}{K:Fg}{x1}(a e it:Addr)(hne:e≠it):b1Z P w K (.Tuple elts x1 tp) (Ite K a) [e,it] e (fun i h=>(∃old,IsEnum h e it i old)/\h.IsListIter it a i) where
 mem:=by simp
 obj:=fun i h st b hb=>by
  obtain⟨⟨old,he⟩,o,e1,c,d⟩:=st
  rcases p8.mp hb with rfl | hb
  ·exact⟨_,he,fun v z=>by
    have z':Data.fields _=Data.cell v:=z
    cases z'⟩
  ·have:b=it:=by simpa using hb
   subst this
   exact⟨o,e1,fun v z=>by rw[d]at z;cases z⟩
 keep:=fun i h h' st k=>by
  obtain⟨⟨old,he⟩,hi⟩:=st
  exact⟨⟨old,k e (by simp) _ he⟩,hi.at fun o q=>k it (by simp) o q⟩
 item:=by
  intro X hP hw hK hc i pins s σ H E I hf st hg
  subst hP hw hK
  obtain⟨⟨old,he⟩,hit⟩:=st
  obtain⟨xs,x,hq,hx⟩:=hg
  obtain⟨its,rv,p,hz⟩:=I.list hq
  obtain⟨u,hu,ru⟩:=rv.get hx
  refine wpAny_pyNext_enum_item he hit p.isList (x:=u) (by simpa using hu) hne fun h1 ho hit1 hT hsz hk=>?_
  refine⟨_,rfl,?_⟩
  refine wpAny_letOwnedTupleGo_enum (s:={ s with heap:=h1,toks:=s.toks+1 }) ho fun h2 he2 hs2=>?_
  have hs2:Heap.SameBut e h1 h2:=hs2
  have le:e≠s.heap.objs.size:=B0 (o6 he)
  have li:it≠s.heap.objs.size:=by obtain⟨_,q,_⟩:=hit;exact B0 (o6 q)
  have fl:∀b∈[e,it],b≠s.heap.objs.size:=fun b hb=>by
   rcases p8.mp hb with rfl | hb
   ·exact le
   ·have:b=it:=by simpa using hb
    subst this;exact li
  have I2:=I.pairL (h':=h2) (t':=s.toks+1) (x:=.int i) (y:=x) (u:=.int i s.toks) (v:=u) hf fl ⟨_,rfl⟩ ru ((hs2.2 _ (Ne.symm le)).trans hT) fun b o hb q=>by
   have n1:b≠e:=fun z=>hb (by simp[z])
   have n2:b≠it:=fun z=>hb (by simp[z])
   exact(hs2.2 b n1).trans (hk b o n1 n2 q)
  refine⟨.ref s.heap.objs.size,_,I2,rfl,⟨_,x,I.fresh,rfl,rfl,fun ys hy=>by rw[I.list_inj hy hq];exact hx⟩,⟨⟨u,by simpa using he2⟩,hit1.at fun o q=>(hs2.2 it (Ne.symm hne)).trans q⟩,fun b hb=>?_⟩
  rw[d6 (fl b hb)];exact(hf b hb).1
 done:=by
  intro X hP hw hK hc i pins s σ H E I hf st hg
  subst hP hw hK
  obtain⟨⟨old,he⟩,hit⟩:=st
  obtain⟨xs,hq,hx⟩:=hg
  obtain⟨its,rv,p,hz⟩:=I.list hq
  obtain⟨f0,f1,f2,f3,f4,f5⟩:=hf it (by simp)
  have hl:=rv.length
  exact wpAny_pyNext_enum_end (I.ok.hd hc) he hit p.isList (by simp;omega) fun h' eb=>⟨rfl,I.turned (t':=s.toks) (fun b o hb e=>eb b o hb e) f0 f1 f3 f4 f5⟩
 self:=fun _ _ _ _ _ st h=>by
  obtain⟨⟨old,he⟩,_⟩:=st
  exact wpAny_pyIter_enum he h
def a7l(K:Fg)(ta:TA):TI:=fun σ H R=>ta σ H fun vs H1=>∃a,vs=[.ref a]/\(∃xs,SqL K H1 a xs)/\R (Ite K a) H1
theorem c1P{x1}{a:Expr}{ta:TA}(hg:Gl X "enumerate")(hm:X.mg "enumerate" = none)(ha:PA X [a] ta)(hs:i8 [a] X.env=[(false,eval a X.env)]:=by rfl) :
  PI X (.Tuple elts x1 tp) (.Call (.Name "enumerate" p) [a] [] pos) (a7l X.K ta):=by
 intro pins s σ H R I h
 refine Call_ (a4j I hg hm boot_enumerate (N7 (thn (ha pos pins s σ H _ I h) fun us s1 ⟨vs,H1,I1,r1,q1⟩=>?_) hs rfl))
 obtain⟨b,e,⟨xs,hq⟩,q⟩:=q1
 subst e
 cases r1 with
 | cons r rr=>
  cases rr
  cases r
  obtain⟨its,rv,pl,hz⟩:=I1.list hq
  refine call_enumerate_list pl.isList fun h' he hit hsz hk=>?_
  have I2:Inv X pins σ H1 { s1 with heap:=h' }:=I1.kept (t':=s1.toks) hk
  refine wpAny_pyIter_enum he ⟨_,[s1.heap.objs.size+1,s1.heap.objs.size],_,_,H1,rfl,I2,b6B b (s1.heap.objs.size+1) s1.heap.objs.size (Nat.succ_ne_self _),⟨⟨_,he⟩,hit⟩,fun c hc=>?_,q⟩
  rcases p8.mp hc with rfl | hc
  ·exact I1.fpOk (by omega) (I1.hok.fresh (by omega))
  ·have:c=s1.heap.objs.size:=by simpa using hc
   subst this
   exact I1.fpOk (i9 _) (I1.hok.fresh (i9 _))
def Itz(K:Fg)(a b:Addr):It:=
 ⟨fun i H=>∃xs ys x y,SqL K H a xs/\SqL K H b ys/\xs[i]? = some x/\ys[i]? = some y,fun i H v H'=>∃p x y,H p=none/\v=.ref p/\H'=upd H p (.tup [x,y])/\(∀xs,SqL K H a xs->xs[i]? = some x)/\∀ys,SqL K H b ys->ys[i]? = some y,
  fun i H=>∃xs ys,SqL K H a xs/\SqL K H b ys/\(xs.length<=i\/ys.length<=i)⟩
theorem R8{h:Heap}{a b:Addr}{o o':Obj}(h1:h.get? a=some o)(h2:h.get? b=some o')(hc:o.cls≠o'.cls):a≠b:=fun z=>by
 subst z;rw[h1]at h2;cases h2;exact hc rfl
theorem b8x{P:D6}{K:Fg}{x1}(a b z TI TO i1 i2:Addr)(n1:TI≠z)(n2:TO≠z)(n3:i1≠z)(n4:i2≠z)(n5:TI≠TO)(n6:TI≠i1)(n7:TI≠i2)(n8:TO≠i1)(n9:TO≠i2)(n10:i1≠i2) :
  b1Z P w K (.Tuple elts x1 tp) (Itz K a b) [z,TI,TO,i1,i2] z (fun i h=>IsZip h z TI TO .none/\IsPair h TI (.ref i1) (.ref i2)/\(∃u v,IsPair h TO u v)/\h.IsListIter i1 a i/\h.IsListIter i2 b i) where
 mem:=by simp
 obj:=fun i h st c hb=>by
  obtain⟨hz,hTI,⟨u,v,hTO⟩,⟨o1,e1,c1,d1⟩,⟨o2,e2,c2,d2⟩⟩:=st
  simp only[p8,E5,or_false]at hb
  rcases hb with rfl | rfl | rfl | rfl | rfl
  ·exact⟨_,hz,fun v z=>by
    have z':Data.fields _=Data.cell v:=z
    cases z'⟩
  ·exact⟨_,hTI,fun v z=>by
    have z':Data.seq _ _=Data.cell v:=z
    cases z'⟩
  ·exact⟨_,hTO,fun v z=>by
    have z':Data.seq _ _=Data.cell v:=z
    cases z'⟩
  ·exact⟨o1,e1,fun v z=>by rw[d1]at z;cases z⟩
  ·exact⟨o2,e2,fun v z=>by rw[d2]at z;cases z⟩
 keep:=fun i h h' st k=>by
  obtain⟨hz,hTI,⟨u,v,hTO⟩,h1,h2⟩:=st
  exact⟨k z (by simp) _ hz,k TI (by simp) _ hTI,⟨u,v,k TO (by simp) _ hTO⟩,h1.at fun o q=>k i1 (by simp) o q,h2.at fun o q=>k i2 (by simp) o q⟩
 item:=by
  intro X hP hw hK hc i pins s σ H E I hf st hg
  subst hP hw hK
  obtain⟨hz,hTI,⟨u,v,hTO⟩,h1,h2⟩:=st
  obtain⟨xs,ys,x,y,hqa,hqb,hx,hy⟩:=hg
  obtain⟨ia,ra,pa,za⟩:=I.list hqa
  obtain⟨ib,rb,pb,zb⟩:=I.list hqb
  obtain⟨ux,hux,rux⟩:=ra.get hx
  obtain⟨uy,huy,ruy⟩:=rb.get hy
  obtain⟨oa,la,ca,_⟩:=id pa.isList
  obtain⟨ob,lb,cb,_⟩:=id pb.isList
  obtain⟨o1,e1,c1,_⟩:=id h1
  obtain⟨o2,e2,c2,_⟩:=id h2
  have D:ZipApart z TI TO i1 i2 a b:=⟨n1,n2,n3,n4,n5,n6,n7,n8,n9,n10,
   R8 la hz (by rw[ca];intro z;injection z with z;revert z;decide),R8 la hTO (by rw[ca];intro z;injection z with z;revert z;decide),R8 la e1 (by rw[ca,c1];intro z;injection z with z;revert z;decide),R8 la e2 (by rw[ca,c2];intro z;injection z with z;revert z;decide),
   R8 lb hz (by rw[cb];intro z;injection z with z;revert z;decide),R8 lb hTO (by rw[cb];intro z;injection z with z;revert z;decide),R8 lb e1 (by rw[cb,c1];intro z;injection z with z;revert z;decide),R8 lb e2 (by rw[cb,c2];intro z;injection z with z;revert z;decide)⟩
  refine wpAny_pyNext_zip_item D hz hTI hTO h1 h2 pa.isList pb.isList (x:=ux) (y:=uy) (by simpa using hux) (by simpa using huy) fun h3 a1 a2 a3 a4 a5 a6 hk=>?_
  refine⟨_,rfl,?_⟩
  refine wpAny_letOwnedTupleGo_zip (s:={ s with heap:=h3 }) a1 fun h4 hz4 hs4=>?_
  have hs4:Heap.SameBut z h3 h4:=hs4
  have lz:z≠s.heap.objs.size:=B0 (o6 hz)
  have fl:∀c∈[z,TI,TO,i1,i2],c≠s.heap.objs.size:=fun c hc=>by
   simp only[p8,E5,or_false]at hc
   rcases hc with rfl | rfl | rfl | rfl | rfl
   ·exact lz
   ·exact B0 (o6 hTI)
   ·exact B0 (o6 hTO)
   ·exact B0 (o6 e1)
   ·exact B0 (o6 e2)
  have I2:=I.pairL (h':=h4) (t':=s.toks) (x:=x) (y:=y) (u:=ux) (v:=uy) hf fl rux ruy ((hs4.2 _ (Ne.symm lz)).trans a5) fun c o hc q=>by
   have m1:c≠z:=fun z=>hc (by simp[z])
   have m3:c≠TO:=fun z=>hc (by simp[z])
   have m4:c≠i1:=fun z=>hc (by simp[z])
   have m5:c≠i2:=fun z=>hc (by simp[z])
   exact(hs4.2 c m1).trans (hk c o m1 m3 m4 m5 q)
  refine⟨.ref s.heap.objs.size,_,I2,rfl,⟨_,x,y,I.fresh,rfl,rfl,fun zs hy=>by rw[I.list_inj hy hqa];exact hx,fun zs hy'=>by rw[I.list_inj hy' hqb];exact hy⟩,
   ⟨hz4,hs4.extBut _ _ n1 (hk _ _ n1 n5 n6 n7 hTI),⟨_,_,hs4.extBut _ _ n2 a2⟩,a3.extBut hs4.extBut n3,a4.extBut hs4.extBut n4⟩,fun c hc=>?_⟩
  rw[d6 (fl c hc)];exact(hf c hc).1
 done:=by
  intro X hP hw hK hc i pins s σ H E I hf st hg
  subst hP hw hK
  obtain⟨hz,hTI,⟨u,v,hTO⟩,h1,h2⟩:=st
  obtain⟨xs,ys,hqa,hqb,hx⟩:=hg
  obtain⟨ia,ra,pa,za⟩:=I.list hqa
  obtain⟨ib,rb,pb,zb⟩:=I.list hqb
  obtain⟨oa,la,ca,_⟩:=id pa.isList
  obtain⟨ob,lb,cb,_⟩:=id pb.isList
  obtain⟨o1,e1,c1,_⟩:=id h1
  obtain⟨o2,e2,c2,_⟩:=id h2
  have D:ZipApart z TI TO i1 i2 a b:=⟨n1,n2,n3,n4,n5,n6,n7,n8,n9,n10,
   R8 la hz (by rw[ca];intro z;injection z with z;revert z;decide),R8 la hTO (by rw[ca];intro z;injection z with z;revert z;decide),R8 la e1 (by rw[ca,c1];intro z;injection z with z;revert z;decide),R8 la e2 (by rw[ca,c2];intro z;injection z with z;revert z;decide),
   R8 lb hz (by rw[cb];intro z;injection z with z;revert z;decide),R8 lb hTO (by rw[cb];intro z;injection z with z;revert z;decide),R8 lb e1 (by rw[cb,c1];intro z;injection z with z;revert z;decide),R8 lb e2 (by rw[cb,c2];intro z;injection z with z;revert z;decide)⟩
  have la':=ra.length
  have lb':=rb.length
  have hend:ia.toArray[i]? = none\/ib.toArray[i]? = none:=by
   rcases hx with hx | hx
   ·left;simp;omega
   ·right;simp;omega
  refine wpAny_pyNext_zip_end (I.ok.hd hc) D hz hTI hTO h1 h2 pa.isList pb.isList hend fun h' hk=>⟨rfl,?_⟩
  refine I.turnedL (t':=s.toks) (fp:=[z,TI,TO,i1,i2]) (fun c o hc q=>?_) hf
  exact hk c o (fun z=>hc (by simp[z])) (fun z=>hc (by simp[z])) (fun z=>hc (by simp[z])) (fun z=>hc (by simp[z])) q
 self:=fun _ _ _ _ _ st h=>wpAny_pyIter_zip st.1 h
def c2J(K:Fg)(ta:TA):TI:=fun σ H R=>ta σ H fun vs H1=>∃a b,vs=[.ref a,.ref b]/\(∃xs,SqL K H1 a xs)/\(∃xs,SqL K H1 b xs)/\R (Itz K a b) H1
theorem c4G{x1}{a b:Expr}{ta:TA}(hg:Gl X "zip")(hm:X.mg "zip" = none)(ha:PA X [a,b] ta)(hs:i8 [a,b] X.env=[(false,eval a X.env),(false,eval b X.env)]:=by rfl)(hs2:i8 [b] X.env=[(false,eval b X.env)]:=by rfl) :
  PI X (.Tuple elts x1 tp) (.Call (.Name "zip" p) [a,b] [] pos) (c2J X.K ta):=by
 intro pins s σ H R I h
 refine Call_ (a4j I hg hm boot_zip (N7 (thn (ha pos pins s σ H _ I h) fun us s1 ⟨vs,H1,I1,r1,q1⟩=>?_) (by rw[hs,hs2]) (by rw[hs2];rfl)))
 obtain⟨c,d,e,⟨xs,hq⟩,⟨ys,hq'⟩,q⟩:=q1
 subst e
 cases r1 with
 | cons r rr=>
  cases rr with
  | cons r' rr=>
   cases rr
   cases r
   cases r'
   obtain⟨ia,ra,pa,za⟩:=I1.list hq
   obtain⟨ib,rb,pb,zb⟩:=I1.list hq'
   refine call_zip_2 pa.isList pb.isList fun h' hz hTI hTO h1 h2 hsz hk=>?_
   have I2:Inv X pins σ H1 { s1 with heap:=h' }:=I1.kept (t':=s1.toks) hk
   have N:∀n:Nat,n+2≠n+4/\n+3≠n+4/\n≠n+4/\n+1≠n+4/\n+2≠n+3/\n+2≠n/\n+2≠n+1/\n+3≠n/\n+3≠n+1/\n≠n+1:=fun n=>by omega
   obtain⟨m1,m2,m3,m4,m5,m6,m7,m8,m9,m10⟩:=N s1.heap.objs.size
   refine wpAny_pyIter_zip hz ⟨_,[s1.heap.objs.size+4,s1.heap.objs.size+2,s1.heap.objs.size+3,s1.heap.objs.size,s1.heap.objs.size+1],_,_,H1,rfl,I2,
    b8x c d (s1.heap.objs.size+4) (s1.heap.objs.size+2) (s1.heap.objs.size+3) s1.heap.objs.size (s1.heap.objs.size+1) m1 m2 m3 m4 m5 m6 m7 m8 m9 m10,⟨hz,hTI,⟨_,_,hTO⟩,h1,h2⟩,fun y hy=>?_,q⟩
   have:s1.heap.objs.size<=y:=by
    simp only[p8,E5,or_false]at hy
    rcases hy with rfl | rfl | rfl | rfl | rfl
    ·exact a4s _ _
    ·exact a4s _ _
    ·exact a4s _ _
    ·exact i9 _
    ·exact a4s _ _
   exact I1.fpOk this (I1.hok.fresh this)
end
def b1K(x y:Str)(N:List Str):List Str:=N.map fun z=>if z=x then ("." : Str)++x else if z=y then ("." : Str)++y else z
def S8(X:Cx)(scope:Scope)(cl:List (Str×Addr))(C:Addr)(x y:Str)(fp:List Addr)(s3:l4)(H3:Hp):Cx:=
 { X with N:=x::y::b1K x y X.N,s₀:=s3,H₀:=H3,env:=b7S scope cl C X.env,outer:=X.stack,stack:=X.stack,ex:=fp,fn:=fun _=>false,pn:=[],xe:=fun _ _=>False }
structure a3v(N:List Str)(osc sc:Scope)(x y:Str):Prop where
 kind:sc.kind=.function
 cell:∀y∈sc.names,y.2≠.cell
 names:∀y∈sc.names,y.2=.local->sc.names.lookup y.1=some .local
 own:sc.names.lookup x=some .local
 own2:sc.names.lookup y=some .local
 fr:∀y∈sc.names,y.2=.free->osc.names.lookup y.1=some .cell\/osc.names.lookup y.1=some .free
 see:∀z∈b1K x y N,sc.names.lookup z≠some .local
 dot:sc.names.lookup (("." : Str)++x)=none
 dot2:sc.names.lookup (("." : Str)++y)=none
 nd:(x::y::b1K x y N).Nodup
def a8n(K:Fg)(wi:TI)(tt:TT)(te:TE):TE:=fun σ H Q=>wi σ H fun J H1=>∀D,H1 D=none->∃W:Nat->Nat->List V->Hp->Prop,
 (∃m,W 0 m [] (upd H1 D (.lst [])))/\∀i m ys H2,W i m ys H2->H2 D=some (.lst ys) /\
  ((J.stop i H2 /\ Q (.ref D) H2) \/ (J.go i H2 /\ ∀ x H3,J.yld i H2 x H3 -> ∃ a u v,x = .ref a /\ SqT K H3 a [u,v] /\ tt (some u :: some v :: σ) H3 fun ok H4 => if ok = true then
    te (some u::some v::σ) H4 (fun y H5=>H5 D=some (.lst ys)/\ys.length<u8/\∃m',m'<m/\W (i+1) m' (ys++[y]) (upd H5 D (.lst (ys++[y]))))
    else ∃m',m'<m/\W (i+1) m' ys H4))
section
variable {x x2:Str}{px py2 pt:Pos}{kt}
theorem b7x{s3:l4}{h4:Heap}{tk:Nat}(hc:a3v X.N X.env.scope scope x x2)(I:Inv X pins σ H s3)
  (hcl:∀y c,cl.lookup y=some c->X.env.cells.lookup y=some c) (hcl2:∀y,(y,NameKind.free)∈scope.names->(cl.lookup y).isSome=true)
  (fpo:∀b∈fp,a4K X pins H b) (fpl:∀b∈fp,b<s3.heap.objs.size)
  (hn:h4.Ns s3.heap.objs.size (fun _=>none)) (k:∀b o,s3.heap.get? b=some o->h4.get? b=some o) :
  Inv (S8 X scope cl s3.heap.objs.size x x2 fp s3 H) [] (none::none::σ) H { s3 with heap:=h4,toks:=tk }:=by
 have low:∀x y,(S8 X scope cl s3.heap.objs.size x x2 fp s3 H).env.cells.lookup y=cl.lookup y:=fun _ _=>rfl
 have below:∀y c,cl.lookup y=some c->c<s3.heap.objs.size:=fun y c e=>by
  obtain⟨v,q⟩:=I.cell y c (hcl y c e)
  exact q.lt
 have kinds:∀y,((S8 X scope cl s3.heap.objs.size x x2 fp s3 H).env.kindOf y=some .cell\/(S8 X scope cl s3.heap.objs.size x x2 fp s3 H).env.kindOf y=some .free)->scope.names.lookup y=some .free:=by
  intro y hy
  rcases hy with hy | hy
  ·rcases O4 hy with q | ⟨q,_⟩
   ·exact absurd rfl (hc.cell _ (D9 q))
   ·exact q
  ·rcases O4 hy with q | ⟨q,z⟩
   ·exact q
   ·cases z
 refine⟨⟨I.ok.mod,?_,I.ok.glob,I.ok.blt,i9 _,fun y z c h1 h2=>?_,fun y hy=>?_,fun y c h=>?_,I.ok.hd,I.ok.frames,.inl rfl,fun b hb=>⟨?_,fun y c e z=>?_⟩,fun b o e=>I.bs b o e,I0 I.ok.bsz I.sz,fun b o e hb=>?_,fun b hb hf=>?_,I.stack,I.stkFree⟩,
  rfl,I.bare,Un.kept k,⟨_,hn,fun i y v h1 h2 h3=>?_⟩,fun y c e=>?_,I.fresh,fun y c e=>?_,fun p hp=>absurd (show p∈([]:List (Addr×Obj))from hp) (by simp),I.hok.kept k,?_⟩
 ·exact hc.kind
 ·exact I.ok.inj y z c (hcl _ _ h1) (hcl _ _ h2)
 ·have:=hcl2 y (D9 (kinds y hy))
  exact W6.mp this
 ·cases h
 ·exact B0 (fpl b hb)
 ·exact(fpo b hb).2.2.2.2.1 y c (hcl y c e) z
 ·rcases(fpo b hb).2.2.2.1 with q | q
  ·exact I.ok.noex b o e q
  ·exact absurd (D4 (o6 (I.ok.bs b o e).1) q) (L1 _)
 ·rcases p8.mp (I.stkSub b hf)with e | e
  ·exact(fpo b hb).2.1 e
  ·exact(fpo b hb).2.2.1 e
 ·-- the names
  have h1:(x::x2::b1K x x2 X.N)[i]? = some y:=h1
  cases i with
  | zero=>cases h2
  | succ i=>
   cases i with
   | zero=>cases h2
   | succ i=>
   have h1:(b1K x x2 X.N)[i]? = some y:=h1
   have h2:σ[i]? = some (some v):=h2
   have my:y∈b1K x x2 X.N:=a0f h1
   have h3:(a6j scope X.env).names.lookup y=some .local\/(a6j scope X.env).names.lookup y=some .cell\/(a6j scope X.env).names.lookup y=some .free:=h3
   have hf:scope.names.lookup y=some .free:=by
    rcases h3 with q | q
    ·rcases O4 q with q | ⟨_,z⟩
     ·exact absurd q (hc.see y my)
     ·cases z
    ·exact kinds y q
   have hy:X.N[i]? = some y:=by
    unfold b1K at h1
    rw[d4]at h1
    cases e:X.N[i]? with
    | none=>rw[e]at h1;cases h1
    | some z=>
     rw[e]at h1
     by_cases ez:z=x
     ·rw[a4r,if_pos ez]at h1
      have h1:=Option.some.inj h1
      subst h1
      rw[hc.dot]at hf
      cases hf
     ·rw[a4r,if_neg ez]at h1
      by_cases ez2:z=x2
      ·rw[if_pos ez2]at h1
       have h1:=Option.some.inj h1
       subst h1
       rw[hc.dot2]at hf
       cases hf
      ·rw[if_neg ez2]at h1
       exact h1
   obtain⟨m,_,hl⟩:=I.loc
   obtain⟨c,hcc⟩:=W6.mp (hcl2 y (D9 hf))
   have vis:Vis X.env.scope y:=by
    rcases hc.fr _ (D9 hf) rfl with q | q
    ·exact .inr (.inl q)
    ·exact .inr (.inr q)
   obtain⟨u,ru,lk⟩:=hl i y v hy h2 vis
   refine⟨u,ru,.inr ⟨?_,c,hcc,?_⟩⟩
   ·rcases h3 with q | q
    ·rcases O4 q with q | ⟨_,z⟩
     ·exact absurd q (hc.see y my)
     ·cases z
    ·exact q
   ·have hce:=hcl y c hcc
    rcases lk with ⟨q,_⟩ | ⟨_,c',e',z⟩
    ·rcases hc.fr _ (D9 hf) rfl with q' | q'
     ·have q:X.env.scope.names.lookup y=some .local:=q
      rw[show X.env.scope.names.lookup y=some NameKind.cell from q']at q
      cases q
     ·have q:X.env.scope.names.lookup y=some .local:=q
      rw[show X.env.scope.names.lookup y=some NameKind.free from q']at q
      cases q
    ·rw[e']at hce
     cases hce
     obtain⟨o,ho,hd⟩:=z
     exact⟨o,k _ _ ho,hd⟩
 ·obtain⟨v,o,ho,hd⟩:=I.cell y c (hcl y c e)
  exact⟨v,o,k _ _ ho,hd⟩
 ·exact I.freeC y c (hcl y c e)
 ·show(none::none::σ).length=(x::x2::b1K x x2 X.N).length
  have:=I.len
  simp[b1K,this]
theorem b3o{H1:Hp}{s2:l4}{it:Addr}{tn:Nat->Heap->Prop}{J:It}{Q:VK}{E:Value->l4->Prop}
  {RR:Value->Addr->b5r->l4->Prop} (hc:a3v X.N X.env.scope scope x x2) (hcalm:X.calm=true)
  (hcl:∀y c,cl.lookup y=some c->X.env.cells.lookup y=some c) (hcl2:∀y,(y,NameKind.free)∈scope.names->(cl.lookup y).isSome=true)
  (ht:∀C fp s3 H3,PTs (S8 X scope cl C x x2 fp s3 H3) ifs tt) (he:∀C fp s3 H3,PE (S8 X scope cl C x x2 fp s3 H3) elt te)
  (I:Inv X pins σ H1 s2) (T:b1Z X.prog X.w X.K (.Tuple [.Name x px,.Name x2 py2] kt pt) J fp it tn) (st:tn 0 s2.heap) (fpo:∀b∈fp,a4K X pins H1 b)
  (h:∀D,H1 D=none->∃W:Nat->Nat->List V->Hp->Prop,
   (∃m,W 0 m [] (upd H1 D (.lst [])))/\∀i m ys H2,W i m ys H2->H2 D=some (.lst ys) /\
   ((J.stop i H2 /\ Q (.ref D) H2) \/ (J.go i H2 /\ ∀ x H3,J.yld i H2 x H3 -> ∃ a u v,x = .ref a /\ SqT X.K H3 a [u,v] /\ tt (some u :: some v :: σ) H3 fun ok H4 => if ok = true then
     te (some u::some v::σ) H4 (fun y H5=>H5 D=some (.lst ys)/\ys.length<u8/\∃m',m'<m/\W (i+1) m' (ys++[y]) (upd H5 D (.lst (ys++[y]))))
     else ∃m',m'<m/\W (i+1) m' ys H4)))
  (hRR:∀D C s' H' m,Inv X pins σ H' s'->s'.heap.Ns C m->H' C=none->C≠X.env.locals->X.s₀.heap.objs.size<=C->(∀y c,X.env.cells.lookup y=some c->c≠C)->(∀p∈X.pn++pins,p.1≠C)->Q (.ref D) H'->RR (.ref D) C (.ok .next) s') :
  wpAny (model X.prog X.w) X.A (newList []) (fun acc s₃=>wpAny (model X.prog X.w) X.A (newFunctionEnv scope X.env.globals cl [] X.env.qual none .none (some X.env)) (fun cenv s₄=>
   a2T (model X.prog X.w) X.A (.compStart (.ListComp elt [⟨.Tuple [.Name x px,.Name x2 py2] kt pt,iter,ifs,0⟩] scope pos) 0 (.ref it) acc { cenv with scope:=a6j scope X.env }) (RR acc cenv.locals) s₄) E s₃) E s2:=by
 refine R9 (hd:=by size_fits) ?_
 have I3:=I.lnew (ys:=[]) (its:=[]) (t':=s2.toks) .nil (by show 0<=u8;exact K0 _)
 obtain⟨W,⟨m0,w0⟩,turn⟩:=h _ I.fresh
 generalize hD:s2.heap.objs.size=D at I3 w0 turn ⊢
 generalize hs3:({ s2 with heap:=s2.heap.push { cls:=.type "list",data:=.seq ([]:List Value).toArray } }:l4)=s3
 have hs3':({ s2 with heap:=s2.heap.push { cls:=.type "list",data:=.seq ([]:List Value).toArray },toks:=s2.toks }:l4)=s3:=hs3
 rw[hs3']at I3
 have keep3:∀b o,s2.heap.get? b=some o->s3.heap.get? b=some o:=fun b o e=>by rw[<-hs3];exact g9 _ e
 have fpl:∀b∈fp,b<s3.heap.objs.size:=fun b hb=>by
  obtain⟨o,e,_⟩:=T.obj _ _ st b hb
  exact o6 (keep3 b o e)
 have fpD:∀b∈fp,b≠D:=fun b hb z=>by
  obtain⟨o,e,_⟩:=T.obj _ _ st b hb
  exact absurd (o6 e) (by rw[z,hD];exact L1 _)
 have fpo3:∀b∈fp,a4K X pins (upd H1 D (.lst [])) b:=fun b hb=>⟨by rw[d6 (fpD b hb)];exact(fpo b hb).1,(fpo b hb).2⟩
 show wpAny _ _ _ _ _ s3
 refine c7u hc.cell (by intro y hy;simp at hy) (fun h₁ hns₁ hsb₁=>?_) hc.kind
 dsimp only[newEnv]at hns₁ hsb₁ ⊢
 have keep4:∀b o,s3.heap.get? b=some o->h₁.get? b=some o:=fun b o e=>hsb₁.extBut b o (B0 (o6 e)) (g9 _ e)
 have I4:=b7x (tk:=s3.toks+([]:List (Str×Value)).length) hc I3 hcl hcl2 fpo3 fpl hns₁ keep4
 have st4:tn 0 h₁:=T.keep _ _ _ st fun b hb o e=>keep4 b o (keep3 b o e)
 have loop:∀s₄:l4,s₄={ s3 with heap:=h₁,toks:=s3.toks+([]:List (Str×Value)).length } ->
   a2T (model X.prog X.w) X.A (.compLoop (.ListComp elt [⟨.Tuple [.Name x px,.Name x2 py2] kt pt,iter,ifs,0⟩] scope pos) 0 (.ref it) (.ref D) (b7S scope cl s3.heap.objs.size X.env)) (RR (.ref D) s3.heap.objs.size) s₄:=by
  rintro s₄ rfl
  have stat:∀ {H':Hp},(∀b∈fp,H' b=none)->∀b∈fp,a4K (S8 X scope cl s3.heap.objs.size x x2 fp s3 (upd H1 D (.lst []))) [] H' b:=fun hn b hb=>
   ⟨hn b hb,B0 (fpl b hb),fun hf=>by
    rcases p8.mp (I3.stkSub b hf)with e | e
    ·exact(fpo b hb).2.1 e
    ·exact(fpo b hb).2.2.1 e,.inl hb,fun y c e=>(fpo b hb).2.2.2.2.1 y c (hcl y c e),fun p hp=>absurd (show p∈([]:List (Addr×Obj))from hp) (by simp)⟩
  refine b0m (env:=b7S scope cl s3.heap.objs.size X.env) (fun n s'=>∃i ys H',Inv (S8 X scope cl s3.heap.objs.size x x2 fp s3 (upd H1 D (.lst []))) [] (none::none::σ) H' s'/\tn i s'.heap/\(∀b∈fp,H' b=none)/\W i n ys H') ?_ m0
   ⟨0,[],_,I4,st4,fun b hb=>(fpo3 b hb).1,w0⟩
  rintro n s5 ⟨i,ys,H5,I5,st5,fr5,w5⟩
  obtain⟨hDy,alt⟩:=turn i n ys H5 w5
  rcases alt with ⟨stop,q⟩ | ⟨go,step⟩
  ·refine X8 (T.done (S8 X scope cl s3.heap.objs.size x x2 fp s3 (upd H1 D (.lst []))) rfl rfl rfl hcalm i [] s5 _ H5 (fun _ _=>False) I5 (stat fr5) st5 stop) (fun r s6 ⟨hr,I6⟩=>?_) fun _ _ f=>f
   subst hr
   obtain⟨m6,n6,_⟩:=I6.loc
   have J6:Inv X pins σ H5 s6:=by
    refine I3.call' (ch:=fp) I6.os I6.base I6.hok I6.bare fun b hb=>?_
    obtain⟨_,f1,f2,f3,f4,f5⟩:=fpo3 b hb
    exact⟨f3,f1,f4,f5⟩
   refine hRR D _ s6 H5 m6 J6 n6 I6.free (a4O I3.lt) I3.sz (fun y c e z=>?_) (fun p hp z=>?_) q
   ·obtain⟨v,q⟩:=I3.cell y c e
    exact absurd q.lt (by rw[z];exact L1 _)
   ·exact absurd (o6 (I3.pin p hp).1) (by rw[z];exact L1 _)
  ·refine X8 (T.item (S8 X scope cl s3.heap.objs.size x x2 fp s3 (upd H1 D (.lst []))) rfl rfl rfl hcalm i [] s5 _ H5 (fun _ _=>False) I5 (stat fr5) st5 go) (fun r s6 ⟨u,hr,h6⟩=>?_) fun _ _ f=>f
   subst hr
   refine thn h6 fun _ s6 ⟨xv,H6,I6,r6,y6,st6,fr6⟩=>?_
   have I6':=I6.pinned (stat fr6) (T.obj _ _ st6)
   obtain⟨pa,u1,u2,rfl,hsq,step⟩:=step xv H6 y6
   have hpg:PG (S8 X scope cl s3.heap.objs.size x x2 fp s3 (upd H1 D (.lst []))) (.Tuple [.Name x px,.Name x2 py2] kt pt) (a9E X.K 2 (a0k (v5 0) (a0k (v5 1) a9F))):=
    b9H (X:=S8 X scope cl s3.heap.objs.size x x2 fp s3 (upd H1 D (.lst []))) hcalm (a8I (b1m (i:=0) hc.nd rfl (.inl (a0Q hc.own)) (.inr (a0Q hc.own))) (a8I (b1m (i:=1) hc.nd rfl (.inl (a0Q hc.own2)) (.inr (a0Q hc.own2))) b5S))
   refine thn (hpg _ s6 (none::none::σ) H6 (.ref pa) u (fun σ' H'=>σ'=some u1::some u2::σ/\H'=H6) I6' r6 ⟨pa,[u1,u2],rfl,hsq,rfl,_,_,rfl,_,_,rfl,rfl,rfl,rfl⟩) fun _ s7 ⟨σ7,H7,I7,e7,e7'⟩=>?_
   subst e7 e7'
   have again:∀ {s8:l4} {H8:Hp} {ys8:List V},Inv (S8 X scope cl s3.heap.objs.size x x2 fp s3 (upd H1 D (.lst []))) ([]++a5f fp s6.heap) (some u1::some u2::σ) H8 s8->(∃m',m'<n/\W (i+1) m' ys8 H8) ->
     ∃m,m<n/\∃i ys H',Inv (S8 X scope cl s3.heap.objs.size x x2 fp s3 (upd H1 D (.lst []))) [] (none::none::σ) H' s8/\tn i s8.heap/\(∀b∈fp,H' b=none)/\W i m ys H':=by
    rintro s8 H8 ys8 I8 ⟨m',hm,w8⟩
    refine⟨m',hm,i+1,ys8,H8,(I8.unpinned (pins:=[])).weak rfl (fun j v e=>?_),T.keep _ _ _ st6 fun b hb o e=>(I8.pin (b,o) (C2 _ (C2 _ (a0W hb e)))).1,fun b hb=>?_,w8⟩
    ·cases j with
     | zero=>cases e
     | succ j=>
      cases j with
      | zero=>cases e
      | succ j=>exact e
    ·obtain⟨o,e,d⟩:=T.obj _ _ st6 b hb
     exact(I8.pin (b,o) (C2 _ (C2 _ (a0W hb e)))).2.1
   refine thn (ht _ fp s3 _ _ s7 _ _ _ I7 step) (fun ok s8 ⟨H8,I8,q8⟩=>?_)
   cases ok with
   | false=>exact again I8 (by simpa using q8)
   | true=>
    rw[if_pos rfl]at q8
    rw[if_pos rfl]
    refine thn (he _ fp s3 _ _ s8 _ H8 _ I8 q8) (fun v s9 ⟨y,H9,I9,r9,hD9,hz9,w9⟩=>?_)
    refine X8 (a6G (X:=S8 X scope cl s3.heap.objs.size x x2 fp s3 (upd H1 D (.lst []))) _ s9 _ H9 (.ref D) [y] (.ref D) [v] (fun _ H'=>H'=upd H9 D (.lst (ys++[y]))) I9 rfl (.cons r9 .nil) ⟨D,ys,y,rfl,rfl,hD9,hz9,rfl⟩) (fun _ s10 ⟨_,H10,I10,_,e10⟩=>?_) fun _ _ f=>f
    subst e10
    exact again I10 w9
 exact c6h (loop _ rfl) (T.self X.A 0 _ _ _ st4 (loop _ rfl))
theorem b3n(hc:a3v X.N X.env.scope scope x x2)(I:Inv X pins σ H s):∀y∈scope.names,y.2=.free->∃c,X.env.cells.lookup y.1=some c:=by
 intro y hy e
 rcases hc.fr y hy e with q | q
 ·exact I.ok.has y.1 (.inl q)
 ·exact I.ok.has y.1 (.inr q)
theorem b9M{wi:TI}(hc:a3v X.N X.env.scope scope x x2)(hcalm:X.calm=true)(hi:PI X (.Tuple [.Name x px,.Name x2 py2] kt pt) iter wi)
  (ht:∀cl C fp s3 H3,PTs (S8 X scope cl C x x2 fp s3 H3) ifs tt) (he:∀cl C fp s3 H3,PE (S8 X scope cl C x x2 fp s3 H3) elt te)
  (hs:∀x,P6 iter X.env x=pure x:=by intro _;rfl) :
  PE X (.ListComp elt [⟨.Tuple [.Name x px,.Name x2 py2] kt pt,iter,ifs,0⟩] scope pos) (a8n X.K wi tt te):=by
 intro pins s σ H Q I h
 obtain⟨cl,hclos,hcl,hcl2⟩:=a5n (b3n hc I)
 rw[eval_ListComp]
 refine a5t (use:=none) rfl hs hclos hc.kind hc.names (thn (hi pins s σ H _ I h) fun v s1 h1=>thn h1 fun itv s2 ⟨it,fp,tn,J,H2,e,I2,T,st,fpo,R⟩=>?_)
 subst e
 refine b3o (RR:=fun acc C=>compPost (model X.prog X.w) X.A X.xe none (EP X pins σ Q) acc C) (Q:=Q) hc hcalm hcl hcl2 (ht cl) (he cl) I2 T st fpo R ?_
 intro D C s' H' m I' n f1 f2 f3 f4 f5 q
 exact⟨m,n,fun h' sb=>⟨.ref D,H',I'.turned (t':=s'.toks) (fun b o hb e=>(sb.2 b hb).trans e) f1 f2 (.inr f3) f4 f5,rfl,q⟩⟩
end
section
variable {x x2:Str}{px py2 pt:Pos}{kt:Nat}
end
section
def b9t:List V->Hp->VK->Prop:=fun xs H Q=>match xs with
 | [.int i,.int j]=>Q (.int (if j<i then j else i)) H
 | _=>False
theorem b7B(hc:X.calm=true):V6 X (.builtin "min") b9t:=(b7I hc).imp fun xs H Q h=>by
 unfold b9t at h
 split at h
 ·exact⟨_,_,rfl,h⟩
 ·exact h.elim
theorem b7K:∀bs:List Bool,((M0 bs.length).any fun i=>(bs[i]?).getD false)=bs.any id:=by
 intro bs
 induction bs with
 | nil=>rfl
 | cons b r ih=>
  rw[C1,List.range_succ_eq_map,Z6,List.any_map,Z6]
  rw[<-ih]
  rfl
def b4r:List V->Hp->VK->Prop:=fun vs H Q=>match vs with
 | [.ref l]=>match H l with
  | some (.lst xs)=>∃bs,V5 xs=some bs/\Q (.bl (bs.any id)) H
  | _=>False
 | _=>False
theorem b7F(hc:X.calm=true):V6 X (.builtin "any") b4r:=fun pins s σ H xs us Q I r h=>by
 unfold b4r at h
 split at h
 ·split at h
  ·rename_i l _ ys hl
   obtain⟨bs,e,q⟩:=h
   obtain⟨u,rfl,ru⟩:=a3U r
   cases ru
   obtain⟨its,rv,pl,hz⟩:=I.list (SqL.of hl)
   have hlt:l<s.heap.objs.size:=by obtain⟨_,e,_⟩:=pl.isList;exact o6 e
   have hlen:=rv.length
   have hbl:=a6M e
   refine call_any_walk (b3J pl.isList ?_)
   refine⟨s.heap.objs.size,[s.heap.objs.size,l],[s.heap.objs.size],its.toArray.size,_,_,fun i=>(bs[i]?).getD false,rfl,Walks.list (A:=X.A.in1) (I.ok.hd hc) _ l (B0 hlt) its.toArray,
    ⟨⟨_,C3 _ rfl,rfl,rfl⟩,pl.isList.push _⟩,fun i v s' Q' E' hP hQ=>?_,fun h' tk hk=>?_⟩
   ·have hP:its[i]? = some v:=by simpa using hP
    have hi:i<ys.length:=by rw[hlen];exact(u7.mp hP).1
    have ey:ys[i]? = some ys[i]:=by simp[hi]
    obtain⟨b,eb,ez⟩:=a6N e ey
    obtain⟨u,eu,ru⟩:=rv.get ey
    rw[hP]at eu
    cases eu
    rw[ez]at ru
    cases ru
    simp only[eb,a3F]at hQ
    exact L5 hQ
   ·have e2:((M0 its.toArray.size).any fun i=>(bs[i]?).getD false)=bs.any id:=by
     rw[o9,<-hlen,hbl]
     exact b7K bs
    rw[e2]
    exact⟨.bl _,H,I.kept (t':=tk) fun b x e=>hk b x (fun hm=>by rw[v9.mp hm]at e;exact L1 _ (o6 e)) (g9 _ e),rfl,q⟩
  ·exact h.elim
 ·exact h.elim
def a1t:List V->Option (List Int)
 | []=>some []
 | .int i::r=>(a1t r).map (i :: ·)
 | _=>none
theorem a8W(ns:List Int):a1t (ns.map V.int)=some ns:=by
 induction ns with
 | nil=>rfl
 | cons s r ih=>simp[a1t,ih]
theorem a4l:∀ {xs:List V} {us:List Value} {ss:List Int},G6 xs us->a1t xs=some ss->c3L us ss
 | _,_,ss,.nil,e=>by cases e;exact .nil
 | x::xs,_,ss,.cons r t,e=>by
  cases x with
  | int s=>
   obtain⟨k,rfl⟩:=r
   cases e2:a1t xs with
   | none=>simp[a1t,e2]at e
   | some ss2=>
    simp[a1t,e2]at e
    subst e
    exact .cons _ _ (a4l t e2)
  | _=>simp[a1t]at e
def a4D:List V->Hp->VK->Prop:=fun vs H Q=>match vs with
 | [.ref l]=>match H l with
  | some (.lst xs)=>∃ns,a1t xs=some ns/\ns.length<64/\∀(p:Addr) (ms:List Int),ms.Perm ns->ms.Pairwise (· <= ·)->H p=none->Q (.ref p) (upd H p (.lst (ms.map V.int)))
  | _=>False
 | _=>False
theorem b1R:V6 X (.builtin "sorted") a4D:=fun pins s σ H xs us Q I r h=>by
 unfold a4D at h
 split at h
 ·split at h
  ·rename_i l _ ys hl
   obtain⟨ns,e,hn,q⟩:=h
   obtain⟨u,rfl,ru⟩:=a3U r
   cases ru
   obtain⟨its,rv,pl,hz⟩:=I.list (SqL.of hl)
   have hi:=a4l rv e
   have hil:=hi.length
   refine sorted_ints pl.isList hi (by omega) fun out ns' a1 a2 a3=>?_
   obtain⟨c,he⟩:=sortedAll_at s.heap its out
   have hl':=a2.length_eq
   refine⟨.ref _,_,I.laid (t':=s.toks) (a:=s.heap.objs.size+1) (o:=.lst (ns'.map V.int)) (fun b ob q=>sortedAll_old q) (U4 _) ?_,rfl,q _ ns' a2 a3 (I.hok.fresh (U4 _))⟩
   refine⟨by rw[c7,sizeLine_eq];omega,out.toList,c,a6m a1,?_⟩
   exact he
  ·exact h.elim
 ·exact h.elim
def a6y:V->List V->Hp->VK->Prop:=fun x vs H Q=>match x,vs with
 | .ref l,[.int k]=>match H l with
  | some (.lst xs)=>∃ns,a1t xs=some ns/\ns.length<10000/\k∈ns/\Q (.int (ns.idxOf k:Nat)) H
  | _=>False
 | _,_=>False
theorem b7e:MtR X "list.index" a6y:=fun pins s σ H x xs v us Q I rx rv h=>by
 unfold a6y at h
 split at h
 ·split at h
  ·rename_i l k _ ys hl
   obtain⟨ns,e,hn,hk,q⟩:=h
   cases rx
   obtain⟨u,rfl,⟨t,rfl⟩⟩:=rv.one
   obtain⟨its,r,pl,hz⟩:=I.list (SqL.of hl)
   have hi:=a4l r e
   obtain⟨⟨cls,dd,data,sl⟩,ho,hc,n,hd⟩:=id pl.isList
   simp only at hc hd
   subst hc hd
   have hlen:=hi.length
   have hj:ns.idxOf k<ns.length:=b3G.mpr hk
   refine a5u b2k ⟨_,ho,rfl⟩ PySem.F.entry_list_index (PySem.F.args_list_index_2 _ _)
    (PySem.SeqAt.list_indexAt l its.toArray n dd sl (.int k t) (isInt k) (ns.idxOf k) (by simpa[hlen]using hj) (by omega) ?_ ?_) ⟨ho,fun y hy=>(eq_isInt k t hi y (by simpa using hy)).at _ _,⟨.int _,H,I.tok _,⟨_,rfl⟩,q⟩⟩
   ·show isInt k its[ns.idxOf k]=true
    rw[isInt_at k hi _ (by omega) hj]
    simpa using List.getElem_idxOf hj
   ·intro j hjs hlt
    show isInt k its[j]=false
    rw[isInt_at k hi j (by simpa using hjs) (by omega)]
    exact ne_of_lt_idxOf hlt _
  ·exact h.elim
 ·exact h.elim
def a3l:V->List V->Hp->VK->Prop:=fun x vs H Q=>match x,vs with
 | .ref l,[.ref b]=>match H l,H b with
  | some (.lst xs),some (.lst zs)=>xs.length+zs.length<=u8/\Q .non (upd H l (.lst (xs++zs)))
  | _,_=>False
 | _,_=>False
theorem b4I:MtR X "list.extend" a3l:=fun pins s σ H x xs v us Q I rx rv h=>by
 refine b7g pins s σ H x xs v us Q I rx rv ?_
 unfold a3l at h
 split at h
 ·split at h
  ·exact⟨_,_,_,_,rfl,rfl,by assumption,by assumption,h.1,h.2⟩
  ·exact h.elim
 ·exact h.elim
def b4q:V->List V->Hp->VK->Prop:=fun x vs H Q=>match x,vs with
 | .ref l,[]=>match H l with
  | some (.lst xs)=>∃y,xs[xs.length - 1]? = some y/\Q y (upd H l (.lst xs.dropLast))
  | _=>False
 | _,_=>False
theorem c2t:MtR X "list.pop" b4q:=fun pins s σ H x xs v us Q I rx rv h=>by
 refine c5t pins s σ H x xs v us Q I rx rv ?_
 unfold b4q at h
 split at h
 ·split at h
  ·obtain⟨y,e,q⟩:=h
   exact⟨_,_,y,rfl,rfl,by assumption,e,q⟩
  ·exact h.elim
 ·exact h.elim
def a5e:V->List V->Hp->VK->Prop:=fun x vs H Q=>match x,vs with
 | .ref l,[]=>match H l with
  | some (.lst _)=>Q .non (upd H l (.lst []))
  | _=>False
 | _,_=>False
theorem b7f:MtR X "list.clear" a5e:=fun pins s σ H x xs v us Q I rx rv h=>by
 refine c0k pins s σ H x xs v us Q I rx rv ?_
 unfold a5e at h
 split at h
 ·split at h
  ·exact⟨_,_,rfl,rfl,by assumption,h⟩
  ·exact h.elim
 ·exact h.elim
def a6x:List V->Hp->VK->Prop:=fun xs H Q=>match xs with
 | [.ref p]=>match H p with
  | some (.dK kvs)=>∀l,H l=none->Q (.ref l) (upd H l (.lst (kvs.map fun kv=>kV kv.1)))
  | _=>False
 | _=>False
theorem c3z{P:D6}{k:Key}(r:(O9 P w).is k u=true):F1 (kV k) u:=by
 rcases T2 (show a8U k u=true from r)with ⟨i,t,rfl,rfl⟩ | ⟨x,t,rfl,rfl⟩
 ·exact⟨t,rfl⟩
 ·exact⟨t,rfl⟩
theorem b5s:∀ {xs:List V} {us:List Value},xs.length=us.length->(∀(i:Nat) x u,xs[i]? = some x->us[i]? = some u->F1 x u)->G6 xs us
 | [],[],_,_=>.nil
 | x::xs,u::us,hl,h=>.cons (h 0 x u rfl rfl) (b5s (by simpa using hl) fun i y v a b=>h (i+1) y v (by simpa using a) (by simpa using b))
 | [],u::us,hl,_=>by cases hl
 | x::xs,[],hl,_=>by cases hl
theorem c0p:∀ {l:List (Key×V)} {la:List (Key×Value)} {i:Nat} {k:Key} {x:Value},KV l la->la[i]? = some (k,x)->∃y,l[i]? = some (k,y)
 | p::l,q::la,0,k,x,h,e=>by
  have h:Paired _ _ _:=h
  cases h with
  | cons h t=>
   cases e
   exact⟨p.2,by rw[b5n];rw[show k=p.1 from h.1.symm]⟩
 | p::l,q::la,i+1,k,x,h,e=>by
  have h:Paired _ _ _:=h
  cases h with
  | cons h t => 
   obtain⟨y,hy⟩:=c0p (i:=i) (show KV l la from t) (by simpa using e)
   exact⟨y,by simpa using hy⟩
 | [],la,i,k,x,h,e=>by
  have h:Paired _ _ _:=h
  cases h
  cases e
 | p::l,[],i,k,x,h,e=>by
  have h:Paired _ _ _:=h
  cases h
theorem b3v(hc:X.calm=true):V6 X (.type "list") a6x:=fun pins s σ H xs us Q I r h=>by
 unfold a6x at h
 split at h
 ·split at h
  ·rename_i p _ kvs hp
   obtain⟨u,rfl,ru⟩:=a3U r
   cases ru
   obtain⟨hz,hS,vs,rk,hD⟩:=a8Z I.hok hp
   obtain⟨ep,hat⟩:=hD.dictAt
   have hl:=Paired.length rk
   refine PySem.W.kdl_call (PySem.W.kdl_dict (knd:=O9 X.prog X.w) (kvs:=vs) (ep:=ep) hS) (I.ok.hd hc) hat (by omega) fun h' tk acc c hk ha hit=>?_
   refine⟨.ref _,_,I.laid (t':=tk) (a:=s.heap.objs.size) (o:=.lst (kvs.map fun kv=>kV kv.1)) hk (i9 _) ?_,rfl,h _ (I.hok.fresh (i9 _))⟩
   refine⟨by rw[c7];exact hz,acc.toList,c,?_,by simpa using ha⟩
   refine b5s (by have:=hit.1;rw[c7];simp;omega) fun i x u a b=>?_
   obtain⟨k,y,e1,e2⟩:=hit.2 i u (by rw[<-V0];exact b)
   obtain⟨z,e3⟩:=c0p rk e1
   rw[d4,e3]at a
   cases a
   exact c3z e2
  ·exact h.elim
 ·exact h.elim
inductive Dq(K:Fg)(H:Hp):Nat->V->V->Prop
 | flat {n:Nat} {x:V}:Q0 x=true->Dq K H n x x
 | tup {n:Nat} {a b:Addr} {xs ys:List V}:SqT K H a xs->SqT K H b ys->xs.length=ys.length->(∀(j:Nat) x y,xs[j]? = some x->ys[j]? = some y->Dq K H n x y)->Dq K H (n+1) (.ref a) (.ref b)
 | lst {n:Nat} {a b:Addr} {xs ys:List V}:SqL K H a xs->SqL K H b ys->xs.length=ys.length->(∀(j:Nat) x y,xs[j]? = some x->ys[j]? = some y->Dq K H n x y)->Dq K H (n+1) (.ref a) (.ref b)
theorem c0z{x:V}(h:Q0 x=true):eqV x x=true:=by
 cases x with
 | non=>rfl
 | bl b=>simp[eqV]
 | int i=>simp[eqV]
 | str s=>simp[eqV]
 | byt b=>cases h
 | flt b=>cases h
 | ref a=>cases h
 | ty n=>cases h
theorem a6c{n:Nat}:(M0 n).all (fun _=>true)=true:=by simp
theorem Dq.both(I:Inv X pins σ H s){n:Nat}{x y:V}(d:Dq X.K H n x y):∀ {A:K7} {v u:Value},A.units+n<cLine->F1 x v->F1 y u ->
  SeqAt.EqAt A s v u true/\(∀a b,x=.ref a->y=.ref b->SeqAt.RcAt A s v u true/\SeqAt.RcNeAt A s v u false):=by
 induction d with
 | @flat n x hf=>
  intro A v u hu rv ru
  refine⟨?_,fun a b e=>by subst e;cases hf⟩
  have:=b1L (A:=A) (s:=s) rv ru hf hf
  rwa [c0z hf]at this
 | @tup n a b xs ys ha hb hl hq ih=>
  intro A v u hu rv ru
  cases rv
  cases ru
  obtain⟨us,r1,t1,_⟩:=I.tuple ha
  obtain⟨ws,r2,t2,_⟩:=I.tuple hb
  have l1:=r1.length
  have l2:=r2.length
  have el:∀j (h1:j<us.toArray.size) (h2:j<ws.toArray.size),SeqAt.EqAt A.in1 s us.toArray[j] ws.toArray[j] true:=by
   intro j h1 h2
   have h1':j<xs.length:=by simpa[l1]using h1
   have h2':j<ys.length:=by simpa[l2]using h2
   obtain⟨u1,e1,q1⟩:=r1.get (i:=j) (x:=xs[j]) (by simp)
   obtain⟨u2,e2,q2⟩:=r2.get (i:=j) (x:=ys[j]) (by simp)
   have z1:us.toArray[j]=u1:=by
    have:=(u7.mp e1).2
    simpa using this
   have z2:ws.toArray[j]=u2:=by
    have:=(u7.mp e2).2
    simpa using this
   rw[z1,z2]
   exact(ih j _ _ (by simp) (by simp) (A:=A.in1) (by show A.units+1+n<cLine;omega) q1 q2).1
  have c1:SeqAt.RcAt A s (.ref a) (.ref b) true:=by
   have q:=SeqAt.RcAt.tuples (A:=A) (e:=fun _=>true) t1 t2 (by omega) el
   have e:us.toArray.size=ws.toArray.size:=by simp[<-l1,<-l2,hl]
   rw[a6c,e,beq_self_eq_true]at q
   exact q
  have c2:SeqAt.RcNeAt A s (.ref a) (.ref b) false:=by
   have q:=SeqAt.RcNeAt.tuples (A:=A) (e:=fun _=>true) t1 t2 (by omega) el
   have e:us.toArray.size=ws.toArray.size:=by simp[<-l1,<-l2,hl]
   rw[a6c,e,beq_self_eq_true]at q
   exact q
  refine⟨?_,fun _ _ _ _=>⟨c1,c2⟩⟩
  by_cases e:a=b
  ·subst e;exact SeqAt.EqAt.same _
  ·exact SeqAt.EqAt.of_refs e c1
 | @lst n a b xs ys ha hb hl hq ih=>
  intro A v u hu rv ru
  cases rv
  cases ru
  obtain⟨us,r1,t1,_⟩:=I.list ha
  obtain⟨ws,r2,t2,_⟩:=I.list hb
  have l1:=r1.length
  have l2:=r2.length
  have el:∀j (h1:j<us.toArray.size) (h2:j<ws.toArray.size),SeqAt.EqAt A.in1 s us.toArray[j] ws.toArray[j] true:=by
   intro j h1 h2
   have h1':j<xs.length:=by simpa[l1]using h1
   have h2':j<ys.length:=by simpa[l2]using h2
   obtain⟨u1,e1,q1⟩:=r1.get (i:=j) (x:=xs[j]) (by simp)
   obtain⟨u2,e2,q2⟩:=r2.get (i:=j) (x:=ys[j]) (by simp)
   have z1:us.toArray[j]=u1:=by
    have:=(u7.mp e1).2
    simpa using this
   have z2:ws.toArray[j]=u2:=by
    have:=(u7.mp e2).2
    simpa using this
   rw[z1,z2]
   exact(ih j _ _ (by simp) (by simp) (A:=A.in1) (by show A.units+1+n<cLine;omega) q1 q2).1
  have e:us.toArray.size=ws.toArray.size:=by simp[<-l1,<-l2,hl]
  have c1:SeqAt.RcAt A s (.ref a) (.ref b) true:=by
   have q:=SeqAt.RcAt.lists (A:=A) (e:=fun _=>true) t1.isList t2.isList e (by omega) el
   rw[a6c]at q
   exact q
  have c2:SeqAt.RcNeAt A s (.ref a) (.ref b) false:=by
   have q:=SeqAt.RcNeAt.lists (A:=A) (e:=fun _=>true) t1.isList t2.isList e (by omega) el
   rw[a6c]at q
   exact q
  refine⟨?_,fun _ _ _ _=>⟨c1,c2⟩⟩
  by_cases e:a=b
  ·subst e;exact SeqAt.EqAt.same _
  ·exact SeqAt.EqAt.of_refs e c1
def c1z(K:Fg):R2:=fun x y H Q=>∃a b xs ys,x=.ref a/\y=.ref b/\SqT K H a xs/\SqT K H b ys/\xs.all Q0=true/\ys.all Q0=true/\Q (.bl (a0X xs ys)) H
theorem c2i{k:Nat}(hr:Q6 k X.A):OpR X (A3 .Eq) (c1z X.K):=by
 intro pins s σ H x y v u Q I rx ry ⟨a,b,xs,ys,e1,e2,ha,hb,fx,fy,q⟩
 have hu:=hr.units
 subst e1 e2
 cases rx
 cases ry
 obtain⟨us,r1,t1,_⟩:=I.tuple ha
 obtain⟨ws,r2,t2,_⟩:=I.tuple hb
 have l1:=r1.length
 have l2:=r2.length
 have q1:=SeqAt.RcAt.tuples (A:=X.A) t1 t2 (by omega) (a5V r1 r2 fx fy)
 simp only[o9,<-l1,<-l2]at q1
 exact q1 _ _ _ _ ⟨.bl (a0X xs ys),H,I,rfl,q⟩
def b9u(K:Fg):List V->Hp->VK->Prop:=fun vs H Q=>∃p xs,vs=[.ref p]/\SqT K H p xs/\Q (.int xs.length) H
theorem b5e:V6 X (.builtin "len") (b9u X.K):=a5W.imp fun xs H Q ⟨p,ys,e,h,q⟩=>⟨p,ys,e,.inr h,q⟩
def c4v(K:Fg):R2:=fun x y H Q=>∃p xs,y=.ref p/\SqT K H p xs/\Q0 x=true/\xs.all Q0=true/\Q (.bl (inV x xs)) H
theorem c2g:OpR X (A3 .In) (c4v X.K):=b0g.imp fun x y H Q ⟨p,xs,e,h1,h2,h3,q⟩=>⟨p,xs,e,.inr h1,h2,h3,q⟩
def a8G(K:Fg):R2:=fun x y H Q=>∃p i xs v,x=.ref p/\y=.int i/\SqT K H p xs/\atI xs i=some v/\Q v H
theorem c7j:IxR X (a8G X.K):=c0t.imp fun x y H Q ⟨p,i,xs,v,e1,e2,h,e,q⟩=>.inr (.inl ⟨p,xs,i,v,e1,e2,h,e,q⟩)
def b9v(K:Fg):List V->Hp->VK->Prop:=fun vs H Q=>∃p xs,vs=[.ref p,.ty "tuple"]/\SqT K H p xs/\Q (.bl true) H
theorem b5f:V6 X (.builtin "isinstance") (b9v X.K):=fun pins s σ H xs us Q I r h=>by
 obtain⟨p,ys,rfl,hp,q⟩:=h
 obtain⟨u,u2,rfl,ru,ru2⟩:=b8v r
 cases ru
 cases ru2
 obtain⟨its,rv,⟨o,h1,h2,_⟩,_⟩:=I.tuple hp
 exact L7 b7N I.kIn ⟨o,h1,h2⟩ (c0q X.K "tuple" (by decide) "tuple" (by decide)) (fun z=>nomatch z) fun tk=>⟨.bl true,H,I.tok _,rfl,q⟩
theorem b9C{e c:Option Expr}:PS X (.Raise e c pos) (fun _ _ _=>False):=fun _ _ _ _ _ _ h=>h.elim
structure b3y(P:D6)(w:World)(K:Fg)(mg:Str->Option Value)(base:Heap)(k:Nat)(x:Str)(C:Addr)(ps:List Str)(sp:Sp):Prop where
 ex:∃f fd,L9 P w K mg base CX0 k f fd ps sp/\mg x=some (.ref C)/\Mk K C f/\a3E K fd ps []
theorem c6W{k j:Nat}{x:Str}{C:Addr}{e:Expr}{es:List Expr}{t:TA}{p:Pos}(M:b3y X.prog X.w X.K X.mg X.base k x C ps sp)(hr:Q6 j X.A)(hk:k+1<=j)(hg:Gl X x)(ha:PA X (e::es) t)
  (hdb:(x == ("__debug__" : Str))=false:=by decide) (he:i8 (e::es) X.env=(false,eval e X.env)::i8 es X.env:=by rfl) (hpl:(Y0 pos (i8 es X.env)).any (·.1)=false:=by rfl) :
  PE X (.Call (.Name x p) (e::es) [] pos) (b0b C sp [] E0 t):=by
 obtain⟨f,fd,F,hm,hM,hb⟩:=M.ex
 exact c1R hM F (hr.mono hk) hg hm hb .nil b9Q ha hdb he hpl
structure a7R(P:D6)(w:World)(K:Fg)(mg:Str->Option Value)(base:Heap)(k:Nat)(m:Str)(C:Addr)(ps:List Str)(sp:Sp):Prop where
 ex:∃f fd,L9 P w K mg base CX0 k f fd ps sp/\Cls K C/\c5Y K C m f/\a3E K fd ps []
theorem c4Q{pl:Sem Bool}{k j:Nat}{m:Str}{C:Addr}{o e:Expr}{es:List Expr}{ta:TE}{t:TA}{apos:Pos}(M:a7R X.prog X.w X.K X.mg X.base k m C ps sp)(hr:Q6 j X.A)(hk:k<=j)(ho:PE X o ta)(ha:PA X (e::es) t)
  (hst:i8 (e::es) X.env=(false,eval e X.env)::i8 es X.env:=by rfl) (hpl:(Y0 pos (i8 es X.env)).any (·.1)=false:=by rfl)
  (ht:eval (.Call (.Attribute o m apos) (e::es) [] pos) X.env=(do
   let ov <-eval o X.env
   b8d apos.atName
   let(f,first) <-a3M [ov] (b8e ov m pl)
   callWith pos f first (Y0 pos (i8 (e::es) X.env)) (a9r pos (a2w [] X.env))):=by rfl) :
  PE X (.Call (.Attribute o m apos) (e::es) [] pos) (b0a C m sp [] E0 ta t):=by
 obtain⟨f,fd,F,c,hm,hb⟩:=M.ex
 exact c1Q (pl:=pl) ho c hm F (hr.mono hk) hb .nil b9Q ha hst hpl ht
end
theorem a5Q{env:Env}:∀ {names:List (Str×a4P)} {y:Str},names.lookup y=some .free ->
  (names.map fun(n,k)=>if(k == NameKind.free&&env.scope.kind == .function&&env.kindOf n == some .cell)then (n,NameKind.cell)else (n,k)).lookup y=some .cell \/
  (names.map fun(n,k)=>if(k == NameKind.free&&env.scope.kind == .function&&env.kindOf n == some .cell)then (n,NameKind.cell)else (n,k)).lookup y=some .free
 | [],_,h=>by cases h
 | (n,k0)::r,y,h=>by
  have ih := @a5Q env r y
  rw[J3]at h
  rw[F8]
  dsimp only
  cases hx:y == n with
  | true=>
   rw[hx]at h
   cases h
   by_cases hc:(NameKind.free == NameKind.free&&env.scope.kind == .function&&env.kindOf n == some .cell)=true
   ·rw[if_pos hc,J3,hx];exact .inl rfl
   ·rw[if_neg hc,J3,hx];exact .inr rfl
  | false=>
   rw[hx]at h
   by_cases hc:(k0 == NameKind.free&&env.scope.kind == .function&&env.kindOf n == some .cell)=true
   ·rw[if_pos hc,J3,hx];exact ih h
   ·rw[if_neg hc,J3,hx];exact ih h
theorem b5X{sc1 sc:Scope}(h:∀y∈sc.names,y.2=.free->sc1.names.lookup y.1=some .free):∀y∈sc.names,y.2=.free->(a6j sc1 env).names.lookup y.1=some .cell\/(a6j sc1 env).names.lookup y.1=some .free:=
 fun y hy e=>a5Q (h y hy e)
end L2
namespace PySem
open Sem (wp)
namespace F
end F
section
variable {prog:D6}{w:World}{A:K7}{E:Value->l4->Prop}{h:Heap}{g:Array GenState}{d:Drawn}{t:Nat}{os:OsState}{a:Addr}{xs:Array Value}{n:Nat}{sl:Array (Option Value)}
end
end PySem
namespace PySem
open Sem (wp)
namespace F
end F
section
variable {prog:D6}{w:World}{K:Type}[DecidableEq K]{knd:KeyKind prog w K}{A:K7}{s:l4}{R:b5r->l4->Prop}
end
section
variable {prog:D6}{w:World}{K:Type}[DecidableEq K]{knd:KeyKind prog w K}{A:K7}{E:Value->l4->Prop}{s:l4}
end
end PySem
namespace L2
open PySem PySem.Spec PyProof.Rows
section
variable {X:Cx}
end
section
variable {X:Cx}{tg:Expr}
end
section
variable {X:Cx}
end
section
variable {X:Cx}
end
structure IsC(K:Fg)(C:Addr):Prop where
 cl:Cls K C
 ha:F3 K (.ref C) "__class__" = some (some (.builtin "object.__class__"))
 hn:a6T K (.builtin "object.__class__") "__get__" = some (some (.builtin "getset_descriptor.__get__"))
 htk:c0X K (.builtin "object.__class__")=some true
 hm:c3D K C (.type "object")=some true
section
variable {P:D6}{w:World}{K:Type}[DecidableEq K]{knd:HeapKind P w K}{A:K7}{E:Value->l4->Prop}{s:l4}
end
section
variable {X:Cx}
end
end L2
namespace PySem
open Sem (wp)
section
variable {prog:D6}{w:World}{A:K7}{E:Value->l4->Prop}{s:l4}
def Raw(h:Heap)(d:Addr)(es:Array a2H)(ep:Nat):Prop:=∃o,h.get? d=some o/\o.ExactDict/\o.data=.dict es ep
theorem Raw.typeIs{d:Addr}{es:Array a2H}{ep:Nat}(x:Raw s.heap d es ep):s.TypeIs (.ref d) "dict" := let⟨o,h1,h2,_⟩:=x; ⟨o,h1,h2.1⟩
theorem iter_raw{d:Addr}{es:Array a2H}{ep:Nat}{Q:Value->l4->Prop}(hd:(d == a0o)=false)(hm:Raw s.heap d es ep)
  (hQ:Q (.ref s.heap.objs.size) { s with heap:=s.heap.push { cls:=.type "dict_keyiterator",data:=.fields #[.ref d,.int 0 0,.int es.size 0,.int ep 0] } }):wpAny (model prog w) A (pyIter (.ref d)) Q E s:=by
 have hT:=hm.typeIs
 obtain⟨o,ho,hc,hdat⟩:=id hm
 refine wpAny_pyIter_slot hT F.slot_dict_iter (a1p F.slot_dict_iter hT F.entry_dict_iter ?_ (F.args_dict_iter_1 _))
 unfold Builtin.«dict.__iter__» Builtin.Dict.dictSlotNone
 refine d5 (d5 (wpAny_notOrdered_dict hT (v6 ?_)))
 show wpAny _ _ (Builtin.Dict.showsAll d >>= _) _ _ s
 unfold Builtin.Dict.showsAll
 simp only[hd,a7r,if_false]
 refine d5 (v6 (d5 (b3K ho hdat (d5 (b8a ho hdat (d5 (R9 (v6 ⟨_,rfl,"dict_keyiterator",_,⟨_,C3 _ rfl,rfl⟩,F.slot_dict_keyiterator_next.lookup,?_⟩))))))))
 simpa[rawInt]using hQ
theorem next_raw{it d:Addr}{i ep:Nat}{es:Array a2H}{Q:Option Value->l4->Prop}(hit:s.heap.IsKeyIter it d i es.size ep)(hm:Raw s.heap d es ep)(hi:i<es.size)
  (hQ:∀h',h'.IsKeyIter it d (i+1) es.size ep->Heap.SameBut it s.heap h'->Q (some es[i].key) { s with heap:=h' }):wpAny (model prog w) A (c6n (.ref it)) Q E s:=by
 have hT:=hit.typeIs
 obtain⟨o,ho,hc,hd⟩:=id hit
 obtain⟨od,hod,_,hdd⟩:=hm
 have own:Builtin.Dict_items.ownsTuple "dict_keyiterator" = false:=by decide
 unfold c6n
 refine d5 (wpAny_attempt (a6i (name:=Str.ofString "__next__") hT F.slot_dict_keyiterator_next (a1p F.slot_dict_keyiterator_next hT F.entry_dict_keyiterator_next ?_ (F.args_dict_keyiterator_next_1 _))))
 refine d5 (v6 (d5 (d5 (d5 (a0g hT (v6 (d5 (wpAny_fieldsOf ho hd ?_))))))))
 simp only[own,a7r,if_false]
 show wpAny _ _ (if(Value.ref d == Value.none)=true then _ else _) _ _ s
 have nn:¬(Value.ref d == Value.none)=true:=(u9:¬false=true)
 rw[if_neg nn]
 refine d5 (v6 (d5 (b3K hod hdd ?_)))
 rw[if_neg (by simp)]
 refine d5 (v6 (d5 (b8a hod hdd ?_)))
 rw[if_neg (by simp)]
 refine v6 ?_
 simp only[show ¬((i:Int)<0) by omega,if_false,A7,a0r hi]
 refine d5 (d5 (a0g hT (v6 (d5 (c6l hT ?_)))))
 show wpAny _ _ (setField (.ref it) 1 (rawInt ((i:Int)+1)) >>= _) _ _ s
 refine d5 (wpAny_setField ho hd (by simp) ?_)
 have hit':(s.heap.update it (Obj.mapFields (·.setIfInBounds 1 (rawInt ((i:Int)+1))))).IsKeyIter it d (i+1) es.size ep:=
  ⟨_,a4W _ ho (Obj.isFreed_of_fields (Obj.data_mapFields hd _)),(Obj.cls_mapFields ..).trans hc,by rw[Obj.data_mapFields hd];simp[rawInt]⟩
 refine d5 (a1N (d5 (c6l (s:={ s with heap:=s.heap.update it (Obj.mapFields (·.setIfInBounds 1 (rawInt ((i:Int)+1)))) }) hit'.typeIs ?_)))
 show wpAny _ _ (pure es[i].key) _ _ _
 exact v6 (v6 ⟨_,rfl,v6 (hQ _ hit' (b2f ..))⟩)
theorem end_raw{it d:Addr}{i ep:Nat}{es:Array a2H}{Q:Option Value->l4->Prop}(hh:A.handled=none)(hit:s.heap.IsKeyIter it d i es.size ep)(hm:Raw s.heap d es ep)(hi:es.size<=i)
  (hQ:∀h',Heap.ExtBut it s.heap h'->Q none { s with heap:=h' }):wpAny (model prog w) A (c6n (.ref it)) Q E s:=by
 have hT:=hit.typeIs
 obtain⟨o,ho,hc,hd⟩:=id hit
 obtain⟨od,hod,_,hdd⟩:=hm
 have own:Builtin.Dict_items.ownsTuple "dict_keyiterator" = false:=by decide
 unfold c6n
 refine d5 (wpAny_attempt (a6i (name:=Str.ofString "__next__") hT F.slot_dict_keyiterator_next (a1p F.slot_dict_keyiterator_next hT F.entry_dict_keyiterator_next ?_ (F.args_dict_keyiterator_next_1 _))))
 refine d5 (v6 (d5 (d5 (d5 (a0g hT (v6 (d5 (wpAny_fieldsOf ho hd ?_))))))))
 simp only[own,a7r,if_false]
 show wpAny _ _ (if(Value.ref d == Value.none)=true then _ else _) _ _ s
 have nn:¬(Value.ref d == Value.none)=true:=(u9:¬false=true)
 rw[if_neg nn]
 refine d5 (v6 (d5 (b3K hod hdd ?_)))
 rw[if_neg (by simp)]
 refine d5 (v6 (d5 (b8a hod hdd ?_)))
 rw[if_neg (by simp)]
 refine v6 ?_
 simp only[show ¬((i:Int)<0) by omega,if_false,A7,Array.getElem?_eq_none hi]
 refine d5 (d5 (a0g hT (v6 ?_)))
 show wpAny _ _ (setField (.ref it) 0 .none >>= _) _ _ s
 refine d5 (wpAny_setField ho hd (by simp) ?_)
 refine d5 ?_
 simp only[newExc,newTuple]
 refine d5 (R9 ?_ (by size_fits))
 refine d5 (m:=firstArgMember _ _) (wpAny_of_eq (a:=Value.none) (by simp only[firstArgMember];rfl) (R9 ?_ (by size_fits)))
 simp only[raiseNew]
 refine d5 (wpAny_handled ?_)
 rw[show A.in1.handled=none from hh]
 refine d5 (v6 (wpAny_throw ?_))
 refine d5 (wpAny_isInstance (T := "StopIteration") (b:=true) (show Shared.TypeIs _ (.ref _) _ from⟨_,C3 _ rfl,rfl⟩) isSubtype_stop (v6 (hQ _ ?_)))
 exact((b2f ..).extBut.push _).push _
end
end PySem
namespace L2
open PySem PySem.Spec PyProof.Rows
section
variable {X:Cx}
end
end L2
namespace PySem
open Sem (wp)
section
variable {prog:D6}{w:World}{K:Type}[DecidableEq K]{knd:HeapKind prog w K}{A:K7}{s:l4}{R:b5r->l4->Prop}
end
section
variable {prog:D6}{w:World}{K:Type}[DecidableEq K]{knd:HeapKind prog w K}{A:K7}{E:Value->l4->Prop}{s:l4}
end
end PySem
namespace L2
open PySem PySem.Spec PyProof.Rows
variable{X:Cx}{pins:List (Addr×Obj)}{σ:St}{H:Hp}{s:l4}{a:Addr}{w:World}{Q:Value->l4->Prop}
section
end
section
end
abbrev XE:=List Key×Addr×V
section
variable {b:Addr}{xs:List XE}{k:List Key}
end
section
variable {i o:Expr}{ti to:TE}
end
section
end
section
theorem Inv.thawK{o:Obj}{kvs:List (Key×V)}(I:Inv X pins σ H s)(e:H a=some (.frz o (.dK kvs)))(nf:∀o u,X.H₀ a≠some (.frz o u)):Inv X pins σ (upd H a (.dK kvs)) s:=by
 have no:∀b,H b=none->(upd H a (.dK kvs)) b=none:=fun b q=>by rw[d6 (d3 e q).symm];exact q
 refine⟨I.ok,I.os,I.bare,⟨I.base.keep,I.base.slot,fun b o q n x=>no b (I.base.free b o q n x),I.base.there,fun b xs q=>?_,fun b o u q=>?_,fun b ps q=>?_⟩,I.loc,I.cell,no _ I.free,fun x c q=>no _ (I.freeC x c q),fun p hp=>?_,fun b u q=>?_,I.len⟩
 ·have:=I.base.tups b xs q
  rw[d6 (F6 this e (by intro z;cases z))];exact this
 ·have:b≠a:=fun z=>nf o u (z ▸ q)
  rw[d6 this];exact I.base.frzs b o u q
 ·obtain⟨m,r⟩:=I.base.tbls b ps q
  exact⟨m,by rw[d6 (F6 r e (by intro z;cases z))];exact r⟩
 ·obtain⟨h1,h2,r⟩:=I.pin p hp
  exact⟨h1,no _ h2,r⟩
 ·have st:∀ {c:Addr} {v:HO},W4 X.prog X.w H s.heap c v->W4 X.prog X.w (upd H a (.dK kvs)) s.heap c v:=fun {c v} x=>x.stay (fun _ _ _ r=>r) (fun d r=>by rw[d6 (F6 r e (by intro z;cases z))];exact r) fun d xs r=>by rw[d6 (F6 r e (by intro z;cases z))];exact r
  by_cases hb:b=a
  ·subst hb
   rw[f6]at q
   cases q
   exact st (I.hok b _ e).2
  ·rw[d6 hb]at q
   exact st (I.hok b u q)
theorem b0f{P:D6}:∀ {es:List a2H} {kvs:List (Key×Value)},Pairs (O9 P w) es kvs->es.length=kvs.length/\∀(i:Nat) en,es[i]? = some en->∃k,kvs[i]? = some k/\(O9 P w).is k.1 en.key=true
 | _,_,.nil=>⟨rfl,fun i en h=>by cases h⟩
 | _,_,.cons h1 h2 r=>by
  obtain⟨l,g⟩:=b0f r
  refine⟨by rw[C1,C1,l],fun i en h=>?_⟩
  cases i with
  | zero=>cases h;exact⟨_,rfl,h1⟩
  | succ i=>exact g i en h
theorem c6E{P:D6}{h:Heap}{kvs:List (Key×V)}(ok:HOk P w H h)(e:H a=some (.dK kvs)):(a == a0o)=false/\∃es ep,Raw h a es ep/\es.size=kvs.length/\∀(i:Nat) en,es[i]? = some en->∃k,kvs[i]? = some k/\F1 (kV k.1) en.key:=by
 obtain⟨_,hd,vs,r,o,es,ep,h1,h2,h3,h4,h5,_⟩:=a8Z ok e
 obtain⟨l,g⟩:=b0f h5
 have hl:=Paired.length r
 refine⟨hd,es,ep,⟨o,h1,h2,h3⟩,by rw[<-X3,l];exact hl.symm,fun i en he=>?_⟩
 obtain⟨k,q1,q2⟩:=g i en (by rw[V0];exact he)
 obtain⟨y,hy⟩:=c0p (k:=k.1) (x:=k.2) r q1
 exact⟨_,hy,c3z q2⟩
def Itk(ob:Obj)(a:Addr)(kvs:List (Key×V)):It:=
 ⟨fun i H=>i<kvs.length/\H a=some (.frz ob (.dK kvs)),fun i H x H'=>H'=H/\∃k,kvs[i]? = some k/\x=kV k.1,fun i H=>kvs.length<=i/\H a=some (.frz ob (.dK kvs))⟩
def b4T(P:Addr->Prop)(ta:TE):TI:=fun σ H R=>ta σ H fun x H1=>∃a kvs,x=.ref a/\H1 a=some (.dK kvs)/\(P a->∀ob,R (Itk ob a kvs) (upd H1 a (.frz ob (.dK kvs))))
theorem b3S{P:D6}{K:Fg}{tg:Expr}{ob:Obj}{it:Addr}{kvs:List (Key×V)}{es:Array a2H}{ep:Nat}(h2:ob.ExactDict)(h3:ob.data=.dict es ep)(hl:es.size=kvs.length)(hk:∀(i:Nat) en,es[i]? = some en->∃k,kvs[i]? = some k/\F1 (kV k.1) en.key) :
  b1Z P w K tg (Itk ob a kvs) [it] it (fun i h=>h.IsKeyIter it a i es.size ep) where
 mem:=by simp
 obj:=fun i h st b hb=>by
  have e:b=it:=by simpa using hb
  subst e
  obtain⟨o,e,c,d⟩:=st
  exact⟨o,e,fun v z=>by rw[d]at z;cases z⟩
 keep:=fun i h h' st k=>st.at fun o e=>k it (by simp) o e
 item:=by
  intro X hP hw hK hc i pins s σ H E I hf st hg
  subst hP hw hK
  obtain⟨hi,e⟩:=hg
  obtain⟨f0,f1,f2,f3,f4,f5⟩:=hf it (by simp)
  have hr:Raw s.heap a es ep:=⟨ob,(I.hok a _ e).1,h2,h3⟩
  have hi':i<es.size:=by omega
  obtain⟨k,hb,kb⟩:=hk i es[i] (a0r hi')
  refine next_raw st hr hi' fun h' st' sb=>?_
  have I1:Inv X pins σ H { s with heap:=h' }:=I.turned (t':=s.toks) (fun b o hb e=>(sb.2 b hb).trans e) f0 f1 f3 f4 f5
  obtain⟨o,e,c,d⟩:=id st'
  exact⟨_,rfl,b5W (s:={ s with heap:=h' }) e c d (by decide) ⟨kV k.1,H,I1,kb,⟨rfl,k,hb,rfl⟩,st',fun b hb=>(hf b hb).1⟩⟩
 done:=by
  intro X hP hw hK hc i pins s σ H E I hf st hg
  subst hP hw hK
  obtain⟨hi,e⟩:=hg
  obtain⟨f0,f1,f2,f3,f4,f5⟩:=hf it (by simp)
  exact end_raw (I.ok.hd hc) st ⟨ob,(I.hok a _ e).1,h2,h3⟩ (by omega) fun h' eb=>⟨rfl,I.turned (t':=s.toks) (fun b o hb e=>eb b o hb e) f0 f1 f3 f4 f5⟩
 self:=fun _ _ _ _ _ st h=>wpAny_pyIter_keyiter st h
theorem b9G{tg l:Expr}{tl:TE}(hl:PE X l tl):PI X tg l (b4T (fun a=>∀o u,X.H₀ a≠some (.frz o u)) tl):=by
 intro pins s σ H R I h
 refine thn (hl pins s σ H _ I h) fun v s1 ⟨x,H1,I1,r1,q1⟩=>?_
 obtain⟨a,kvs,e,hq,q⟩:=q1
 subst e
 cases r1
 obtain⟨hd,es,ep,⟨ob,o1,o2,o3⟩,hs,hk⟩:=c6E I1.hok hq
 have nf:∀o u,X.H₀ a≠some (.frz o u):=fun o u z=>by
  have:=I1.base.frzs a o u z
  rw[hq]at this
  cases this
 refine iter_raw hd ⟨ob,o1,o2,o3⟩ ?_
 have nt:∀d ys,H1 d=some (.tup ys)->(upd H1 a (.frz ob (.dK kvs))) d=some (.tup ys):=fun d ys r=>by rw[d6 (F6 r hq (by intro z;cases z))];exact r
 have I2:Inv X pins σ (upd H1 a (.frz ob (.dK kvs))) s1:=I1.write (x:=a) (e:=a) (h':=s1.heap) (t':=s1.toks) (by rw[hq];exact True.intro) (.inl rfl) (fun _ _ _ e=>e) ⟨ob,o1⟩
  ⟨o1,(I1.hok a _ hq).stay (fun _ _ _ r=>r) (fun d r=>by rw[d6 (F6 r hq (by intro z;cases z))];exact r) nt⟩
 refine⟨s1.heap.objs.size,[s1.heap.objs.size],_,_,_,rfl,I2.kept (t':=s1.toks) fun b o e=>g9 _ e,b3S (es:=es) (ep:=ep) o2 o3 hs hk,⟨_,C3 _ rfl,rfl,rfl⟩,fun b hb=>?_,q nf ob⟩
 have e:b=s1.heap.objs.size:=by simpa using hb
 subst e
 exact I2.fpOk (i9 _) (I2.hok.fresh (i9 _))
end
section
def b8G(ta:TE)(g:TG)(tb:TS):TS:=fun D σ H=>∀P:Addr->Prop,a1i (b4T P ta) g tb { D with nx:=fun σ H=>∃a o kvs,H a=some (.frz o (.dK kvs))/\P a/\D.nx σ (upd H a (.dK kvs)) } σ H
theorem c1H{tg iter:Expr}{body:List Stmt}{tl:TE}{g:TG}{tb:TS}{pos:Pos}(hp:b2p (model X.prog X.w) X.A X.env X.xe)(hc:X.calm=true)(hl:PE X iter tl)(hg:PG X tg g)(hb:PSs X body tb)
  (hs:∀x,P6 iter X.env x=pure x:=by intro _;rfl):PS X (.For tg iter body [] pos) (b8G tl g tb):=by
 intro pins s σ H D I h
 refine thn (b9D hp hc (b9G hl) hg hb hs pins s σ H _ I (h _)) fun f s' hf=>?_
 cases f with
 | next=>
  obtain⟨σ',H',I',a,o,kvs,e,nf,q⟩:=hf
  exact⟨σ',_,I'.thawK e nf,q⟩
 | brk=>exact hf
 | cont=>exact hf
 | ret u=>exact hf
end
theorem b7d:c3f (.type "list_reverseiterator") "__len__" = pure none:=by rw[typeLookup_type,c6p];kernel_rfl
theorem c0w:c3f (.type "list_reverseiterator") "__length_hint__" = pure (some (.builtin "list_reverseiterator.__length_hint__")):=by rw[typeLookup_type,c6p];kernel_rfl
section
variable {prog:D6}{A:K7}{E:Value->l4->Prop}{r l:Addr}{items:Array Value}
abbrev c2X(items:Array Value):Nat->Value->Prop:=fun i v=>items[items.size - 1 - i]? = some v
theorem b9n{Q:Bool->l4->Prop}(hT:s.TypeIs (.ref r) "list_reverseiterator")(h:Q false s):wpAny (model prog w) A (Builtin.List.listLengthHint (.ref r)) Q E s:=by
 unfold Builtin.List.listLengthHint
 refine d5 (wpAny_specialOf hT b7d ?_)
 show wpAny _ A (specialOf (Value.ref r) (Str.ofString "__length_hint__") >>= _) _ _ _
 refine d5 (wpAny_specialOf hT c0w ?_)
 generalize hid:("list_reverseiterator.__length_hint__" : String)=id0
 wp_delta
 rw[show splitId id0=some ("list_reverseiterator","__length_hint__")from by subst hid;decide +kernel]
 subst hid
 refine d5 (wpAny_isInstance (b:=true) hT (by rw[isSubtype_type];kernel_rfl) ?_)
 exact v6 h
theorem b4o{R:b5r->l4->Prop}(hh:A.handled=none)(hit:s.heap.IsRevIter r l ((items.size:Int) - 1))(hl:s.heap.IsList l items)(hne:l≠r)(S:Addr)(hSr:S≠r)(hSl:S≠l)(res:Value)(c₀:Nat)(hS:s.heap.get? S=some { cls:=.type "list",data:=.seq #[] c₀ })
  (hR:∀h' tk acc' c',(∀b o,b≠S->b≠r->s.heap.get? b=some o->h'.get? b=some o)->h'.get? S=some { cls:=.type "list",dict:=none,data:=.seq acc' c',slots := #[] }->ItemsOf (c2X items) acc' items.size->R (.ok (.ret res)) { s with heap:=h',toks:=tk }) (hn:items.size<=u8) :
  wpAny (model prog w) A.in1 (Builtin.List.listExtendWith (.ref S) (.ref r) res)
   (fun fin s'=>match fin with | .done f=>R (.ok f) s' | .again c'=>c'.quiet=true/\a2T (model prog w) A c' R s') (fun e s'=>R (.error e) s') s:=by
 have W:=Walks.listRev (prog:=prog) (w:=w) (A:=A.in1) hh r l hne items
 have hSf:S∉[r,l]:=by simp only[p8,E5,or_false,not_or];exact⟨hSr,hSl⟩
 have h1:Builtin.List.listSameRef (.ref S) (.ref r)=false:=by simp[Builtin.List.listSameRef,hSr]
 have hz:(items.size:Int) - 1 - ((0:Nat):Int)=(items.size:Int) - 1:=by omega
 unfold Builtin.List.listExtendWith
 refine d5 (wpAny_typeOf hit.typeIs ?_)
 rw[if_neg (by rw[h1];decide)]
 refine d5 (wpAny_pyIter_revIter hit ?_)
 refine d5 (a1N (b9n hit.typeIs ?_))
 rw[if_neg (by decide)]
 refine v6 ⟨c3K PySem.F.plain_extend_loop _,?_⟩
 refine codeAny_extend_loopS W.toS hn S hSf res items.size 0 _ #[] c₀ rfl (K0 _) ⟨K0 _,by rw[hz];exact hit,hl⟩ hS (ItemsOf.nil _) fun s' acc' c' hm hS' hacc=>?_
 rw[Moved.eq_with hm]
 exact hR s'.heap s'.toks acc' c' (fun b o hb hr e=>hm.heap b o (by simp only[p8,E5,or_false,not_or];exact⟨hb,hr⟩) e) hS' hacc
theorem b9m{R:b5r->l4->Prop}(hh:A.handled=none)(hit:s.heap.IsRevIter r l ((items.size:Int) - 1))(hl:s.heap.IsList l items)(hne:l≠r)(S:Addr)(hSr:S≠r)(hSl:S≠l)(hS:s.heap.get? S=some { cls:=.type "list",data:=.seq #[] })
  (hR:∀h' tk acc' c',(∀b o,b≠S->b≠r->s.heap.get? b=some o->h'.get? b=some o)->h'.get? S=some { cls:=.type "list",dict:=none,data:=.seq acc' c',slots := #[] }->ItemsOf (c2X items) acc' items.size->R (.ok (.ret .none)) { s with heap:=h',toks:=tk }) (hn:items.size<=u8) :
  wpAny (model prog w) A.in1 (Builtin.«list.__init__» ⟨[.ref S,.ref r],[]⟩)
   (fun fin s'=>match fin with | .done f=>R (.ok f) s' | .again c'=>c'.quiet=true/\a2T (model prog w) A c' R s') (fun e s'=>R (.error e) s') s:=by
 show wpAny _ _ (do let old <-Builtin.List.listItems (.ref S);Builtin.List.listUpdate (.ref S) (fun _ => #[]);letGo old.toList.reverse;Builtin.List.listExtendWith (.ref S) (.ref r) .none) _ _ s
 refine d5 ?_
 unfold Builtin.List.listItems
 refine d5 (wpAny_seqItems hS rfl (v6 ?_))
 show wpAny _ _ (updateSeq S (fun _ => #[]) >>= fun _=>letGo (#[]:Array Value).toList.reverse >>= fun _=>Builtin.List.listExtendWith (.ref S) (.ref r) .none) _ _ s
 refine d5 (wpAny_updateSeq hS rfl ?_)
 have hS₂:=a4W (Obj.mapSeq (fun _=>(#[]:Array Value))) hS rfl
 have oth:∀b o,b≠S->s.heap.get? b=some o->(s.heap.update S (Obj.mapSeq (fun _=>(#[]:Array Value)))).get? b=some o:=
  fun b o hb e=>(a4J _ _ (Ne.symm hb)).trans e
 refine d5 (wpAny_letGo ?_)
 refine b4o hh (hit.at fun o e=>oth _ _ hSr.symm e) (hl.at fun o e=>oth _ _ hSl.symm e) hne S hSr hSl .none _ hS₂ (fun h' tk acc' c' hk hS' hacc=>?_) hn
 exact hR h' tk acc' c' (fun b o hb hr e=>hk b o hb hr (oth b o hb e)) hS' hacc
theorem b9o(hh:A.handled=none)(hit:s.heap.IsRevIter r l ((items.size:Int) - 1))(hl:s.heap.IsList l items)(hne:l≠r)(hn:items.size<=u8)
  (hQ:∀h' tk acc' c',(∀b o,b≠r->s.heap.get? b=some o->h'.get? b=some o)->h'.get? s.heap.objs.size=some { cls:=.type "list",dict:=none,data:=.seq acc' c',slots := #[] }->ItemsOf (c2X items) acc' items.size->Q (.ref s.heap.objs.size) { s with heap:=h',toks:=tk }) :
  wpAny (model prog w) A (call (.type "list") [.ref r]) Q E s:=by
 refine callType_codes (Q₁:=fun obj s₁=>obj=.ref s.heap.objs.size/\s₁={ s with heap:=s.heap.push { cls:=.type "list",data:=.seq #[] } }) PySem.F.called_list (PySem.F.typeCall_list_1 _) PySem.F.entry_list_init
  (code_list_new _ ⟨rfl,rfl⟩) fun obj s₁ h₁=>?_
 obtain⟨rfl,rfl⟩:=h₁
 have hS:(s.heap.push { cls:=.type "list",data:=.seq #[] }).get? s.heap.objs.size=some { cls:=.type "list",data:=.seq #[] }:=C3 _ rfl
 have lr:r<s.heap.objs.size:=let⟨_,e,_⟩:=hit;o6 e
 have ll:l<s.heap.objs.size:=let⟨_,e,_⟩:=hl;o6 e
 refine⟨⟨_,hS,rfl⟩,PySem.F.args_list_init_2 _ _,b9m (A:=A.in1) hh (hit.at fun o e=>g9 _ e) (hl.at fun o e=>g9 _ e) hne _ (a4O lr) (a4O ll) hS (fun h' tk acc' c' hk hS' hacc=>?_) hn⟩
 exact⟨rfl,hQ h' tk acc' c' (fun b o hr e=>hk b o (B0 (o6 e)) hr (g9 _ e)) hS' hacc⟩
end
section
variable {e:Expr}{te:TE}{p p2 pos pos2:Pos}
def b5E(te:TE):TE:=fun σ H Q=>te σ H fun x H1=>∃a xs,x=.ref a/\H1 a=some (.lst xs)/\∀p,H1 p=none->Q (.ref p) (upd H1 p (.lst xs.reverse))
theorem b8u{xs:List V}{its:List Value}(r:G6 xs its){acc:Array Value}(h:ItemsOf (c2X its.toArray) acc its.length):G6 xs.reverse acc.toList:=by
 have e:acc.toList=its.reverse:=by
  apply List.ext_getElem?
  intro j
  by_cases hj:j<its.length
  ·have hz:j<acc.size:=by rw[h.1];exact hj
   have q:=h.2 j _ (a0r hz)
   rw[List.getElem?_reverse hj,V0,a0r hz]
   simpa using q.symm
  ·rw[b7Q (by rw[X3,h.1];omega),b7Q (by rw[c0U];omega)]
 rw[e]
 exact r.reverse
theorem b4v(he:PE X e te)(hc:X.calm=true)(g1:Gl X "list")(m1:X.mg "list" = none)(g2:Gl X "reversed")(m2:X.mg "reversed" = none)(bl:U0 "list" = some (.type "list"))(br:U0 "reversed" = some (.type "reversed"))
  (s1:i8 [e] X.env=(false,eval e X.env)::i8 [] X.env:=by rfl):PE X (.Call (.Name "list" p) [.Call (.Name "reversed" p2) [e] [] pos2] [] pos) (b5E te):=by
 intro pins s σ H Q I h
 refine a0v (a4j I g1 m1 bl ?_ (by decide) (by decide))
 refine N7 (e:=.Call (.Name "reversed" p2) [e] [] pos2) (rest:=[]) ?_ rfl rfl
 show wpAny _ _ (spliced ((false,eval (.Call (.Name "reversed" p2) [e] [] pos2) X.env)::[])) _ _ s
 refine Calls.spliced_cons ?_
 refine a0v (a4j I g2 m2 br ?_ (by decide) (by decide))
 refine N7 (e:=e) (rest:=[]) ?_ s1 rfl
 rw[s1]
 refine Calls.spliced_cons (thn (he pins s σ H _ I h) fun u s1 hu=>?_)
 obtain⟨x,H1,I1,r1,a,xs,rfl,hl,q⟩:=hu
 cases r1
 obtain⟨its,rv,pl,hz⟩:=I1.list (SqL.of hl)
 have hil:=rv.length
 refine Calls.spliced_nil (call_reversed_list pl.isList ?_)
 refine Calls.spliced_nil ?_
 have hlt:a<s1.heap.objs.size:=let⟨_,e,_⟩:=pl.isList;o6 e
 have hsz:its.toArray.size=its.length:=by simp
 refine b9o (l:=a) (items:=its.toArray) (I1.ok.hd hc) ⟨_,C3 _ rfl,rfl,rfl⟩ (pl.isList.at fun o e=>g9 _ e) (B0 hlt) (by rw[hsz];omega) fun h' tk acc' c' hk hS hacc=>?_
 have hps:(s1.heap.push (revObj a ((its.toArray.size:Int) - 1))).objs.size=s1.heap.objs.size+1:=by simp[Heap.push]
 rw[hsz]at hacc
 refine⟨.ref _,upd H1 (s1.heap.objs.size+1) (.lst xs.reverse),I1.laid (t':=tk) (fun b u e=>hk b u (B0 (o6 e)) (g9 _ e)) (U4 _) ?_,by rw[hps];rfl,q _ (I1.hok.fresh (U4 _))⟩
 rw[hps]at hS
 exact⟨by rw[c0U];exact hz,acc'.toList,c',b8u rv hacc,by simpa using hS⟩
end
section
variable {prog:D6}{A:K7}{E:Value->l4->Prop}{l b:Addr}{items items2:Array Value}
def EqW(prog:D6)(w:World)(A:K7)(s:l4)(y x:Value):Prop:=∀(E:Value->l4->Prop) (Q:Bool->l4->Prop),Q true s->wpAny (model prog w) A (eqBool y x) Q E s
theorem b3U(hl:s.heap.IsTuple l items)(hb:s.heap.IsTuple b items2)(hsz:items.size=items2.size)(hu:A.units<cLine)
  (he:∀j (h1:j<items.size) (h2:j<items2.size),EqW prog w A.in1 s items[j] items2[j]) (h:Q (.bool true) s):wpAny (model prog w) A (richCompare .Eq (.ref l) (.ref b)) Q E s:=by
 obtain⟨⟨cls,dd,data,sl⟩,ho,hc,n,hd⟩:=id hl
 obtain⟨⟨cls2,dd2,data2,sl2⟩,ho2,hc2,n2,hd2⟩:=id hb
 simp only at hc hd hc2 hd2
 subst hc hd hc2 hd2
 refine wpAny_richCompare_same_room (op:=.Eq) ⟨_,ho,rfl⟩ ⟨_,ho2,rfl⟩ b3E (a1p b3E ⟨_,ho,rfl⟩ PySem.F.entry_tuple_eq ?_ (PySem.F.args_tuple_eq_2 _ _)) hu
 obtain⟨hp,g,d,tk,os⟩:=s
 have f2:=AutoSeq1.sub_tuple_tuple
 have hZ:(items.toList.zip items2.toList).length=items.size:=by simp[hsz]
 wp_walk using wpAny_loadPart' ho,wpAny_loadPart' ho2,wpAny_forIn_list _ (fun rest b s'=>b.1=none/\s'=⟨hp,g,d,tk,os⟩/\∃i,rest=(items.toList.zip items2.toList).drop i) _
 case turn=>
  rintro⟨y,x⟩ rest b s' ⟨hb',rfl,i,hz⟩
  have hlt:i<(items.toList.zip items2.toList).length:=by
   rcases Nat.lt_or_ge i (items.toList.zip items2.toList).length with h' | h'
   ·exact h'
   ·rw[b6l h']at hz;cases hz
  have h1:i<items.size:=hZ ▸ hlt
  have h2:i<items2.size:=hsz ▸ h1
  rw[a2S hlt]at hz
  injection hz with hyx hrest
  have hy:y=items[i]:=by have:=congrArg Prod.fst hyx;simpa using this
  have hx:x=items2[i]:=by have:=congrArg Prod.snd hyx;simpa using this
  subst hy hx
  refine d5 (he i h1 h2 _ _ ?_)
  wp_walk
  exact⟨rfl,rfl,i+1,hrest⟩
 case fin=>
  rintro⟨b1,b2⟩ s' ⟨hb',rfl,i,hz⟩
  simp only at hb'
  subst hb'
  wp_walk
  rw[show Builtin.Tuple.tupleCompareSizes CmpOp.Eq items.size items2.size=.bool true by simp[Builtin.Tuple.tupleCompareSizes,hsz]]
  exact⟨_,rfl,(fun z=>nomatch z),h⟩
 case h=>
  exact⟨rfl,rfl,0,by simp⟩
theorem b3T(hl:s.heap.IsTuple l items)(hb:s.heap.IsTuple b items2)(hsz:items.size=items2.size)(hu:A.units<cLine)
  (he:∀j (h1:j<items.size) (h2:j<items2.size),EqW prog w A.in1 s items[j] items2[j]) (h:Q (.bool false) s):wpAny (model prog w) A (richCompare .NotEq (.ref l) (.ref b)) Q E s:=by
 obtain⟨⟨cls,dd,data,sl⟩,ho,hc,n,hd⟩:=id hl
 obtain⟨⟨cls2,dd2,data2,sl2⟩,ho2,hc2,n2,hd2⟩:=id hb
 simp only at hc hd hc2 hd2
 subst hc hd hc2 hd2
 refine wpAny_richCompare_same_room (op:=.NotEq) ⟨_,ho,rfl⟩ ⟨_,ho2,rfl⟩ b3D (a1p b3D ⟨_,ho,rfl⟩ PySem.F.entry_tuple_ne ?_ (PySem.F.args_tuple_ne_2 _ _)) hu
 obtain⟨hp,g,d,tk,os⟩:=s
 have f2:=AutoSeq1.sub_tuple_tuple
 have hZ:(items.toList.zip items2.toList).length=items.size:=by simp[hsz]
 wp_walk using wpAny_loadPart' ho,wpAny_loadPart' ho2,wpAny_forIn_list _ (fun rest b s'=>b.1=none/\s'=⟨hp,g,d,tk,os⟩/\∃i,rest=(items.toList.zip items2.toList).drop i) _
 case turn=>
  rintro⟨y,x⟩ rest b s' ⟨hb',rfl,i,hz⟩
  have hlt:i<(items.toList.zip items2.toList).length:=by
   rcases Nat.lt_or_ge i (items.toList.zip items2.toList).length with h' | h'
   ·exact h'
   ·rw[b6l h']at hz;cases hz
  have h1:i<items.size:=hZ ▸ hlt
  have h2:i<items2.size:=hsz ▸ h1
  rw[a2S hlt]at hz
  injection hz with hyx hrest
  have hy:y=items[i]:=by have:=congrArg Prod.fst hyx;simpa using this
  have hx:x=items2[i]:=by have:=congrArg Prod.snd hyx;simpa using this
  subst hy hx
  refine d5 (he i h1 h2 _ _ ?_)
  wp_walk
  exact⟨rfl,rfl,i+1,hrest⟩
 case fin=>
  rintro⟨b1,b2⟩ s' ⟨hb',rfl,i,hz⟩
  simp only at hb'
  subst hb'
  wp_walk
  rw[show Builtin.Tuple.tupleCompareSizes CmpOp.NotEq items.size items2.size=.bool false by simp[Builtin.Tuple.tupleCompareSizes,hsz]]
  exact⟨_,rfl,(fun z=>nomatch z),h⟩
 case h=>
  exact⟨rfl,rfl,0,by simp⟩
end
section
def Dd(K:Fg)(H:Hp)(x y:V):Prop:=Dq K H 3 x y\/∃d e kvs,x=.ref d/\y=.ref e/\H d=some (.dK kvs)/\H e=some (.dK kvs)/\(kvs.map (·.1)).Nodup/\kvs.all (fun p=>Q0 p.2)=true
theorem Dd.eqW(I:Inv X pins σ H s){x y:V}(d:Dd X.K H x y){A:K7}{v u:Value}(hu:A.units+3<cLine)(rx:F1 x v)(ry:F1 y u):EqW X.prog X.w A s v u:=by
 rcases d with d | ⟨a,b,kvs,rfl,rfl,h1,h2,nd,fl⟩
 ·exact fun E Q q=>(d.both I hu rx ry).1 _ _ E Q q
 ·cases rx
  cases ry
  obtain⟨_,sa,va,r1,d1⟩:=a8Z I.hok h1
  obtain⟨_,sb,vb,r2,d2⟩:=a8Z I.hok h2
  have l1:=Paired.length r1
  have l2:=Paired.length r2
  by_cases e:a=b
  ·subst e;exact fun E Q q=>SeqAt.EqAt.same _ _ _ E Q q
  ·intro E Q q
   unfold eqBool
   refine a1N ?_
   refine wpAny_ite_split (fun hab=>absurd (by have:=eq_of_beq hab;injection this) e) (fun _=>?_)
   refine d5 (PySem.W.keq_eq sa sb d1 d2 (by omega) (fun _=>c2L r2 nd fl r1 fun p hp=>hp) ?_)
   rw[show va.length=vb.length by omega,beq_self_eq_true,b3I]
   exact L5 q
theorem a8X(I:Inv X pins σ H s){xs ys:List V}{us ws:List Value}(r1:G6 xs us)(r2:G6 ys ws){A:K7}(hu:A.units+3<cLine)
  (h:∀(j:Nat) x y,xs[j]? = some x->ys[j]? = some y->Dd X.K H x y):∀j (h1:j<us.toArray.size) (h2:j<ws.toArray.size),EqW X.prog X.w A s us.toArray[j] ws.toArray[j]:=by
 intro j h1 h2
 have l1:=r1.length
 have l2:=r2.length
 have h1':j<xs.length:=by simpa[l1]using h1
 have h2':j<ys.length:=by simpa[l2]using h2
 obtain⟨u1,e1,q1⟩:=r1.get (i:=j) (x:=xs[j]) (by simp)
 obtain⟨u2,e2,q2⟩:=r2.get (i:=j) (x:=ys[j]) (by simp)
 have z1:us.toArray[j]=u1:=by
  have:=(u7.mp e1).2
  simpa using this
 have z2:ws.toArray[j]=u2:=by
  have:=(u7.mp e2).2
  simpa using this
 rw[z1,z2]
 exact(h j _ _ (by simp) (by simp)).eqW I hu q1 q2
def c4w(K:Fg):R2:=fun x y H Q=>∃a b xs ys,x=.ref a/\y=.ref b/\SqT K H a xs/\SqT K H b ys/\xs.length=ys.length/\(∀(j:Nat) u v,xs[j]? = some u->ys[j]? = some v->Dd K H u v)/\Q (.bl true) H
def c4u(K:Fg):R2:=fun x y H Q=>∃a b xs ys,x=.ref a/\y=.ref b/\SqT K H a xs/\SqT K H b ys/\xs.length=ys.length/\(∀(j:Nat) u v,xs[j]? = some u->ys[j]? = some v->Dd K H u v)/\Q (.bl false) H
theorem c2h{k:Nat}(hr:Q6 k X.A):OpR X (A3 .Eq) (c4w X.K):=by
 intro pins s σ H x y v u Q I rx ry ⟨a,b,xs,ys,e1,e2,ha,hb,hl,d,q⟩
 subst e1 e2
 cases rx
 cases ry
 have hu:=hr.units
 obtain⟨us,r1,t1,_⟩:=I.tuple ha
 obtain⟨ws,r2,t2,_⟩:=I.tuple hb
 have l1:=r1.length
 have l2:=r2.length
 exact b3U t1 t2 (by simp;omega) (by omega) (a8X I r1 r2 (A:=X.A.in1) (by show X.A.units+1+3<cLine;omega) d) ⟨.bl true,H,I,rfl,q⟩
theorem c2d{k:Nat}(hr:Q6 k X.A):OpR X (A3 .NotEq) (c4u X.K):=by
 intro pins s σ H x y v u Q I rx ry ⟨a,b,xs,ys,e1,e2,ha,hb,hl,d,q⟩
 subst e1 e2
 cases rx
 cases ry
 have hu:=hr.units
 obtain⟨us,r1,t1,_⟩:=I.tuple ha
 obtain⟨ws,r2,t2,_⟩:=I.tuple hb
 have l1:=r1.length
 have l2:=r2.length
 exact b3T t1 t2 (by simp;omega) (by omega) (a8X I r1 r2 (A:=X.A.in1) (by show X.A.units+1+3<cLine;omega) d) ⟨.bl false,H,I,rfl,q⟩
end
section
variable {prog:D6}{A:K7}{E:Value->l4->Prop}{l b:Addr}{items items2:Array Value}
theorem c0g{n n2:Nat}{dd dd2:Option Addr}{sl sl2:Array (Option Value)}(hsz:items.size=items2.size)(R:b5r->l4->Prop)(hl:s.heap.get? l=some { cls:=.type "list",dict:=dd,data:=.seq items n,slots:=sl })
  (hb:s.heap.get? b=some { cls:=.type "list",dict:=dd2,data:=.seq items2 n2,slots:=sl2 }) (he:∀j (h1:j<items.size) (h2:j<items2.size),EqW prog w A.in1 s items[j] items2[j]) (h:R (.ok (.ret (.bool false))) s) (k:Nat) :
  ∀i:Nat,items.size - i=k->wpAny (model prog w) A.in1 (Builtin.«list.__eq__.loop» ⟨[.ref l,.ref b,rawInt i,rawInt 3],[]⟩)
   (fun fin s'=>match fin with | .done f=>R (.ok f) s' | .again c'=>c'.quiet=true/\a2T (model prog w) A c' R s') (fun e s'=>R (.error e) s') s:=by
 obtain⟨hp,g,d,tk,os⟩:=s
 induction k with
 | zero=>
  intro i hk
  wp_walk using AutoSeq1.wpAny_loadPart' hl,AutoSeq1.wpAny_loadPart' hb
  have hi1:items[((i:Nat):Int).toNat]? = none:=by simp;omega
  have hi2:items2[((i:Nat):Int).toNat]? = none:=by simp;omega
  rw[hi1,hi2]
  wp_walk using AutoSeq1.wpAny_loadPart' hl,AutoSeq1.wpAny_loadPart' hb
  show R (.ok (.ret (.bool (items.size != items2.size)))) _
  rw[hsz]
  simpa using h
 | succ k ih=>
  intro i hk
  wp_walk using AutoSeq1.wpAny_loadPart' hl,AutoSeq1.wpAny_loadPart' hb
  have hlt:i<items.size:=by omega
  have hlt2:i<items2.size:=by omega
  have hi1:items[((i:Nat):Int).toNat]? = some items[i]:=by simp[hlt]
  have hi2:items2[((i:Nat):Int).toNat]? = some items2[i]:=by simp[hlt2]
  have hc:((i:Int)+1)=((i+1:Nat):Int):=by omega
  rw[hi1,hi2]
  refine d5 (he i hlt hlt2 _ _ ?_)
  wp_walk
  rw[hc]
  exact⟨c3K MeetsSeq3.plain_eq_loop _,codeAny_builtin MeetsSeq3.entry_eq_loop (by
   rw[Around.under_plainId MeetsSeq3.plain_eq_loop _]
   exact ih (i+1) (by omega))⟩
theorem b7l(hl:s.heap.IsList l items)(hb:s.heap.IsList b items2)(hsz:items.size=items2.size)(hu:A.units<cLine)
  (he:∀j (h1:j<items.size) (h2:j<items2.size),EqW prog w A.in1 s items[j] items2[j]) (h:Q (.bool false) s):wpAny (model prog w) A (richCompare .NotEq (.ref l) (.ref b)) Q E s:=by
 obtain⟨⟨cls,dd,data,sl⟩,ho,hc,n,hd⟩:=id hl
 obtain⟨⟨cls2,dd2,data2,sl2⟩,ho2,hc2,n2,hd2⟩:=id hb
 simp only at hc hd hc2 hd2
 subst hc hd hc2 hd2
 refine wpAny_richCompare_same_room (op:=.NotEq) ⟨_,ho,rfl⟩ ⟨_,ho2,rfl⟩ a4N (wpAny_call (codeAny_call_builtin a4N.plain PySem.F.entry_list_ne (a4N.check _ _ _ _ _ _ _ _ ⟨_,ho,rfl⟩ (PySem.F.args_list_ne_2 _ _) ?_))) hu
 obtain⟨hp,g,d,tk,os⟩:=s
 have f3:=AutoSeq1.sub_list_list
 have hne:¬(items.size != items2.size)=true:=by simp[hsz]
 wp_walk using AutoSeq1.wpAny_loadPart' ho,AutoSeq1.wpAny_loadPart' ho2
 exact⟨c3K MeetsSeq3.plain_eq_loop _,codeAny_builtin MeetsSeq3.entry_eq_loop (by
  rw[Around.under_plainId MeetsSeq3.plain_eq_loop _]
  exact c0g hsz (wants (fun v s'=>v≠.notImplemented/\Q v s') E) ho ho2 he (show Value.bool false≠Value.notImplemented/\Q (.bool false) _ from⟨(fun z=>nomatch z),h⟩) _ 0 rfl)⟩
end
section
def b9s(K:Fg):R2:=fun x y H Q=>∃a b xs ys,x=.ref a/\y=.ref b/\SqL K H a xs/\SqL K H b ys/\xs.length=ys.length/\(∀(j:Nat) u v,xs[j]? = some u->ys[j]? = some v->Dd K H u v)/\Q (.bl false) H
theorem c2c{k:Nat}(hr:Q6 k X.A):OpR X (A3 .NotEq) (b9s X.K):=by
 intro pins s σ H x y v u Q I rx ry ⟨a,b,xs,ys,e1,e2,ha,hb,hl,d,q⟩
 subst e1 e2
 cases rx
 cases ry
 have hu:=hr.units
 obtain⟨us,r1,t1,_⟩:=I.list ha
 obtain⟨ws,r2,t2,_⟩:=I.list hb
 have l1:=r1.length
 have l2:=r2.length
 exact b7l t1.isList t2.isList (by simp;omega) (by omega) (a8X I r1 r2 (A:=X.A.in1) (by show X.A.units+1+3<cLine;omega) d) ⟨.bl false,H,I,rfl,q⟩
def a7F:V->List V->Hp->VK->Prop:=fun x vs H Q=>∃a kvs,x=.ref a/\vs=[]/\H a=some (.dK kvs)/\Q .non (upd H a (.dK []))
theorem b4J:MtR X "dict.clear" a7F:=fun pins s σ H x xs v us Q I rx rv h=>by
 obtain⟨a,kvs,rfl,rfl,ha,q⟩:=h
 cases rx
 cases rv
 exact c2R I ha fun s' I'=>⟨.non,_,I',rfl,q⟩
end
end L2
namespace Y
open PySem PySem.Spec PyProof.Rows L2
structure y'E(X:Cx)(e:Expr)(t:TE):Prop where h:PE X e t
structure y'A(X:Cx)(e:List Expr)(t:TA):Prop where h:PA X e t
structure y'S(X:Cx)(e:Stmt)(t:TS):Prop where h:PS X e t
structure a8b(X:Cx)(e:List Stmt)(t:TS):Prop where h:PSs X e t
structure y'T(X:Cx)(e:Expr)(t:TT):Prop where h:PT X e t
structure y'W(X:Cx)(e:Expr)(t:TT):Prop where h:PW X e t
structure b8p(X:Cx)(e:List Expr)(t:TT):Prop where h:PTs X e t
structure b0E(X:Cx)(tg e:Expr)(t:TI):Prop where h:PI X tg e t
structure y'G(X:Cx)(e:Expr)(t:TG):Prop where h:PG X e t
structure c1f(X:Cx)(e:List Expr)(t:TGs):Prop where h:PGs X e t
structure y'O(X:Cx)(e:Option Expr)(t:TO):Prop where h:PO X e t
structure V2(X:Cx)(f:Value->Value->Sem Value)(r:R2):Prop where h:OpR X f r
structure c3i(X:Cx)(f:Value->Sem Value)(r:V->Hp->VK->Prop):Prop where h:UnR X f r
structure X4(X:Cx)(f:Value)(r:List V->Hp->VK->Prop):Prop where h:V6 X f r
structure a5A(X:Cx)(id:String)(r:V->List V->Hp->VK->Prop):Prop where h:MtR X id r
structure b8r(X:Cx)(r:R2):Prop where h:IxR X r
structure b8q(X:Cx)(r:V->Option Int->Option Int->Hp->VK->Prop):Prop where h:SlR X r
structure b3Q(X:Cx)(t:a9K):Prop where h:c0O X t
structure b8s(X:Cx)(t:V->V->Hp->VK->Prop):Prop where h:c5W X t
structure c3j(X:Cx)(op:b7T)(t:TIp):Prop where h:PIp X op t
section
variable {X:Cx}{st:Stmt}{rest:List Stmt}{t u:TS}{e a b c o i:Expr}{es more:List Expr}{te ta tb tc to ti:TE}{tt tu:TT}{tr:TA}{pos p pos':Pos}{x:Str}
theorem p5:a8b X [] E4:=⟨L2.c1G⟩
theorem b9(h1:y'S X st t)(h2:a8b X rest u):a8b X (st::rest) (v8 t u):=⟨L2.b9A h1.h h2.h⟩
theorem c9(h1:y'S X st t):a8b X [st] t:=⟨L2.c1F h1.h⟩
theorem b8h{n:Nat}(hN:X.N.Nodup)(hi:X.N[n]? = some x)(hx:Loc X.env.scope x)(he:y'E X e te)(hs:a1P e (some (.Name x pos')) pos.line X.env=pure false:=by rfl)(hf:X.fn x=true\/X.env.scope.names.lookup x=some .local:=by first | exact .inl rfl | exact .inr rfl) :
  y'S X (.Assign [.Name x pos'] e pos) (F2 te (v5 n)):=⟨L2.c4B hN hi hx he.h hs hf⟩
theorem a1S{tg:Expr}{g:TG}(he:y'E X e te)(hg:y'G X tg g)(hs:swapsWithSole [tg] e pos.line X.env=pure false:=by rfl)(hw:swappedStores [tg] e X.env=pure none:=by rfl)
  (h1:(a0P [tg] X.env).map (·.2)=[a9O tg X.env]:=by rfl):y'S X (.Assign [tg] e pos) (F2 te g):=⟨L2.c4E he.h hg.h hs hw h1⟩
theorem b6q{tget:V->V->Hp->VK->Prop}{tip:TIp}{tset:a9K}{op:b7T}(ho:y'E X o to)(hi:y'E X i ti)(hg:b8s X tget)(he:y'E X e te)(hp:c3j X op tip)(hs:b3Q X tset)
  (ha:∀ov iv new,augStore i ov iv new=(do a3M [new,ov,iv] (c3J ov iv new);release [new,ov,iv] [];pure .next):=by intros;rfl):y'S X (.AugAssign (.Subscript o i p) op e pos) (b5G to ti te tget tip tset):=⟨L2.c1K ho.h hi.h hg.h he.h hp.h hs.h ha⟩
theorem w6{la lb:List Stmt}(hc:y'T X c tt)(ha:a8b X la t)(hb:a8b X lb u):y'S X (.If c la lb pos) (K9 tt t u):=⟨L2.c6S hc.h ha.h hb.h⟩
theorem o4(he:y'E X e te):y'S X (.Return (some e) pos) (F7 te):=⟨L2.c4C he.h⟩
theorem F4(he:y'E X e te)(hs:a1P e none pos.line X.env=pure false:=by rfl):y'S X (.Expr e pos) (V3 te):=⟨L2.c1I he.h hs⟩
theorem N4{tg:Expr}{wi:TI}{g:TG}{body:List Stmt}(hp:b2p (model X.prog X.w) X.A X.env X.xe)(hc:X.calm=true)(hi:b0E X tg e wi)(hg:y'G X tg g)(hb:a8b X body t)
  (hs:∀x,P6 e X.env x=pure x:=by intro _;rfl):y'S X (.For tg e body [] pos) (a1i wi g t):=⟨L2.b9D hp hc hi.h hg.h hb.h hs⟩
theorem b6s{n:Nat}(hN:X.N.Nodup)(hi:X.N[n]? = some x)(hx:Loc X.env.scope x)(hf:X.fn x=true\/X.env.scope.names.lookup x=some .local:=by first | exact .inl rfl | exact .inr rfl):y'G X (.Name x pos) (v5 n):=⟨L2.b1m hN hi hx hf⟩
theorem a1K:c1f X [] a9F:=⟨L2.b5S⟩
theorem N6{g:TG}{gs:TGs}(h1:y'G X e g)(h2:c1f X es gs)(h:(a0P (e::es) X.env).map (·.2)=a9O e X.env::(a0P es X.env).map (·.2):=by rfl):c1f X (e::es) (a0k g gs):=⟨L2.a8I h1.h h2.h h⟩
theorem a2K{k n:Nat}{gs:TGs}(hc:X.calm=true)(h:c1f X es gs)(hn:(a0P es X.env).length=n:=by rfl)(hst:(a0P es X.env).findIdx? (·.1)=none:=by rfl):y'G X (.Tuple es k pos) (a9E X.K n gs):=⟨L2.b9H hc h.h hn hst⟩
theorem a3P{ts:a9K}(ho:y'E X o to)(hi:y'E X i ti)(hs:b3Q X ts)
  (ha:∀v,a9O (.Subscript o i pos) X.env v=(do
   let ov <-a3M [v] (eval o X.env)
   let iv <-a3M [v,ov] (eval i X.env)
   b8d pos
   a3M [v,ov,iv] (c3J ov iv v)
   release [v,ov,iv] []):=by intro _;rfl):y'G X (.Subscript o i pos) (b3i to ti ts):=⟨L2.c4I ho.h hi.h hs.h ha⟩
theorem M7{tg:Expr}(hg:Gl X "range")(hm:X.mg "range" = none)(ha:y'A X [a] tr)(hs:i8 [a] X.env=[(false,eval a X.env)]:=by rfl):b0E X tg (.Call (.Name "range" p) [a] [] pos) (a1k tr):=⟨L2.b6Q hg hm ha.h hs⟩
theorem L8{tg:Expr}(h:y'E X e te):b0E X tg e (Y6 X.K te):=⟨L2.c1O h.h⟩
theorem O2:y'A X [] d7:=⟨L2.c4X⟩
theorem N9(ha:y'E X e te)(hr:y'A X es tr)(hs:i8 (e::es) X.env=(false,eval e X.env)::i8 es X.env:=by rfl):y'A X (e::es) (b6 te tr):=⟨L2.c2a ha.h hr.h hs⟩
theorem N8:b8p X [] Z1:=⟨L2.c1D⟩
theorem a9P(h:y'T X e tt):b8p X [e] tt:=⟨L2.c1C h.h⟩
theorem Q9{elt iter:Expr}{px:Pos}{ifs:List Expr}{scope:Scope}{wi:TI}(hc:T0 X.N X.env.scope scope x)(hcalm:X.calm=true)(hi:b0E X (.Name x px) iter wi)
  (ht:∀cl C fp s3 H3,b8p (U7 X scope cl C x fp s3 H3) ifs tt) (he:∀cl C fp s3 H3,y'E (U7 X scope cl C x fp s3 H3) elt te)
  (hs:∀x,P6 iter X.env x=pure x:=by intro _;rfl):y'E X (.ListComp elt [⟨.Name x px,iter,ifs,0⟩] scope pos) (Z2 wi tt te):=
 ⟨L2.c1V hc hcalm hi.h (fun cl C fp s3 H3=>(ht cl C fp s3 H3).h) (fun cl C fp s3 H3=>(he cl C fp s3 H3).h) hs⟩
theorem a2U{elt iter:Expr}{px py spos:Pos}{ifs:List Expr}{scope:Scope}{wi:TI}{n:Nat}{y:Str}(hN:X.N.Nodup)(hiy:X.N[n]? = some y)(hy:X.env.scope.names.lookup y=some .local)(hc:T0 X.N X.env.scope scope x)(hcalm:X.calm=true)(hi:b0E X (.Name x px) iter wi)
  (ht:∀cl C fp s3 H3,b8p (U7 X scope cl C x fp s3 H3) ifs tt) (he:∀cl C fp s3 H3,y'E (U7 X scope cl C x fp s3 H3) elt te)
  (hsw:a1P (.ListComp elt [⟨.Name x px,iter,ifs,0⟩] scope pos) (some (.Name y py)) spos.line X.env=pure true:=by rfl)
  (hs:∀x,P6 iter X.env x=pure x:=by intro _;rfl) :
  y'S X (.Assign [.Name y py] (.ListComp elt [⟨.Name x px,iter,ifs,0⟩] scope pos) spos) (fun D σ H=>Z2 wi tt te σ H fun v H1=>D.nx (σ.set n (some v)) H1):=
 ⟨L2.b4t hN hiy hy hc hcalm hi.h (fun cl C fp s3 H3=>(ht cl C fp s3 H3).h) (fun cl C fp s3 H3=>(he cl C fp s3 H3).h) hsw hs⟩
theorem b7{n:Int}{j}:y'E X (.Constant (.int n) j pos) (tC (.int n)):=⟨L2.c4S⟩
theorem Q2{v:Bool}{j}:y'E X (.Constant (.bool v) j pos) (tC (.bl v)):=⟨L2.c6Z⟩
theorem a3Q{j}:y'E X (.Constant .none j pos) (tC .non):=⟨L2.c4P⟩
theorem z8{j}:y'E X (.Constant (.str x) j pos) (tC (.str x)):=⟨L2.c4L⟩
theorem c8(n:Nat)(hN:X.N[n]? = some x:=by rfl)(hv:Vis X.env.scope x:=by first | exact Or.inl rfl | exact Or.inr (Or.inl rfl) | exact Or.inr (Or.inr rfl))(hd:(x == ("__debug__" : Str))=false:=by decide)
  (hcd:(x == ("__classdict__" : Str))=false:=by decide):y'E X (.Name x pos) (c6 n):=⟨L2.c4J hN hv hd hcd⟩
theorem L3{v:V}{u:Value}(hg:Gl X x)(hm:X.mg x=none)(hv:U0 x=some u)(r:F1 v u)(hn:x ≠ "__name__" := by decide)(hd:(x == ("__debug__" : Str))=false:=by decide):y'E X (.Name x pos) (tC v):=⟨L2.c1Y hg hm hv r hn hd⟩
theorem P7{v:V}(hm:∃u,X.mg x=some u/\F1 v u)(hg:Gl X x)(hd:(x == ("__debug__" : Str))=false:=by decide):y'E X (.Name x pos) (tC v):=by
 obtain⟨u,h1,h2⟩:=hm
 exact⟨L2.c1S hg h1 h2 hd⟩
theorem A5{op:b7T}{r:R2}(ho:V2 X (X0 op) r)(ha:y'E X a ta)(hb:y'E X b tb):y'E X (.BinOp a op b pos) (tOp r ta tb):=⟨L2.c6V ho.h ha.h hb.h⟩
theorem a5v{op:UnaryOp}{r:V->Hp->VK->Prop}(ho:c3i X (unaryOp op) r)(ha:y'E X a ta):y'E X (.UnaryOp op a pos) (tUn r ta):=⟨L2.c6T ho.h ha.h⟩
theorem b2r(ha:y'E X a ta):y'E X (.UnaryOp .Not a pos) (a9Z ta):=⟨L2.c4O ha.h⟩
theorem a1L{op:CmpOp}{r:R2}(ho:V2 X (A3 op) r)(ha:y'E X a ta)(hb:y'E X b tb)(hm:Q3 op b=false):y'E X (.Compare a [op] [b] pos) (tOp r ta tb):=⟨L2.c1W ho.h ha.h hb.h hm⟩
theorem Y3{op:CmpOp}{r:R2}(ho:V2 X (A3 op) r)(ha:y'E X a ta)(hb:y'E X b tb)(hm:Q3 op b=false):y'T X (.Compare a [op] [b] pos) (D5 (tOp r ta tb)):=⟨L2.c1E ho.h ha.h hb.h hm⟩
theorem a2W{op op':CmpOp}{r r':R2}(ho:V2 X (A3 op) r)(ho':V2 X (A3 op') r')(ha:y'E X a ta)(hb:y'E X b tb)(hc:y'E X c tc)
  (hm:c6o [op,op'] [b,c]=false:=by with_unfolding_all rfl):y'E X (.Compare a [op,op'] [b,c] pos) (a2x r r' ta tb tc):=⟨L2.b9N ho.h ho'.h ha.h hb.h hc.h hm⟩
theorem b3N{op op':CmpOp}{r r':R2}(ho:V2 X (A3 op) r)(ho':V2 X (A3 op') r')(ha:y'E X a ta)(hb:y'E X b tb)(hc:y'E X c tc)
  (hm:c6o [op,op'] [b,c]=false:=by with_unfolding_all rfl):y'T X (.Compare a [op,op'] [b,c] pos) (D5 (a2x r r' ta tb tc)):=⟨L2.b9z ho.h ho'.h ha.h hb.h hc.h hm⟩
theorem U2{op}(h:y'E X a te):y'E X (.BoolOp op [a] pos) te:=⟨L2.c4N h.h⟩
theorem Q4(ha:y'E X a ta)(hb:y'E X (.BoolOp .And (b::more) pos) tb):y'E X (.BoolOp .And (a::b::more) pos) (a0h ta tb):=⟨L2.c4W ha.h hb.h⟩
theorem c1b(ha:y'E X a ta)(hb:y'E X (.BoolOp .Or (b::more) pos) tb):y'E X (.BoolOp .Or (a::b::more) pos) (c1i ta tb):=⟨L2.c6U ha.h hb.h⟩
theorem a0R(hc:y'T X c tt)(ha:y'E X a ta)(hb:y'E X b tb):y'E X (.IfExp c a b pos) (tIf tt ta tb):=⟨L2.b9J hc.h ha.h hb.h⟩
theorem M4{k}(h:y'A X es tr):y'E X (.Tuple es k pos) (a1h tr):=⟨L2.c4K h.h⟩
theorem D8(h:y'A X es tr):y'E X (.List es pos) (V9 tr):=⟨L2.c4R h.h⟩
theorem a4v:y'O X none a2Y:=⟨L2.c1N⟩
theorem a4u(h:y'E X e te):y'O X (some e) (a8l te):=⟨L2.c1M h.h⟩
theorem a2V{lo hi:Option Expr}{tl th:TO}{r:V->Option Int->Option Int->Hp->VK->Prop}(hr:b8q X r)(he:y'E X e te)(hl:y'O X lo tl)(hu:y'O X hi th):y'E X (.Subscript e (.Slice lo hi none p) pos) (tSl r te tl th):=⟨L2.b9I hr.h he.h hl.h hu.h⟩
theorem a0Y{r:R2}(hr:b8r X r)(ha:y'E X a ta)(hb:y'E X b tb)(hs:b2b b):y'E X (.Subscript a b pos) (tOp r ta tb):=⟨L2.c6X hr.h ha.h hb.h hs⟩
theorem b8k{k j:Nat}{ps:List Str}{sp:Sp}(C:E9 X.prog X.w X.K X.mg X.base k x ps sp)(hr:Q6 j X.A)(hk:k<=j)(hg:Gl X x)(ha:y'A X (e::es) tr)
  (hdb:(x == ("__debug__" : Str))=false:=by decide) (he:i8 (e::es) X.env=(false,eval e X.env)::i8 es X.env:=by rfl) (hpl:(Y0 pos (i8 es X.env)).any (·.1)=false:=by rfl) :
  y'E X (.Call (.Name x p) (e::es) [] pos) (v7 sp [] E0 tr):=⟨L2.c4M C hr hk hg ha.h hdb he hpl⟩
theorem l9{id:String}{r:List V->Hp->VK->Prop}(hc:X4 X (.builtin id) r)(hg:Gl X x)(hm:X.mg x=none)(hv:U0 x=some (.builtin id))(ha:y'A X (e::es) tr)(hn:x ≠ "__name__" := by decide)(hdb:(x == ("__debug__" : Str))=false:=by decide)
  (he:i8 (e::es) X.env=(false,eval e X.env)::i8 es X.env:=by rfl) (hpl:(Y0 pos (i8 es X.env)).any (·.1)=false:=by rfl):y'E X (.Call (.Name x p) (e::es) [] pos) (tCB r tr):=⟨L2.b9O hc.h hg hm hv ha.h hn hdb he hpl⟩
theorem J7{id:String}{r:List V->Hp->VK->Prop}(hc:X4 X (.type id) r)(hg:Gl X x)(hm:X.mg x=none)(hv:U0 x=some (.type id))(ha:y'A X (e::es) tr)(hn:x ≠ "__name__" := by decide)(hdb:(x == ("__debug__" : Str))=false:=by decide)
  (he:i8 (e::es) X.env=(false,eval e X.env)::i8 es X.env:=by rfl) (hpl:(Y0 pos (i8 es X.env)).any (·.1)=false:=by rfl):y'E X (.Call (.Name x p) (e::es) [] pos) (tCB r tr):=⟨L2.b6R hc.h hg hm hv ha.h hn hdb he hpl⟩
theorem S3{ty id:String}{name:Str}{r:V->List V->Hp->VK->Prop}{apos:Pos}(pa:c3g ty)(slot:Slot ty name id)(hty:typeOf (.builtin id)=pure (.type "method_descriptor"))(hm:a5A X id r)(ho:y'E X o to)(ha:y'A X (e::es) tr)
  (hbase:Y1 o name X.env (eval o X.env)=eval o X.env:=by rfl)
  (hfew:((Y0 pos (i8 (e::es) X.env)).all (fun x => !x.1)&&(a9r pos (a2w [] X.env)).all (fun x=>x.1.isSome)
   && decide ((e::es).length+([]:List a6k).length+(if([]:List a6k).isEmpty then 0 else 1)<30))=true:=by rfl)
  (hline:(apos.endLine == pos.line)=true:=by rfl) (hs:i8 (e::es) X.env=(false,eval e X.env)::i8 es X.env:=by rfl) (hplain:(Y0 pos (i8 es X.env)).any (·.1)=false:=by rfl) :
  y'E X (.Call (.Attribute o name apos) (e::es) [] pos) (tBM X.K ty r to tr):=⟨L2.c6Y pa slot hty hm.h ho.h ha.h hbase hfew hline hs hplain⟩
theorem K8(ha:y'T X a tt):y'T X (.UnaryOp .Not a pos) (a0V tt):=⟨L2.c4A ha.h⟩
theorem a1J(ha:y'T X a tt):y'W X (.BoolOp .And [a] pos) tt:=⟨L2.c1A ha.h⟩
theorem U1(ha:y'T X a tt):y'W X (.BoolOp .Or [a] pos) tt:=⟨L2.c4x ha.h⟩
theorem a2I(ha:y'T X a tt)(hb:y'W X (.BoolOp .And (b::more) pos) tu):y'W X (.BoolOp .And (a::b::more) pos) (b0I tt tu):=⟨L2.c4y ha.h hb.h⟩
theorem Q8(ha:y'T X a tt)(hb:y'W X (.BoolOp .Or (b::more) pos) tu):y'W X (.BoolOp .Or (a::b::more) pos) (tOr tt tu):=⟨L2.c6R ha.h hb.h⟩
theorem Q1(h:y'W X e tt):y'T X e tt:=⟨PW.pt h.h⟩
theorem J5(h:y'E X e te)(he:∀whole,isTrue e X.env whole=(do let v <-whole;b8d e.pos;a3M [v] (truthy v)):=by intro _;rfl):y'T X e (tB te):=⟨L2.c4z h.h he⟩
theorem F5:V2 X (X0 .Add) a0c:=⟨L2.c2k⟩
theorem a0T:V2 X (X0 .Sub) b1f:=⟨L2.c2b⟩
theorem a0U:V2 X (X0 .Mult) b1g:=⟨L2.c2e⟩
theorem b8m:V2 X (X0 .Mult) c4m:=⟨L2.c5a⟩
theorem M9:V2 X (X0 .Mod) a2P:=⟨L2.c2f⟩
theorem a6l:V2 X (X0 .FloorDiv) b9w:=⟨L2.c2j⟩
theorem A6{k:Nat}(hr:Q6 k X.A):V2 X (A3 .Eq) qEq:=⟨L2.c5h hr.units0⟩
theorem a3S{k:Nat}(hr:Q6 k X.A):V2 X (A3 .NotEq) qNe:=⟨L2.c5b hr.units0⟩
theorem V1:X4 X (.type "list") a2o:=⟨L2.b5d⟩
theorem W8:V2 X (A3 .Lt) qLt:=⟨L2.c5c⟩
theorem a2M:V2 X (A3 .LtE) qLe:=⟨L2.c5d⟩
theorem a1g:V2 X (A3 .Gt) qGt:=⟨L2.c5f⟩
theorem b8n:V2 X (A3 .GtE) qGe:=⟨L2.c5g⟩
theorem a3T:V2 X (A3 .In) (qIn false):=⟨L2.c5e⟩
theorem a6X:V2 X (A3 .NotIn) (qIn true):=⟨L2.b6U⟩
theorem a6Y:V2 X (A3 .IsNot) b1h:=⟨L2.b6V⟩
theorem a1z:X4 X (.type "dict") a4S:=⟨L2.b5g⟩
theorem a2i:X4 X (.type "int") b2Q:=⟨L2.b7E⟩
theorem a4X:y'E X (.Dict [] [] pos) a6o:=⟨L2.b9K⟩
theorem b6u{k:Nat}(hr:Q6 k X.A)(ho:y'E X o to)(hi:y'E X i ti)(hs:c5X i):y'E X (.Subscript o i pos) (b5F to ti):=⟨L2.c1U (b0k hr) ho.h hi.h hs⟩
theorem b8l{k:Nat}(hr:Q6 k X.A)(hi:y'E X i ti)(ho:y'E X o to)(h1:Q3 .In o=false):y'E X (.Compare i [.In] [o] pos) (b0H ti to):=⟨L2.c4U (L2.b9P (b0k hr) hi.h ho.h) h1⟩
theorem b2q{k:Nat}(hr:Q6 k X.A)(hi:y'E X i ti)(ho:y'E X o to)(h1:Q3 .In o=false):y'T X (.Compare i [.In] [o] pos) (tB (b0H ti to)):=⟨L2.b9y (L2.b9P (b0k hr) hi.h ho.h) h1⟩
theorem Z7{k:Nat}(hr:Q6 k X.A)(ho:y'E X o to)(hi:y'E X i ti)(hv:y'E X e te)(hs:a1P e (some (.Subscript o i pos')) pos.line X.env=pure false:=by rfl):y'S X (.Assign [.Subscript o i pos'] e pos) (a1Z to ti te):=⟨L2.c1J (b0k hr) ho.h hi.h hv.h hs⟩
theorem a7Y{k:Nat}{apos:Pos}{f:Expr}{tf:TE}(hr:Q6 k X.A)(ho:y'E X o to)(he:y'E X e te)(hf:y'E X f tf)(m1:Y1 o "get" X.env (eval o X.env)=eval o X.env:=by rfl)
  (m2:((Y0 pos (i8 [e,f] X.env)).all (fun x => !x.1)&&(a9r pos (a2w [] X.env)).all (fun x=>x.1.isSome)
   && decide (([e,f]:List Expr).length+([]:List a6k).length+(if([]:List a6k).isEmpty then 0 else 1)<30))=true:=by rfl)
  (m3:(apos.endLine == pos.line)=true:=by rfl) (m4:Y0 pos (i8 [e,f] X.env)=[(false,eval e X.env),(false,eval f X.env)]:=by rfl) :
  y'E X (.Call (.Attribute o "get" apos) [e,f] [] pos) (a8m to te tf):=⟨L2.b9L (b0k hr) ho.h he.h hf.h ⟨m1,m2,m3,m4⟩⟩
theorem b8j{tg:Expr}(h:y'E X e te):b0E X tg e (c2K te):=⟨L2.c4H h.h⟩
theorem a7a(hc:X.calm=true):X4 X (.builtin "all") b1i:=⟨L2.b7G hc⟩
theorem a3N:c3i X (unaryOp .USub) (rU fun i=>.int (-i)):=⟨L2.c3O⟩
theorem c3N:b8r X qIx:=⟨L2.c7M⟩
theorem b3M:b8q X qSl:=⟨L2.c7A⟩
theorem b6o:b8q X (c4l X.K):=⟨L2.b5H⟩
theorem a4t:b3Q X a8E:=⟨L2.c6s⟩
theorem c1d:b8s X b6L:=⟨L2.c7k⟩
theorem b8o:c3j X .Add (ipI fun i j=>i+j):=⟨L2.c5J⟩
theorem z7:X4 X (.builtin "len") U6:=⟨L2.b7C⟩
theorem b2x:X4 X (.builtin "abs") b9x:=⟨L2.b7H⟩
theorem F9:X4 X (.builtin "isinstance") a1r:=⟨L2.b7D⟩
theorem J8:a5A X "list.append" R0:=⟨L2.b4K⟩
theorem b3P:a5A X "str.join" a8F:=⟨L2.c0j⟩
end
theorem b2u{P:D6}{w:World}{K:Fg}{mg:Str->Option Value}{base:Heap}{x qual:Str}{st:Stmt}{f:Addr}{fd:Y9}{N ps:List Str}{k:Nat}{sp:Sp}(F:Fun K x qual st f fd)(y'S:C5 N ps (o5 st))(len:∀vs H Q y'E,sp vs H Q y'E->vs.length=ps.length)
  (hbody:∀(cdv:Value) (y'A:K7) (outer:List Env) (s:l4) (H:Hp) (vs:List V) (Q:VK) (y'E:XK),Q6 k (y'A.deeper (b2o qual (o5 st) s.heap.objs.size f cdv))->sp vs H Q y'E ->
   ∃t,a8b (b3m CX0 P w K mg base N qual (o5 st) f cdv y'A outer s H y'E).nox (a0H st) t/\t { nx:=fun _ H'=>Q .non H',rt:=Q } (a5F N vs) H):L9 P w K mg base CX0 (k+1) f fd ps sp:=
 F.ok y'S len fun cdv y'A outer s H vs Q y'E hr h=>let⟨t,a,b⟩:=hbody cdv y'A outer s H vs Q y'E hr h; ⟨t,a.h,b⟩
end Y
namespace Y
open PySem PySem.Spec PyProof.Rows L2
section
variable {X:Cx}{st:Stmt}{rest:List Stmt}{t u:TS}{e a b c o i:Expr}{es more:List Expr}{te ta tb tc to ti:TE}{tt tu:TT}{tr:TA}{pos p pos':Pos}{x y:Str}
theorem a2J{elts:List Expr}{x1}{tp:Pos}(hg:Gl X "enumerate")(hm:X.mg "enumerate" = none)(ha:y'A X [a] tr)(hs:i8 [a] X.env=[(false,eval a X.env)]:=by rfl) :
  b0E X (.Tuple elts x1 tp) (.Call (.Name "enumerate" p) [a] [] pos) (a7l X.K tr):=⟨L2.c1P hg hm ha.h hs⟩
theorem b8i{elts:List Expr}{x1}{tp:Pos}(hg:Gl X "zip")(hm:X.mg "zip" = none)(ha:y'A X [a,b] tr)(hs:i8 [a,b] X.env=[(false,eval a X.env),(false,eval b X.env)]:=by rfl)(hs2:i8 [b] X.env=[(false,eval b X.env)]:=by rfl) :
  b0E X (.Tuple elts x1 tp) (.Call (.Name "zip" p) [a,b] [] pos) (c2J X.K tr):=⟨L2.c4G hg hm ha.h hs hs2⟩
theorem a7Z{elt iter:Expr}{px py pt:Pos}{kt}{ifs:List Expr}{scope:Scope}{wi:TI}(hc:a3v X.N X.env.scope scope x y)(hcalm:X.calm=true)(hi:b0E X (.Tuple [.Name x px,.Name y py] kt pt) iter wi)
  (ht:∀cl C fp s3 H3,b8p (S8 X scope cl C x y fp s3 H3) ifs tt) (he:∀cl C fp s3 H3,y'E (S8 X scope cl C x y fp s3 H3) elt te)
  (hs:∀x,P6 iter X.env x=pure x:=by intro _;rfl):y'E X (.ListComp elt [⟨.Tuple [.Name x px,.Name y py] kt pt,iter,ifs,0⟩] scope pos) (a8n X.K wi tt te):=
 ⟨L2.b9M hc hcalm hi.h (fun cl C fp s3 H3=>(ht cl C fp s3 H3).h) (fun cl C fp s3 H3=>(he cl C fp s3 H3).h) hs⟩
theorem a7W{body:List Stmt}(hp:b2p (model X.prog X.w) X.A X.env X.xe)(hc:y'T X c tt)(hb:a8b X body t):y'S X (.While c body [] pos) (a8k tt t):=⟨L2.b9B hp hc.h hb.h⟩
theorem a1R{e c:Option Expr}:y'S X (.Raise e c pos) (fun _ _ _=>False):=⟨L2.b9C⟩
theorem a3R{f:Str}(he:y'E X e te)(hb:Y1 e f X.env (eval e X.env)=eval e X.env:=by rfl):y'E X (.Attribute e f pos) (b2D X.K te f):=⟨L2.c4T he.h hb⟩
theorem a7X{f:Str}(ha:y'E X o to)(hv:y'E X e te)(hs:a1P e (some (.Attribute o f pos')) pos.line X.env=pure false:=by rfl):y'S X (.Assign [.Attribute o f pos'] e pos) (b6K X.K to te f):=⟨L2.c4D ha.h hv.h hs⟩
theorem c1c{k j:Nat}{C:Addr}{ps:List Str}{sp:Sp}(M:b3y X.prog X.w X.K X.mg X.base k x C ps sp)(hr:Q6 j X.A)(hk:k+1<=j)(hg:Gl X x)(ha:y'A X (e::es) tr)
  (hdb:(x == ("__debug__" : Str))=false:=by decide) (he:i8 (e::es) X.env=(false,eval e X.env)::i8 es X.env:=by rfl) (hpl:(Y0 pos (i8 es X.env)).any (·.1)=false:=by rfl) :
  y'E X (.Call (.Name x p) (e::es) [] pos) (b0b C sp [] E0 tr):=⟨L2.c6W M hr hk hg ha.h hdb he hpl⟩
theorem b2s{pl:Sem Bool}{k j:Nat}{m:Str}{C:Addr}{ps:List Str}{sp:Sp}{apos:Pos}(M:a7R X.prog X.w X.K X.mg X.base k m C ps sp)(hr:Q6 j X.A)(hk:k<=j)(ho:y'E X o to)(ha:y'A X (e::es) tr)
  (hst:i8 (e::es) X.env=(false,eval e X.env)::i8 es X.env:=by rfl) (hpl:(Y0 pos (i8 es X.env)).any (·.1)=false:=by rfl)
  (ht:eval (.Call (.Attribute o m apos) (e::es) [] pos) X.env=(do
   let ov <-eval o X.env
   b8d apos.atName
   let(f,first) <-a3M [ov] (b8e ov m pl)
   callWith pos f first (Y0 pos (i8 (e::es) X.env)) (a9r pos (a2w [] X.env))):=by rfl) :
  y'E X (.Call (.Attribute o m apos) (e::es) [] pos) (b0a C m sp [] E0 to tr):=⟨L2.c4Q (pl:=pl) M hr hk ho.h ha.h hst hpl ht⟩
theorem a2L{ty id:String}{name:Str}{r:V->List V->Hp->VK->Prop}{apos:Pos}(pa:c3g ty)(slot:Slot ty name id)(hty:typeOf (.builtin id)=pure (.type "method_descriptor"))(hm:a5A X id r)(ho:y'E X o to)
  (hbase:Y1 o name X.env (eval o X.env)=eval o X.env:=by rfl) (hline:(apos.endLine == pos.line)=true:=by rfl):y'E X (.Call (.Attribute o name apos) [] [] pos) (a9u X.K ty r to):=⟨L2.c4V pa slot hty hm.h ho.h hbase hline⟩
structure c1e(X:Cx)(pos:Pos)(ks:List (Option Expr))(vs:List Expr)(trs:List (TE×TE)):Prop where h:PPs X pos ks vs trs
theorem b6r:c1e X pos [] [] []:=⟨L2.c1L⟩
theorem b3O{ks:List (Option Expr)}{vs:List Expr}{trs:List (TE×TE)}(hk:y'E X a ta)(hv:y'E X b tb)(hr:c1e X pos ks vs trs):c1e X pos (some a::ks) (b::vs) ((ta,tb)::trs):=⟨L2.b9E hk.h hv.h hr.h⟩
theorem b6t{keys:List (Option Expr)}{values:List Expr}{trs:List (TE×TE)}(h:c1e X pos keys values trs)(hall:keys.all (·.isSome)=true:=by rfl)(hl:keys.length=values.length:=by rfl)(h0:keys≠[]:=by intro z;cases z)
  (h15:keys.length<=15:=by decide):y'E X (.Dict keys values pos) (b8H trs):=⟨L2.c1T h.h hall hl h0 h15⟩
theorem a3O{k:Nat}(hr:Q6 k X.A)(hi:y'E X i ti)(ho:y'E X o to)(h1:Q3 .NotIn o=false):y'T X (.Compare i [.NotIn] [o] pos) (tB (a4w ti to)):=⟨L2.b9y (L2.b6S (b0k hr) hi.h ho.h) h1⟩
theorem b2v(hc:X.calm=true):X4 X (.builtin "min") b9t:=⟨L2.b7B hc⟩
theorem b2w(hc:X.calm=true):X4 X (.builtin "any") b4r:=⟨L2.b7F hc⟩
theorem a8a:X4 X (.builtin "sorted") a4D:=⟨L2.b1R⟩
theorem a9t(hc:X.calm=true):X4 X (.type "list") a6x:=⟨L2.b3v hc⟩
theorem b0D:X4 X (.builtin "isinstance") (b9v X.K):=⟨L2.b5f⟩
theorem b2t:a5A X "list.index" a6y:=⟨L2.b7e⟩
theorem a5y:a5A X "list.extend" a3l:=⟨L2.b4I⟩
theorem a9T:a5A X "list.pop" b4q:=⟨L2.c2t⟩
theorem a6Z:a5A X "list.clear" a5e:=⟨L2.b7f⟩
theorem a9S{k:Nat}(hr:Q6 k X.A):V2 X (A3 .Eq) (c1z X.K):=⟨L2.c2i hr⟩
theorem b0C:X4 X (.builtin "len") (b9u X.K):=⟨L2.b5e⟩
theorem b6w:V2 X (A3 .In) (c4v X.K):=⟨L2.c2g⟩
theorem a1y:b8r X (a8G X.K):=⟨L2.c7j⟩
end
end Y
namespace Y
open PySem PySem.Spec PyProof.Rows L2
end Y
namespace Y
open PySem PySem.Spec PyProof.Rows L2
end Y
namespace Y
open PySem PySem.Spec PyProof.Rows L2
end Y
namespace Y
open PySem PySem.Spec PyProof.Rows L2
end Y
namespace Y
open PySem PySem.Spec PyProof.Rows L2
end Y
namespace Y
open PySem PySem.Spec PyProof.Rows L2
section
variable {X:Cx}{e0 e1 e2 e3 e4:Expr}{t0 t1 t2 t3 t4:TE}
theorem u6(h0:y'E X e0 t0)(s0:i8 [e0] X.env=(false,eval e0 X.env)::i8 [] X.env:=by rfl):y'A X [e0] (b6 t0 d7):=(N9 h0 O2 s0)
theorem z6(h0:y'E X e0 t0)(h1:y'E X e1 t1)(s0:i8 [e0,e1] X.env=(false,eval e0 X.env)::i8 [e1] X.env:=by rfl)(s1:i8 [e1] X.env=(false,eval e1 X.env)::i8 [] X.env:=by rfl):y'A X [e0,e1] (b6 t0 (b6 t1 d7)):=(N9 h0 (N9 h1 O2 s1) s0)
theorem a5x(h0:y'E X e0 t0)(h1:y'E X e1 t1)(h2:y'E X e2 t2)(s0:i8 [e0,e1,e2] X.env=(false,eval e0 X.env)::i8 [e1,e2] X.env:=by rfl)(s1:i8 [e1,e2] X.env=(false,eval e1 X.env)::i8 [e2] X.env:=by rfl)(s2:i8 [e2] X.env=(false,eval e2 X.env)::i8 [] X.env:=by rfl):y'A X [e0,e1,e2] (b6 t0 (b6 t1 (b6 t2 d7))):=(N9 h0 (N9 h1 (N9 h2 O2 s2) s1) s0)
theorem a5w(h0:y'E X e0 t0)(h1:y'E X e1 t1)(h2:y'E X e2 t2)(h3:y'E X e3 t3)(s0:i8 [e0,e1,e2,e3] X.env=(false,eval e0 X.env)::i8 [e1,e2,e3] X.env:=by rfl)(s1:i8 [e1,e2,e3] X.env=(false,eval e1 X.env)::i8 [e2,e3] X.env:=by rfl)(s2:i8 [e2,e3] X.env=(false,eval e2 X.env)::i8 [e3] X.env:=by rfl)(s3:i8 [e3] X.env=(false,eval e3 X.env)::i8 [] X.env:=by rfl):y'A X [e0,e1,e2,e3] (b6 t0 (b6 t1 (b6 t2 (b6 t3 d7)))):=(N9 h0 (N9 h1 (N9 h2 (N9 h3 O2 s3) s2) s1) s0)
theorem a9Q(h0:y'E X e0 t0)(h1:y'E X e1 t1)(h2:y'E X e2 t2)(h3:y'E X e3 t3)(h4:y'E X e4 t4)(s0:i8 [e0,e1,e2,e3,e4] X.env=(false,eval e0 X.env)::i8 [e1,e2,e3,e4] X.env:=by rfl)(s1:i8 [e1,e2,e3,e4] X.env=(false,eval e1 X.env)::i8 [e2,e3,e4] X.env:=by rfl)(s2:i8 [e2,e3,e4] X.env=(false,eval e2 X.env)::i8 [e3,e4] X.env:=by rfl)(s3:i8 [e3,e4] X.env=(false,eval e3 X.env)::i8 [e4] X.env:=by rfl)(s4:i8 [e4] X.env=(false,eval e4 X.env)::i8 [] X.env:=by rfl):y'A X [e0,e1,e2,e3,e4] (b6 t0 (b6 t1 (b6 t2 (b6 t3 (b6 t4 d7))))):=(N9 h0 (N9 h1 (N9 h2 (N9 h3 (N9 h4 O2 s4) s3) s2) s1) s0)
end
end Y
local macro_rules | `(tactic| walk_at "sc") => `(tactic| exact ⟨rfl, rfl, rfl, by decide +kernel, rfl, by decide +kernel, by decide +kernel⟩)
namespace Y
open PySem PySem.Spec PyProof.Rows L2
section
variable {X:Cx}{e a b o:Expr}{es:List Expr}{te ta tb to:TE}{tr:TA}{pos p pos':Pos}{x:Str}
theorem z9(n:Nat)(hN:X.N.Nodup)(he:y'E X e te)(hi:X.N[n]? = some x:=by rfl)(hx:Loc X.env.scope x:=by first | exact Or.inl rfl | exact Or.inr rfl)(hs:a1P e (some (.Name x pos')) pos.line X.env=pure false:=by rfl)(hf:X.fn x=true\/X.env.scope.names.lookup x=some .local:=by first | exact .inl rfl | exact .inr rfl) :
  y'S X (.Assign [.Name x pos'] e pos) (F2 te (v5 n)):=b8h hN hi hx he hs hf
theorem M5(n:Nat)(hN:X.N.Nodup)(hi:X.N[n]? = some x:=by rfl)(hx:Loc X.env.scope x:=by first | exact Or.inl rfl | exact Or.inr rfl)(hf:X.fn x=true\/X.env.scope.names.lookup x=some .local:=by first | exact .inl rfl | exact .inr rfl):y'G X (.Name x pos) (v5 n):=b6s hN hi hx hf
theorem q9{k j:Nat}{ps:List Str}{sp:Sp}(C:E9 X.prog X.w X.K X.mg X.base k x ps sp)(hr:Q6 j X.A)(ha:y'A X (e::es) tr)(hk:k<=j:=by decide)(hg:Gl X x:=by rfl)
  (hdb:(x == ("__debug__" : Str))=false:=by decide) (he:i8 (e::es) X.env=(false,eval e X.env)::i8 es X.env:=by rfl) (hpl:(Y0 pos (i8 es X.env)).any (·.1)=false:=by rfl) :
  y'E X (.Call (.Name x p) (e::es) [] pos) (v7 sp [] E0 tr):=b8k C hr hk hg ha hdb he hpl
theorem c3M{k j:Nat}{C:Addr}{ps:List Str}{sp:Sp}(M:b3y X.prog X.w X.K X.mg X.base k x C ps sp)(hr:Q6 j X.A)(ha:y'A X (e::es) tr)(hk:k+1<=j:=by decide)(hg:Gl X x:=by rfl)
  (hdb:(x == ("__debug__" : Str))=false:=by decide) (he:i8 (e::es) X.env=(false,eval e X.env)::i8 es X.env:=by rfl) (hpl:(Y0 pos (i8 es X.env)).any (·.1)=false:=by rfl) :
  y'E X (.Call (.Name x p) (e::es) [] pos) (b0b C sp [] E0 tr):=c1c M hr hk hg ha hdb he hpl
theorem p9(ha:y'E X a ta)(hb:y'E X b tb)(hs:b2b b:=by exact fun _ _=>rfl):y'E X (.Subscript a b pos) (tOp qIx ta tb):=a0Y c3N ha hb hs
theorem a0S{op:CmpOp}{r:R2}(ho:V2 X (A3 op) r)(ha:y'E X a ta)(hb:y'E X b tb)(hm:Q3 op b=false:=by exact a4g _):y'E X (.Compare a [op] [b] pos) (tOp r ta tb):=a1L ho ha hb hm
theorem D1{op:CmpOp}{r:R2}(ho:V2 X (A3 op) r)(ha:y'E X a ta)(hb:y'E X b tb)(hm:Q3 op b=false:=by exact a4g _):y'T X (.Compare a [op] [b] pos) (D5 (tOp r ta tb)):=Y3 ho ha hb hm
end
end Y
namespace Y
open PySem PySem.Spec PyProof.Rows L2
section
variable {X:Cx}{e o i:Expr}{te to ti:TE}{t:TS}{pos p:Pos}{k:Nat}
end
end Y
namespace Y
open PySem PySem.Spec PyProof.Rows L2
end Y
namespace Y
open PySem PySem.Spec PyProof.Rows L2
section
variable {X:Cx}{i o:Expr}{ti to:TE}{pos:Pos}{k:Nat}
end
end Y
namespace Y
open PySem PySem.Spec PyProof.Rows L2
section
variable {X:Cx}{k:Nat}
end
end Y
namespace Y
open PySem PySem.Spec PyProof.Rows L2
section
variable {X:Cx}{e o i:Expr}{te to ti:TE}{t:TS}{pos p:Pos}{k:Nat}
theorem b6p{tg:Expr}{g:TG}{body:List Stmt}(hp:b2p (model X.prog X.w) X.A X.env X.xe)(hc:X.calm=true)(hl:y'E X e te)(hg:y'G X tg g)(hb:a8b X body t)
  (hs:∀x,P6 e X.env x=pure x:=by intro _;rfl):y'S X (.For tg e body [] pos) (b8G te g t):=⟨L2.c1H hp hc hl.h hg.h hb.h hs⟩
end
end Y
namespace Y
open PySem PySem.Spec PyProof.Rows L2
section
variable {X:Cx}{k:Nat}{e:Expr}{te:TE}{p p2 pos pos2:Pos}
theorem b6x(hr:Q6 k X.A):V2 X (A3 .Eq) (c4w X.K):=⟨L2.c2h hr⟩
theorem b6v(hr:Q6 k X.A):V2 X (A3 .NotEq) (c4u X.K):=⟨L2.c2d hr⟩
theorem b0B(he:y'E X e te)(hc:X.calm=true)(g1:Gl X "list")(m1:X.mg "list" = none)(g2:Gl X "reversed")(m2:X.mg "reversed" = none)(bl:U0 "list" = some (.type "list"))(br:U0 "reversed" = some (.type "reversed"))
  (s1:i8 [e] X.env=(false,eval e X.env)::i8 [] X.env:=by rfl):y'E X (.Call (.Name "list" p) [.Call (.Name "reversed" p2) [e] [] pos2] [] pos) (b5E te):=⟨L2.b4v he.h hc g1 m1 g2 m2 bl br s1⟩
end
end Y
namespace Y
open PySem PySem.Spec PyProof.Rows L2
section
variable {X:Cx}{k:Nat}
theorem a9R(hr:Q6 k X.A):V2 X (A3 .NotEq) (b9s X.K):=⟨L2.c2c hr⟩
theorem a5z:a5A X "dict.clear" a7F:=⟨L2.b4J⟩
end
end Y
namespace RD
open PySem PySem.Spec L2
variable{C a b c d dx l na p ra:Addr}{H H' H0 H1:Hp}{o:HO}{xs ys:List V}{i:Int}{D:a5p}{σ:St}{ta te to:TE}{tt:TT}{Q:VK}{v:V}{m n:Nat}{f:V->List V->Hp->VK->Prop}{z:Str}{ss:List Str}{QD:Hp->Prop}{R:It->Hp->Prop}{cs ks:List Nat}{M N:Nt}{L L0 ns:List Int}{as rs:List Addr}{Z:Addr->Prop}{RC:Nat->List V}
def C8(b:Addr)(H H':Hp):Prop:=(∀a o,H a=some o->a≠b->H' a=some o)/\∀o,H b=some o->∃o',H' b=some o'
theorem C8.refl(b:Addr)(H:Hp):C8 b H H:=⟨fun _ _ h _=>h,fun o h=>⟨o,h⟩⟩
theorem C8.trans{H2:Hp}(x:C8 b H H1)(y:C8 b H1 H2):C8 b H H2:=
 ⟨fun a o h n=>y.1 a o (x.1 a o h n) n,fun o h=>let⟨o',h'⟩:=x.2 o h;y.2 o' h'⟩
theorem C8.upd(b:Addr)(H:Hp)(o:HO):C8 b H (upd H b o):=⟨fun a u h n=>by rw[d6 n];exact h,fun _ _=>⟨o,f6⟩⟩
theorem C8.new(h:H p=none):C8 b H (L2.upd H p o):=
 ⟨fun a u e _=>by rw[d6 (d3 e h)];exact e,fun u e=>⟨u,by rw[d6 (d3 e h)];exact e⟩⟩
theorem C8.of_same(s:A0 H H'):C8 b H H':=⟨fun a o h _=>s a o h,fun o h=>⟨o,s _ _ h⟩⟩
theorem D7(h:H p=none):A0 H (L2.upd H p o):=fun a u e=>by rw[d6 (d3 e h)];exact e
theorem C8.none(k:C8 b H H')(h:H' p=Option.none):H p=Option.none:=by
 cases e:H p with
 | none=>rfl
 | some o=>
  by_cases z:p=b
  ·subst z
   obtain⟨o',h'⟩:=k.2 o e
   rw[h]at h'
   cases h'
  ·rw[k.1 p o e z]at h
   cases h
theorem C8.tup{b a:Addr}{H H':Hp}{xs ys:List V}(k:C8 b H H')(hb:H b=some (.lst ys))(h:H a=some (.tup xs)):H' a=some (.tup xs):=
 k.1 a _ h (F6 h hb (by intro z;cases z))
structure Bag(H:Hp)(b c:Addr):Prop where
 ex:∃(i0 i1 i2:Int) (ns:List Int),H b=some (.lst [.int i0,.int i1,.int i2,.ref c])/\H c=some (.lst (ns.map V.int))/\0<=i0/\0<=i1/\i1<2147483647/\0<=i2/\∀x∈ns,0<=x
theorem Bag.lst{H:Hp}{b c:Addr}(h:Bag H b c):∃xs,H b=some (.lst xs):=by
 obtain⟨i0,i1,i2,ns,h,_⟩:=h.ex
 exact⟨_,h⟩
theorem Bag.same(h:Bag H b c)(s:A0 H H'):Bag H' b c:=by
 obtain⟨i0,i1,i2,ns,h1,h2,r⟩:=h.ex
 exact⟨i0,i1,i2,ns,s _ _ h1,s _ _ h2,r⟩
theorem Bag.new(h:Bag H b c)(n:H p=none):Bag (L2.upd H p o) b c:=h.same (D7 n)
theorem Bag.put(h:Bag H b c)(n1:p≠b)(n2:p≠c):Bag (L2.upd H p o) b c:=by
 obtain⟨i0,i1,i2,ns,h1,h2,r⟩:=h.ex
 exact⟨i0,i1,i2,ns,by rw[d6 n1.symm];exact h1,by rw[d6 n2.symm];exact h2,r⟩
theorem Bag.nb(h:Bag H b c)(n:H p=none):p≠b/\p≠c:=by
 obtain⟨i0,i1,i2,ns,h1,h2,r⟩:=h.ex
 exact⟨(d3 h1 n).symm,(d3 h2 n).symm⟩
theorem C8.put(k:C8 b H H')(n:H p=Option.none):C8 b H (L2.upd H' p o):=
 ⟨fun a u e z=>by rw[d6 (d3 e n)];exact k.1 a u e z,fun u e=>by
  obtain⟨o',h⟩:=k.2 u e
  exact⟨o',by rw[d6 (d3 e n)];exact h⟩⟩
theorem R4{α:Type}(a:α)(r:List α):atI (a::r) 0=some a:=by
 have := @a0q α (a::r) 0 a rfl
 simpa using this
theorem a0m{α:Type}(a b:α)(r:List α):atI (a::b::r) 1=some b := @a0q α (a::b::r) 1 b rfl
theorem a6O{α:Type}(a b c:α)(r:List α):atI (a::b::c::r) 2=some c := @a0q α (a::b::c::r) 2 c rfl
theorem c5R{α:Type}(a b c d:α)(r:List α):atI (a::b::c::d::r) 3=some d := @a0q α (a::b::c::d::r) 3 d rfl
theorem a1u{α:Type}{xs:List α}(h0:0<=i)(h1:i<xs.length):∃v,atI xs i=some v/\xs[i.toNat]? = some v:=by
 have hl:i.toNat<xs.length:=by omega
 have e:xs[i.toNat]? = some (xs[i.toNat]'hl):=by simp[hl]
 refine⟨_,?_,e⟩
 have:=a0q e
 rwa [Int.toNat_of_nonneg h0]at this
section
variable {t u:TS}{tb tc ti:TE}{tu:TT}{tr:TA}{QB:Bool->Hp->Prop}{QA:List V->Hp->Prop}{QO:Option Int->Hp->Prop}{x y:V}{j:Int}{r r':R2}{K:Fg}
theorem W2(h:t { D with nx:=u D } σ H):v8 t u D σ H:=h
theorem a0x{P:St->Hp->Prop}(tail:∀σ H,P σ H->u D σ H)(main:∀nx:St->Hp->Prop,(∀σ H,P σ H->nx σ H)->t { D with nx:=nx } σ H):v8 t u D σ H:=main _ tail
theorem c3q{g:TG}(h:te σ H fun x H1=>g x σ H1 D.nx):F2 te g D σ H:=h
theorem b1c{QS:St->Hp->Prop}(h:QS (σ.set n (some v)) H):v5 n v σ H QS:=h
theorem c4c{QS:St->Hp->Prop}{ts:a9K}(h:to σ H fun o H1=>ti σ H1 fun i H2=>ts o i v H2 fun H3=>QS σ H3):b3i to ti ts v σ H QS:=h
theorem b9a(h:te σ H D.rt):F7 te D σ H:=h
theorem c4d(h:te σ H fun _ H1=>D.nx σ H1):V3 te D σ H:=h
theorem c1u(h:tt σ H fun b H1=>if b=true then t D σ H1 else u D σ H1):K9 tt t u D σ H:=h
theorem b0Y(h:D.nx σ H):E4 D σ H:=h
theorem b0W(h:te σ H fun x H'=>∃k,x=.bl k/\QB k H'):D5 te σ H QB:=h
theorem c7C(h:te σ H fun x H'=>∃k,x=.bl k/\QB k H'):tB te σ H QB:=h
theorem c6x(h:tt σ H fun c H1=>QB (!c) H1):a0V tt σ H QB:=h
theorem c6C(h:tt σ H fun c H1=>if c=true then tu σ H1 QB else QB false H1):b0I tt tu σ H QB:=h
theorem c3W(h:tt σ H fun c H1=>if c=true then QB true H1 else tu σ H1 QB):tOr tt tu σ H QB:=h
theorem c4h(h:ta σ H fun x H1=>∃c,x=.bl c/\if c=true then tb σ H1 Q else Q (.bl false) H1):a0h ta tb σ H Q:=h
theorem c6w(h:ta σ H fun x H1=>∃c,x=.bl c/\if c=true then Q (.bl true) H1 else tb σ H1 Q):c1i ta tb σ H Q:=h
theorem c3Y(h:ta σ H fun x H1=>∃c,x=.bl c/\Q (.bl (!c)) H1):a9Z ta σ H Q:=h
theorem c6z(h:tt σ H fun c H1=>if c=true then ta σ H1 Q else tb σ H1 Q):tIf tt ta tb σ H Q:=h
theorem b9b(h:ta σ H fun x H1=>tb σ H1 fun y H2=>r x y H2 Q):tOp r ta tb σ H Q:=h
theorem c1v(h:ta σ H fun x H1=>tb σ H1 fun y H2=>r x y H2 fun z H3=>∃k,z=.bl k/\(if k=true then tc σ H3 fun w' H4=>r' y w' H4 Q else Q (.bl false) H3)):a2x r r' ta tb tc σ H Q:=h
theorem c7B{f:V->Hp->VK->Prop}(h:ta σ H fun x H1=>f x H1 Q):tUn f ta σ H Q:=h
theorem c6y(h:Q (.int (-i)) H):rU (fun i=>.int (-i)) (.int i) H Q:=⟨i,rfl,h⟩
theorem a7h(e:σ[n]? = some (some v))(h:Q v H):c6 n σ H Q:=⟨v,e,h⟩
theorem s_c(h:Q v H):tC v σ H Q:=h
theorem b4n(h:te σ H fun x H1=>tr σ H1 fun xs H2=>QA (x::xs) H2):b6 te tr σ H QA:=h
theorem c3o(h:QA [] H):d7 σ H QA:=h
theorem c4f{sp:Sp}{E:XK}(h:tr σ H fun vs H1=>sp (vs++[]) H1 Q E):v7 sp [] E tr σ H Q:=h
theorem c7E{f:List V->Hp->VK->Prop}(h:tr σ H fun vs H1=>f vs H1 Q):tCB f tr σ H Q:=h
def New(o:HO)(n:Nat)(H:Hp)(Q:VK):Prop:=n<=u8/\∀p,H p=none->Q (.ref p) (upd H p o)
theorem E6(hl:n<=100000)(h:∀p H',H p=none->H' p=some o->A0 H H'->Q (.ref p) H'):New o n H Q:=
 ⟨I0 hl (by rw[a2R];decide),fun p hp=>h p _ hp f6 (D7 hp)⟩
theorem c6v(h:tr σ H fun xs H1=>New (.tup xs) xs.length H1 Q):a1h tr σ H Q:=h
theorem c3p(h:tr σ H fun xs H1=>New (.lst xs) xs.length H1 Q):V9 tr σ H Q:=h
theorem c7D{f:V->Option Int->Option Int->Hp->VK->Prop}{tl th:TO}(h:te σ H fun x H1=>tl σ H1 fun l H2=>th σ H2 fun u H3=>f x l u H3 Q):tSl f te tl th σ H Q:=h
theorem c3V(h:te σ H fun x H1=>∃i,x=.int i/\QO (some i) H1):a8l te σ H QO:=h
theorem b9c(h:QO none H):a2Y σ H QO:=h
theorem b4h(h:QB true H):Z1 σ H QB:=h
theorem a3j(h:to σ H fun x H1=>tyV K "list" x H1/\tr σ H1 fun xs H2=>f x xs H2 Q):tBM K "list" f to tr σ H Q:=h
theorem c6B{s:Str}(h:tr σ H fun xs H2=>f (.str s) xs H2 Q):tBM K "str" f (tC (.str s)) tr σ H Q:=⟨rfl,h⟩
theorem c4g{tget:V->V->Hp->VK->Prop}{tip:TIp}{tset:a9K}(h:to σ H fun o H1=>ti σ H1 fun i H2=>tget o i H2 fun x H3=>te σ H3 fun y H4=>tip x y H4 fun z H5=>tset o i z H5 fun H6=>D.nx σ H6):b5G to ti te tget tip tset D σ H:=h
theorem c6P(h:Q (.int (i+j)) H):a0c (.int i) (.int j) H Q:=h
theorem b9r{a b:Str}(hl:a.length+b.length<=u8)(h:Q (.str (a++b)) H):a0c (.str a) (.str b) H Q:=⟨hl,h⟩
theorem b4p(ha:H a=some (.lst xs))(hb:H b=some (.lst ys))(h:New (.lst (xs++ys)) (xs.length+ys.length) H Q):a0c (.ref a) (.ref b) H Q:=by
 unfold a0c
 simp only[ha,hb]
 exact h
theorem c4r{g:Int->Int->V}(h:Q (g i j) H):b2R g (.int i) (.int j) H Q:=h
theorem W3{C:Int->Int->Prop}{g:Int->Int->V}(hc:C i j)(h:Q (g i j) H):q2I C g (.int i) (.int j) H Q:=⟨hc,h⟩
theorem c7K{f:Int->Int->Int}(h:Q (.int (f i j)) H):ipI f (.int i) (.int j) H Q:=⟨i,j,rfl,rfl,h⟩
theorem J0(hp:H p=some (.lst xs))(he:atI xs i=some v)(h:Q v H):qIx (.ref p) (.int i) H Q:=by
 unfold qIx
 simp only[hp]
 exact⟨v,he,h⟩
theorem F0(hp:H p=some (.tup xs))(he:atI xs i=some v)(h:Q v H):qIx (.ref p) (.int i) H Q:=by
 unfold qIx
 simp only[hp]
 exact⟨v,he,h⟩
theorem b5Q{c:Nat}(hz:z.length<=u8)(he:atI z.cps.toList i=some c)(h:Q (.str ⟨#[c]⟩) H):qIx (.str z) (.int i) H Q:=⟨hz,c,he,h⟩
theorem b0e{QH:Hp->Prop}{k:Nat}(hp:H p=some (.lst xs))(he:ixN xs.length i=some k)(h:QH (upd H p (.lst (xs.set k v)))):a8E (.ref p) (.int i) v H QH:=by
 unfold a8E
 simp only[hp]
 exact⟨k,he,h⟩
theorem c6L(hp:H p=some (.lst xs))(h0:0<=i)(he:xs[i.toNat]? = some v)(h:Q v H):b6L (.ref p) (.int i) H Q:=by
 unfold b6L
 simp only[hp]
 exact⟨h0,v,he,h⟩
theorem O8(hp:H p=some (.lst xs))(h:Q (.int xs.length) H):U6 [.ref p] H Q:=by
 unfold U6
 simp only[hp]
 exact h
theorem a3k(hp:H p=some (.tup xs))(h:Q (.int xs.length) H):U6 [.ref p] H Q:=by
 unfold U6
 simp only[hp]
 exact h
theorem c4p(hz:z.length<=u8)(h:Q (.int z.length) H):U6 [.str z] H Q:=⟨hz,h⟩
theorem c6Q(h:Q (.int (if i<0 then -i else i)) H):b9x [.int i] H Q:=h
theorem c6M(hs:b2G x y=true)(h:Q (.bl (decide (x=y))) H):qEq x y H Q:=⟨_,if_pos hs,h⟩
theorem c7J(hs:b2G x y=true)(h:Q (.bl (!decide (x=y))) H):qNe x y H Q:=⟨_,if_pos hs,h⟩
theorem b5Y(ha:H a=some (.lst xs))(hb:H b=some (.lst ys))(fx:xs.all Q0=true)(fy:ys.all Q0=true):eqO (.ref a) (.ref b) H=some (a0X xs ys):=by
 unfold eqO
 rw[if_neg (by intro z;cases z)]
 simp only[ha,hb]
 rw[if_pos ⟨fx,fy⟩]
theorem b2O(hp:H p=some (.tup xs))(hx:Q0 x=true)(ha:xs.all Q0=true)(h:Q (.bl (inV x xs)) H):qIn false x (.ref p) H Q:=by
 unfold qIn
 cases x <;> first | (simp only[hp];exact⟨hx,ha,h⟩) | cases hx
theorem c4o(hp:H p=some (.lst xs))(hx:Q0 x=true)(ha:xs.all Q0=true)(h:Q (.bl (!inV x xs)) H):qIn true x (.ref p) H Q:=by
 unfold qIn
 cases x <;> first | (simp only[hp];exact⟨hx,ha,h⟩) | cases hx
theorem R6(hp:H l=some (.lst xs))(hl:xs.length<u8)(h:Q .non (upd H l (.lst (xs++[y])))):R0 (.ref l) [y] H Q:=by
 unfold R0
 simp only[hp]
 exact⟨hl,h⟩
theorem c6J{lo hi:Option Int}(ha:H a=some (.tup xs))(hw:¬(HT.sIx xs.length 0 lo=0/\HT.sIx xs.length xs.length hi=xs.length))(h:∀p H',H p=none->H' p=some (.tup (a4m xs lo hi))->A0 H H'->Q (.ref p) H'):qSl (.ref a) lo hi H Q:=by
 unfold qSl
 simp only[ha]
 exact⟨hw,fun p hp=>h p _ hp f6 (D7 hp)⟩
theorem c3u{lo hi:Option Int}(ha:H a=some (.lst xs))(h:∀p H',H p=none->H' p=some (.lst (a4m xs lo hi))->A0 H H'->Q (.ref p) H'):qSl (.ref a) lo hi H Q:=by
 unfold qSl
 simp only[ha]
 exact fun p hp=>h p _ hp f6 (D7 hp)
theorem a0z{s c:String}(e:a0D x H=some s)(hc:c∈a6I)(h:Q (.bl (b4S s c)) H):a1r [x,.ty c] H Q:=⟨s,e,hc,h⟩
theorem c4q{s:Str}(hp:H l=some (.lst xs))(e:a2y xs=some ss)(hl:(ss.map (·.length)).sum+ss.length * s.length<=16777216)(h:Q (.str (Txt.join s ss)) H):a8F (.str s) [.ref l] H Q:=by
 unfold a8F
 simp only[hp]
 exact⟨ss,e,hl,h⟩
end
section
variable {D:Addr}{K:Fg}
theorem a4n{lo:Int}(Pv:Nat->List V->Hp->Prop)(h0:Pv 0 [] (upd H1 D (.lst [])))(hP:∀i ys H,Pv i ys H->H D=some (.lst ys))
  (step:∀i ys H2,i<n->Pv i ys H2->∀R:VK,(∀y H5,H5 D=some (.lst ys)->ys.length<u8->Pv (i+1) (ys++[y]) (upd H5 D (.lst (ys++[y])))->R y H5)->te (some (.int (lo+i))::σ) H2 R)
  (done:∀ys H2,Pv n ys H2->QD H2) :
  ∃W:Nat->Nat->List V->Hp->Prop,(∃m,W 0 m [] (upd H1 D (.lst [])))/\∀i m ys H2,W i m ys H2->H2 D=some (.lst ys) /\
   (((Itr lo n).stop i H2 /\ QD H2) \/ ((Itr lo n).go i H2 /\ ∀ x H3,(Itr lo n).yld i H2 x H3 -> Z1 (some x :: σ) H3 fun ok H4 => if ok = true then
     te (some x::σ) H4 (fun y H5=>H5 D=some (.lst ys)/\ys.length<u8/\∃m',m'<m/\W (i+1) m' (ys++[y]) (upd H5 D (.lst (ys++[y]))))
     else ∃m',m'<m/\W (i+1) m' ys H4)):=by
 refine⟨fun i m ys H=>m=n - i/\i<=n/\Pv i ys H,⟨n,rfl,K0 _,h0⟩,?_⟩
 rintro i m ys H2 ⟨rfl,hi,p⟩
 refine⟨hP i ys H2 p,?_⟩
 by_cases hlt:i<n
 ·refine .inr ⟨hlt,fun x H3 y=>?_⟩
  obtain⟨e,y⟩:=y
  subst e y
  refine b4h ?_
  rw[if_pos rfl]
  exact step i ys _ hlt p _ fun y H5 h1 h2 h3=>⟨h1,h2,n - (i+1),by omega,rfl,hlt,h3⟩
 ·have e:i=n:=by omega
  subst e
  exact .inl ⟨i9 _,done ys H2 p⟩
theorem a0l(Pv:Nat->List V->Hp->Prop)(h0:Pv 0 [] (upd H1 D (.lst [])))(hP:∀i ys H,Pv i ys H->H D=some (.lst ys))(hl:∀i ys H,i<=xs.length->Pv i ys H->SqL K H a xs)
  (step:∀i x ys H2,xs[i]? = some x->Pv i ys H2->∀R:VK,(∀y H5,H5 D=some (.lst ys)->ys.length<u8->Pv (i+1) (ys++[y]) (upd H5 D (.lst (ys++[y])))->R y H5)->te (some x::σ) H2 R)
  (done:∀ys H2,Pv xs.length ys H2->QD H2) :
  ∃W:Nat->Nat->List V->Hp->Prop,(∃m,W 0 m [] (upd H1 D (.lst [])))/\∀i m ys H2,W i m ys H2->H2 D=some (.lst ys) /\
   (((Itl K a).stop i H2 /\ QD H2) \/ ((Itl K a).go i H2 /\ ∀ x H3,(Itl K a).yld i H2 x H3 -> Z1 (some x :: σ) H3 fun ok H4 => if ok = true then
     te (some x::σ) H4 (fun y H5=>H5 D=some (.lst ys)/\ys.length<u8/\∃m',m'<m/\W (i+1) m' (ys++[y]) (upd H5 D (.lst (ys++[y]))))
     else ∃m',m'<m/\W (i+1) m' ys H4)):=by
 refine⟨fun i m ys H=>m=xs.length - i/\i<=xs.length/\Pv i ys H,⟨xs.length,rfl,K0 _,h0⟩,?_⟩
 rintro i m ys H2 ⟨rfl,hi,p⟩
 refine⟨hP i ys H2 p,?_⟩
 have q:=hl i ys H2 hi p
 by_cases hlt:i<xs.length
 ·refine .inr ⟨⟨xs,xs[i],q,by simp[hlt]⟩,fun x H3 y=>?_⟩
  obtain⟨e,y⟩:=y
  subst e
  refine b4h ?_
  rw[if_pos rfl]
  exact step i x ys _ (y xs q) p _ fun y H5 h1 h2 h3=>⟨h1,h2,xs.length - (i+1),by omega,rfl,hlt,h3⟩
 ·have e:i=xs.length:=by omega
  subst e
  exact .inl ⟨⟨xs,q,i9 _⟩,done ys H2 p⟩
theorem Z4{wi:TI}(h:wi σ H1 fun J H1=>∀D,H1 D=none->∃W:Nat->Nat->List V->Hp->Prop,
 (∃m,W 0 m [] (upd H1 D (.lst [])))/\∀i m ys H2,W i m ys H2->H2 D=some (.lst ys) /\
  ((J.stop i H2 /\ Q (.ref D) H2) \/ (J.go i H2 /\ ∀ x H3,J.yld i H2 x H3 -> tt (some x :: σ) H3 fun ok H4 => if ok = true then
    te (some x::σ) H4 (fun y H5=>H5 D=some (.lst ys)/\ys.length<u8/\∃m',m'<m/\W (i+1) m' (ys++[y]) (upd H5 D (.lst (ys++[y]))))
    else ∃m',m'<m/\W (i+1) m' ys H4))):Z2 wi tt te σ H1 Q:=h
theorem a0G{ta:TA}(h:ta σ H1 fun vs H2=>∃j:Int,vs=[.int j] /\ -(2 ^ 62)<=j/\j<2 ^ 62/\R (Itr 0 j.toNat) H2):a1k ta σ H1 R:=h
theorem X6(h:ta σ H1 fun x H2=>∃a,x=.ref a/\(∃xs,SqL K H2 a xs)/\R (Itl K a) H2):Y6 K ta σ H1 R:=h
theorem a0b{wi:TI}{g:TG}{tb:TS}{D:a5p}(h:wi σ H1 fun J H1=>∃W:Nat->Nat->St->Hp->Prop,(∃m,W 0 m σ H1)/\∀i m σ H,W i m σ H ->
 (J.stop i H/\D.nx σ H)\/(J.go i H/\∃N:St->Hp->Prop,(∀σ' H',N σ' H'->∃m',m'<m/\W (i+1) m' σ' H')/\∀x H',J.yld i H x H'->g x σ H' fun σ2 H2=>tb { D with nx:=N,ct:=N,bk:=D.nx } σ2 H2)):a1i wi g tb D σ H1:=h
end
def L4(H H':Hp):Prop:=∀a xs,H a=some (.tup xs)->H' a=some (.tup xs)
theorem L4.trans{H2:Hp}(x:L4 H H1)(y:L4 H1 H2):L4 H H2:=fun a xs h=>y a xs (x a xs h)
theorem L4.put(h:H p=some (.lst ys)):L4 H (upd H p o):=fun a xs e=>by
 rw[d6 (F6 e h (by intro z;cases z))];exact e
theorem A0.ts(s:A0 H H'):L4 H H':=fun a xs h=>s a _ h
theorem C8.ts(k:C8 b H H')(hB:Bag H b c):L4 H H':=fun a xs h=>by
 obtain⟨ys,hb⟩:=hB.lst
 exact k.tup hb h
def OpV(v:V):Prop:=(∃s,v=.str s)\/∃n:Int,v=.int n/\0<=n/\n<1000000000000
def c6b(H:Hp)(p:Addr):Prop:=∃k v1 v2,H p=some (.tup [.str k,v1,v2])/\OpV v1/\OpV v2/\k∈(["plus","minus","times","less","same"]:List Str)
inductive b0r(H:Hp):List V->Prop
 | set (n:Str) (p:Addr):c6b H p->b0r H [.str "set",.str n,.ref p]
 | copy (n:Str) (v:V):OpV v->b0r H [.str "copy",.str n,v]
 | take (n:Str):b0r H [.str "take",.str n]
 | tell (v:V):OpV v->b0r H [.str "tell",v]
 | ask (v:V):OpV v->b0r H [.str "ask",v]
 | skip:b0r H [.str "skip"]
structure c7X(H:Hp)(a:Addr):Prop where
 ex:∃ss:List Str,H a=some (.lst (ss.map V.str))/\ss≠[]/\ss.length<=8
theorem small(h:n<=100000):n<=u8:=I0 h (by rw[a2R];decide)
theorem J9(h:n<100000):n<u8:=D4 h (by rw[a2R];decide)
theorem J1{c:Bool}{A B:Prop}(hc:c=true)(h:A):if c=true then A else B:=by rw[if_pos hc];exact h
theorem C4{c:Bool}{A B:Prop}(hc:c=false)(h:B):if c=true then A else B:=by rw[hc];exact L2.c5H h
section
variable {t u:TS}{tb tc ti:TE}{tu:TT}{tr:TA}{QB:Bool->Hp->Prop}{QA:List V->Hp->Prop}{x y:V}{j:Int}{K:Fg}
theorem b4l(h:∀p H',H p=none->H' p=some (.dK [])->A0 H H'->Q (.ref p) H'):a6o σ H Q:=fun p hp=>h p _ hp f6 (D7 hp)
theorem b9f(h:ti σ H fun y H1=>to σ H1 fun x H2=>∃a o,x=.ref a/\a3I H2 a y o/\Q (.bl o.isSome) H2):b0H ti to σ H Q:=h
theorem a8B(h:ti σ H fun y H1=>to σ H1 fun x H2=>∃a o,x=.ref a/\a3I H2 a y o/\Q (.bl (!o.isSome)) H2):a4w ti to σ H Q:=h
theorem a3g(h:te σ H fun v H1=>to σ H1 fun x H2=>ti σ H2 fun y H3=>∃a H4,x=.ref a/\a7w H3 a y v H4/\D.nx σ H4):a1Z to ti te D σ H:=h
theorem b2N{f:Str}(h:ta σ H fun x H1=>∃a C dx fs v,x=.ref a/\H1 a=some (.ins C dx fs)/\Cls K C/\a2d K C f/\fs.lookup f=some v/\Q v H1):b2D K ta f σ H Q:=h
theorem b4j{f:Str}(h:te σ H fun y H1=>ta σ H1 fun x H2=>∃a C dx fs,x=.ref a/\H2 a=some (.ins C dx fs)/\Cls K C/\a2d K C f/\fs.length<1000/\D.nx σ (upd H2 a (.ins C dx (a2h f y fs)))):b6K K ta te f D σ H:=h
theorem b9e{m:Str}{sp:Sp}{E:XK}(h:ta σ H fun x H1=>∃a dx fs,x=.ref a/\H1 a=some (.ins C dx fs)/\fs.lookup m=none/\tr σ H1 fun vs H2=>sp (x::(vs++[])) H2 Q E):b0a C m sp [] E ta tr σ H Q:=h
theorem c3Z{sp:Sp}{E:XK}(h:tr σ H fun vs H1=>∀x dx,H1 x=none->H1 dx=none->dx≠x ->
 sp (.ref x::(vs++[])) (upd (upd H1 dx (.own x)) x (.ins C dx [])) (fun v H2=>v=.non/\Q (.ref x) H2) E):b0b C sp [] E tr σ H Q:=h
theorem b5M(h:to σ H fun x H1=>tyV K "list" x H1/\f x [] H1 Q):a9u K "list" f to σ H Q:=h
theorem O3(h:H p=some (.lst xs)):tyV K "list" (.ref p) H:=.inl ⟨rfl,xs,SqL.of h⟩
theorem a7D{a b:Nat}{QS:St->Hp->Prop}(hp:SqT K H p [x,y])(h:QS ((σ.set a (some x)).set b (some y)) H):a9E K 2 (a0k (v5 a) (a0k (v5 b) a9F)) (.ref p) σ H QS:=
 ⟨p,_,rfl,hp,rfl,_,_,rfl,_,_,rfl,rfl,h⟩
theorem a5P(h:tr σ H fun vs H1=>∃a,vs=[.ref a]/\(∃xs,SqL K H1 a xs)/\R (Ite K a) H1):a7l K tr σ H R:=h
theorem c4a(h:tr σ H fun vs H1=>∃a b,vs=[.ref a,.ref b]/\(∃xs,SqL K H1 a xs)/\(∃xs,SqL K H1 b xs)/\R (Itz K a b) H1):c2J K tr σ H R:=h
theorem b5J(h:∃W:Nat->St->Hp->Prop,(∃m,W m σ H)/\∀m σ H,W m σ H ->
 tt σ H fun b H1=>if b=true then ∃N:St->Hp->Prop,(∀σ' H',N σ' H'->∃m',m'<m/\W m' σ' H')/\t { D with nx:=N,ct:=N,bk:=D.nx } σ H1 else D.nx σ H1):a8k tt t D σ H:=h
theorem c3U(h:te σ H fun v H1=>D.nx (σ.set n (some v)) H1):(fun D σ H=>te σ H fun v H1=>(D:a5p).nx (σ.set n (some v)) H1:TS) D σ H:=h
theorem b5L{wi:TI}(h:wi σ H1 fun J H1=>∀D,H1 D=none->∃W:Nat->Nat->List V->Hp->Prop,
 (∃m,W 0 m [] (upd H1 D (.lst [])))/\∀i m ys H2,W i m ys H2->H2 D=some (.lst ys) /\
  ((J.stop i H2 /\ Q (.ref D) H2) \/ (J.go i H2 /\ ∀ x H3,J.yld i H2 x H3 -> ∃ a u v,x = .ref a /\ SqT K H3 a [u,v] /\ tt (some u :: some v :: σ) H3 fun ok H4 => if ok = true then
    te (some u::some v::σ) H4 (fun y H5=>H5 D=some (.lst ys)/\ys.length<u8/\∃m',m'<m/\W (i+1) m' (ys++[y]) (upd H5 D (.lst (ys++[y]))))
    else ∃m',m'<m/\W (i+1) m' ys H4))):a8n K wi tt te σ H1 Q:=h
theorem c5O{J:It}{D:Addr}(n:Nat)(Pv:Nat->List V->Hp->Prop)(h0:Pv 0 [] (upd H1 D (.lst [])))(hP:∀i ys H,Pv i ys H->H D=some (.lst ys))(stop:∀ys H,Pv n ys H->J.stop n H/\QD H)(go:∀i ys H,i<n->Pv i ys H->J.go i H)
  (step:∀i ys H2,i<n->Pv i ys H2->∀x H3,J.yld i H2 x H3->∀(R:VK) (S:Hp->Prop),(∀y H5,H5 D=some (.lst ys)->ys.length<u8->Pv (i+1) (ys++[y]) (upd H5 D (.lst (ys++[y])))->R y H5)->(∀H4,Pv (i+1) ys H4->S H4) ->
   tt (some x::σ) H3 fun ok H4=>if ok=true then te (some x::σ) H4 R else S H4) :
  ∃W:Nat->Nat->List V->Hp->Prop,(∃m,W 0 m [] (upd H1 D (.lst [])))/\∀i m ys H2,W i m ys H2->H2 D=some (.lst ys) /\
   ((J.stop i H2 /\ QD H2) \/ (J.go i H2 /\ ∀ x H3,J.yld i H2 x H3 -> tt (some x :: σ) H3 fun ok H4 => if ok = true then
     te (some x::σ) H4 (fun y H5=>H5 D=some (.lst ys)/\ys.length<u8/\∃m',m'<m/\W (i+1) m' (ys++[y]) (upd H5 D (.lst (ys++[y]))))
     else ∃m',m'<m/\W (i+1) m' ys H4)):=by
 refine⟨fun i m ys H=>m=n - i/\i<=n/\Pv i ys H,⟨n,rfl,K0 _,h0⟩,?_⟩
 rintro i m ys H2 ⟨rfl,hi,p⟩
 refine⟨hP i ys H2 p,?_⟩
 by_cases hlt:i<n
 ·exact .inr ⟨go i ys H2 hlt p,fun x H3 hy=>step i ys H2 hlt p x H3 hy _ _ (fun y H5 h1 h2 h3=>⟨h1,h2,n - (i+1),by omega,rfl,hlt,h3⟩) fun H4 h4=>⟨n - (i+1),by omega,rfl,hlt,h4⟩⟩
 ·have e:i=n:=by omega
  subst e
  exact .inl (stop ys H2 p)
theorem c0F{J:It}{D:Addr}(n:Nat)(Pv:Nat->List V->Hp->Prop)(h0:Pv 0 [] (upd H1 D (.lst [])))(hP:∀i ys H,Pv i ys H->H D=some (.lst ys))(stop:∀ys H,Pv n ys H->J.stop n H/\QD H)(go:∀i ys H,i<n->Pv i ys H->J.go i H)
  (step:∀i ys H2,i<n->Pv i ys H2->∀x H3,J.yld i H2 x H3->∃a u v,x=.ref a/\SqT K H3 a [u,v]/\∀(R:VK) (S:Hp->Prop),(∀y H5,H5 D=some (.lst ys)->ys.length<u8->Pv (i+1) (ys++[y]) (upd H5 D (.lst (ys++[y])))->R y H5)->(∀H4,Pv (i+1) ys H4->S H4) ->
   tt (some u::some v::σ) H3 fun ok H4=>if ok=true then te (some u::some v::σ) H4 R else S H4) :
  ∃W:Nat->Nat->List V->Hp->Prop,(∃m,W 0 m [] (upd H1 D (.lst [])))/\∀i m ys H2,W i m ys H2->H2 D=some (.lst ys) /\
   ((J.stop i H2 /\ QD H2) \/ (J.go i H2 /\ ∀ x H3,J.yld i H2 x H3 -> ∃ a u v,x = .ref a /\ SqT K H3 a [u,v] /\ tt (some u :: some v :: σ) H3 fun ok H4 => if ok = true then
     te (some u::some v::σ) H4 (fun y H5=>H5 D=some (.lst ys)/\ys.length<u8/\∃m',m'<m/\W (i+1) m' (ys++[y]) (upd H5 D (.lst (ys++[y]))))
     else ∃m',m'<m/\W (i+1) m' ys H4)):=by
 refine⟨fun i m ys H=>m=n - i/\i<=n/\Pv i ys H,⟨n,rfl,K0 _,h0⟩,?_⟩
 rintro i m ys H2 ⟨rfl,hi,p⟩
 refine⟨hP i ys H2 p,?_⟩
 by_cases hlt:i<n
 ·refine .inr ⟨go i ys H2 hlt p,fun x H3 hy=>?_⟩
  obtain⟨a,u,v,e,hs,st⟩:=step i ys H2 hlt p x H3 hy
  exact⟨a,u,v,e,hs,st _ _ (fun y H5 h1 h2 h3=>⟨h1,h2,n - (i+1),by omega,rfl,hlt,h3⟩) fun H4 h4=>⟨n - (i+1),by omega,rfl,hlt,h4⟩⟩
 ·have e:i=n:=by omega
  subst e
  exact .inl (stop ys H2 p)
theorem b3j{J:It}{g:TG}{tb:TS}(n:Nat)(Pv:Nat->St->Hp->Prop)(h0:Pv 0 σ H)(stop:∀σ H,Pv n σ H->J.stop n H/\D.nx σ H)(go:∀i σ H,i<n->Pv i σ H->J.go i H)
  (hs:∀i σ H,i<n->Pv i σ H->∀x H',J.yld i H x H'->g x σ H' fun σ2 H2=>tb { D with nx:=Pv (i+1),ct:=Pv (i+1),bk:=D.nx } σ2 H2) :
  ∃W:Nat->Nat->St->Hp->Prop,(∃m,W 0 m σ H)/\∀i m σ H,W i m σ H ->
   (J.stop i H/\D.nx σ H)\/(J.go i H/\∃N:St->Hp->Prop,(∀σ' H',N σ' H'->∃m',m'<m/\W (i+1) m' σ' H')/\∀x H',J.yld i H x H'->g x σ H' fun σ2 H2=>tb { D with nx:=N,ct:=N,bk:=D.nx } σ2 H2):=by
 refine⟨fun i m σ H=>m=n - i/\i<=n/\Pv i σ H,⟨n,rfl,K0 _,h0⟩,?_⟩
 rintro i m σ H ⟨rfl,hi,p⟩
 by_cases hlt:i<n
 ·exact .inr ⟨go i σ H hlt p,Pv (i+1),fun σ' H' p'=>⟨n - (i+1),by omega,rfl,hlt,p'⟩,fun x H' hy=>hs i σ H hlt p x H' hy⟩
 ·have e:i=n:=by omega
  subst e
  exact .inl (stop σ H p)
theorem c6K(h:Q (.int (if j<i then j else i)) H):b9t [.int i,.int j] H Q:=h
theorem a7o(bs:List Bool):V5 (bs.map V.bl)=some bs:=by
 induction bs with
 | nil=>rfl
 | cons s r ih=>simp[V5,ih]
theorem c6N{bs:List Bool}(hl:H l=some (.lst (bs.map V.bl)))(h:Q (.bl (bs.any id)) H):b4r [.ref l] H Q:=by
 unfold b4r
 simp only[hl]
 exact⟨bs,a7o bs,h⟩
theorem c6O{bs:List Bool}(hl:H l=some (.lst (bs.map V.bl)))(h:Q (.bl (bs.all id)) H):b1i [.ref l] H Q:=by
 unfold b1i
 simp only[hl]
 exact⟨bs,a7o bs,h⟩
theorem b2P{zs:List V}(hl:H l=some (.lst xs))(hb:H b=some (.lst zs))(hz:xs.length+zs.length<=u8)(h:Q .non (upd H l (.lst (xs++zs)))):a3l (.ref l) [.ref b] H Q:=by
 unfold a3l
 simp only[hl,hb]
 exact⟨hz,h⟩
theorem c3v(hl:H l=some (.lst (xs++[y])))(h:Q y (upd H l (.lst xs))):b4q (.ref l) [] H Q:=by
 unfold b4q
 simp only[hl]
 refine⟨y,by simp,?_⟩
 simpa using h
theorem b5R(hl:H l=some (.lst xs))(h:Q .non (upd H l (.lst []))):a5e (.ref l) [] H Q:=by
 unfold a5e
 simp only[hl]
 exact h
theorem a1F(hp:H p=some (.lst ys))(h:∀l H',H l=none->H' l=some (.lst ys)->A0 H H'->Q (.ref l) H'):a2o [.ref p] H Q:=by
 unfold a2o
 simp only[hp]
 exact fun l hl=>h l _ hl f6 (D7 hl)
end
def IL(l:List Nat):List V:=l.map fun(n:Nat)=>V.int (n:Int)
theorem P8(l:List Nat):(IL l).length=l.length:=by simp[IL]
theorem b6j(l:List Nat):(IL l).all Q0=true:=by
 rw[O1]
 intro x hx
 obtain⟨s,_,rfl⟩:=E3.mp hx
 rfl
def KS(ks:List Nat):List (Key×V):=ks.map fun(k:Nat)=>(Sum.inl (k:Int),V.bl true)
theorem c0P(ks:List Nat)(k:Nat):(a2X (KS ks) (Sum.inl (k:Int))).isSome=decide (k∈ks):=by
 induction ks with
 | nil=>rfl
 | cons a r ih=>
  by_cases e:a=k
  ·subst e
   rw[show KS (a::r)=(Sum.inl (a:Int),V.bl true)::KS r from rfl,a3V rfl]
   simp
  ·rw[show KS (a::r)=(Sum.inl (a:Int),V.bl true)::KS r from rfl,a3W (by intro z;have:=Sum.inl.inj z;exact e (by omega)),ih]
   have:(k∈a::r)↔k∈r:=by
    rw[p8]
    exact⟨fun h=>h.elim (fun z=>absurd z.symm e) id,.inr⟩
   simp[this]
def a4b(ks:List Nat)(k:Nat):List Nat:=if k∈ks then ks else ks++[k]
theorem c5Z(ks:List Nat)(k:Nat):a2g (KS ks) (Sum.inl (k:Int)) (V.bl true)=KS (a4b ks k):=by
 unfold a2g a4b
 rw[a8d,c0P]
 by_cases h:k∈ks
 ·rw[if_pos (c9s h),if_pos h]
  unfold KS
  rw[W7]
  apply a6g
  intro a _
  show(if(Sum.inl (a:Int):Key)=Sum.inl (k:Int)then ((Sum.inl (a:Int):Key),V.bl true)else ((Sum.inl (a:Int):Key),V.bl true))=_
  split <;> rfl
 ·rw[if_neg (by simpa using h),if_neg h]
  simp[KS]
theorem Z5{k j:Nat}:j∈a4b ks k↔j∈ks\/j=k:=by
 unfold a4b
 split
 ·rename_i h
  exact⟨.inl,fun q=>q.elim id fun z=>z ▸ h⟩
 ·simp
theorem a7G{k:Nat}(h:ks.Nodup):(a4b ks k).Nodup:=by
 unfold a4b
 split
 ·exact h
 ·rename_i hk
  rw[c3e]
  exact⟨h,by simp,fun a ha b hb=>by rw[v9.mp hb];intro z;exact hk (z ▸ ha)⟩
theorem c6a(ks:List Nat):(KS ks).length=ks.length:=by simp[KS]
theorem a8Q:∀(n:Nat) (ks:List Nat),ks.Nodup->(∀k∈ks,k<n)->ks.length<=n:=by
 intro n
 induction n with
 | zero=>
  intro ks _ h
  cases ks with
  | nil=>exact i9 _
  | cons a r=>exact absurd (h a K5) (Nat.not_lt_zero _)
 | succ n ih=>
  intro ks nd h
  by_cases hn:n∈ks
  ·have:=ih (ks.erase n) (nd.erase n) fun k hk=>by
    have h1:=(List.Nodup.mem_erase_iff nd).mp hk
    have:=h k h1.2
    have:=h1.1
    omega
   rw[a3G hn]at this
   omega
  ·have:=ih ks nd fun k hk=>by
    have:=h k hk
    have:k≠n:=fun z=>hn (z ▸ hk)
    omega
   omega
theorem a4E(h:H d=some (.dK (KS ks)))(k:Nat):∃o,a3I H d (.int (k:Int)) o/\o.isSome=decide (k∈ks):=⟨_,a3I.k (k:=Sum.inl (k:Int)) h,c0P ks k⟩
theorem b1M(h:H d=some (.dK (KS ks)))(hl:ks.length<100000)(k:Nat):a7w H d (.int (k:Int)) (.bl true) (upd H d (.dK (KS (a4b ks k)))):=by
 rw[<-c5Z]
 exact a7w.k (k:=Sum.inl (k:Int)) h (J9 (by rw[c6a];exact hl))
end RD
namespace RD
variable{C a b c d dx l na p ra:Addr}{H H' H0 H1:Hp}{o:HO}{xs ys:List V}{i:Int}{D:a5p}{σ:St}{ta te to:TE}{tt:TT}{Q:VK}{v:V}{m n:Nat}{f:V->List V->Hp->VK->Prop}{z:Str}{ss:List Str}{QD:Hp->Prop}{R:It->Hp->Prop}{cs ks:List Nat}{M N:Nt}{L L0 ns:List Int}{as rs:List Addr}{Z:Addr->Prop}{RC:Nat->List V}
theorem c0h:∀(l m:List Nat),l.Nodup->(∀x∈l,x∈m)->l.length<=m.length
 | [],_,_,_=>K0 _
 | a::r,m,nd,h=>by
  have ha:=h a K5
  have:=c0h r (m.erase a) (K6.mp nd).2 fun x hx=>(b7W (show x≠a from fun z=>(K6.mp nd).1 (z ▸ hx))).mpr (h x (E1 _ hx))
  rw[a3G ha]at this
  have:=a4I ha
  rw[C1]
  omega
inductive Gd(N:Nt):Nat->Prop
 | stop {k:Nat}:N[k]? = some []->Gd N k
 | step {k t:Nat} {l:List Nat}:N[k]? = some l->t∈l->Gd N t->Gd N k
inductive Rc(N:Nt):Nat->Prop
 | zero:Rc N 0
 | step {k t:Nat} {l:List Nat}:Rc N k->N[k]? = some l->t∈l->Rc N t
structure a2u(N:Nt):Prop where
 pos:0<N.length
 le:N.length<=400
 two:∀l∈N,l.length<=2
 lt:∀l∈N,∀t∈l,t<N.length
 rc:∀k,k<N.length->Rc N k
 gd:∀k,k<N.length->Gd N k
def a2p(N:Nt)(G:List Nat):List (List Nat):=(M0 N.length).map fun k=>if k∈G then N.getD k [] else (N.length - 1)::(N.getD k []).drop 1
theorem b0i(N:Nt)(G:List Nat):(a2p N G).length=N.length:=by simp[a2p]
theorem a8R{G:List Nat}{k:Nat}(h:k<N.length):(a2p N G)[k]? = some (if k∈G then N.getD k [] else (N.length - 1)::(N.getD k []).drop 1):=by
 unfold a2p
 rw[d4,c0V h]
 rfl
theorem a5S{G:List Nat}{k:Nat}{l:List Nat}(h:N[k]? = some l)(hk:k∈G):(a2p N G)[k]? = some l:=by
 have hl:=(u7.mp h).1
 rw[a8R hl,if_pos hk]
 simp[Q5,h]
theorem b0h{G:List Nat}{k:Nat}{l:List Nat}(h:N[k]? = some l)(hk:¬k∈G):(a2p N G)[k]? = some ((N.length - 1)::l.drop 1):=by
 have hl:=(u7.mp h).1
 rw[a8R hl,if_neg hk]
 simp[Q5,h]
theorem c2O{G:List Nat}(hG:∀k∈G,Gd N k)(hl:N[N.length - 1]? = some [])(hm:N.length - 1∈G):∀k,k<N.length->Gd (a2p N G) k:=by
 have last:Gd (a2p N G) (N.length - 1):=.stop (a5S hl hm)
 have out:∀k,k<N.length->¬k∈G->Gd (a2p N G) k:=fun k hk h=>.step (b0h (l:=N[k]) (by simp) h) K5 last
 have go:∀k,Gd N k->Gd (a2p N G) k:=by
  intro k h
  induction h with
  | @stop k h=>
   by_cases hk:k∈G
   ·exact .stop (a5S h hk)
   ·exact out k (u7.mp h).1 hk
  | @step k t l h ht _ ih=>
   by_cases hk:k∈G
   ·exact .step (a5S h hk) ht ih
   ·exact out k (u7.mp h).1 hk
 intro k hk
 by_cases h:k∈G
 ·exact go k (hG k h)
 ·exact out k hk h
theorem b3e{G:List Nat}(hp:0<N.length)(hs:∀l∈N,l.length<=2/\∀t∈l,t<N.length)(hl:N[N.length - 1]? = some [])(hm:N.length - 1∈G):∀l∈a2p N G,l.length<=2/\∀t∈l,t<N.length:=by
 intro l hl'
 obtain⟨k,hk⟩:=V7.mp hl'
 have hkl:k<N.length:=by have:=(u7.mp hk).1;rwa [b0i]at this
 rw[a8R hkl]at hk
 have e:N.getD k []=N[k]:=by simp[Q5,hkl]
 rw[e]at hk
 obtain⟨h1,h2⟩:=hs N[k] (G9 _)
 by_cases hg:k∈G
 ·rw[if_pos hg]at hk
  cases hk
  exact⟨h1,h2⟩
 ·rw[if_neg hg]at hk
  cases hk
  refine⟨?_,fun t ht=>?_⟩
  ·rw[C1,a9s];omega
  ·rcases p8.mp ht with z | z
   ·omega
   ·exact h2 t (List.drop_subset _ _ z)
def a4Y(N:Nt)(O:List Nat):List (List Nat):=O.map fun k=>(N.getD k []).map fun t=>O.idxOf t
theorem c0u{O:List Nat}{t:Nat}(h:t∈O):O.idxOf t<O.length:=b3G.mpr h
theorem b0J{O:List Nat}{k:Nat}{l:List Nat}(hk:k∈O)(h:N[k]? = some l):(a4Y N O)[O.idxOf k]? = some (l.map fun t=>O.idxOf t):=by
 unfold a4Y
 have:O[O.idxOf k]? = some k:=by
  rw[g8 (c0u hk)]
  simp
 rw[d4,this]
 simp[Q5,h]
theorem b4X{O:List Nat}(h0:0∈O)(hs:O.Pairwise (· <= ·)):O.idxOf 0=0:=by
 cases O with
 | nil=>cases h0
 | cons a r=>
  have:a=0:=by
   rcases p8.mp h0 with z | z
   ·exact z.symm
   ·have:=(List.pairwise_cons.mp hs).1 0 z
    omega
  subst this
  simp
theorem b6y{O:List Nat}(h0:0∈O)(hs:O.Pairwise (· <= ·))(hnd:O.Nodup)(hlt:∀k∈O,k<N.length)(hN:N.length<=400)(hcl:∀k∈O,∀l,N[k]? = some l->∀t∈l,t∈O)(hrc:∀k∈O,Rc N k)
  (hsm:∀l∈N,l.length<=2) (hgd:∀k,k<N.length->Gd N k):a2u (a4Y N O):=by
 have hlen:(a4Y N O).length=O.length:=by simp[a4Y]
 have rc:∀k,Rc N k->k∈O/\Rc (a4Y N O) (O.idxOf k):=by
  intro k h
  induction h with
  | zero=>
   refine⟨h0,?_⟩
   rw[b4X h0 hs]
   exact .zero
  | @step k t l _ hl ht ih=>
   obtain⟨i1,i2⟩:=ih
   exact⟨hcl k i1 l hl t ht,.step i2 (b0J i1 hl) (E3.mpr ⟨t,ht,rfl⟩)⟩
 have gd:∀k,Gd N k->k∈O->Gd (a4Y N O) (O.idxOf k):=by
  intro k h
  induction h with
  | @stop k h=>
   intro hk
   exact .stop (by rw[b0J hk h];rfl)
  | @step k t l h ht _ ih=>
   intro hk
   exact .step (b0J hk h) (E3.mpr ⟨t,ht,rfl⟩) (ih (hcl k hk l h t ht))
 have at_:∀i,i<O.length->∃k∈O,O.idxOf k=i:=fun i hi=>⟨O[i],G9 _,hnd.idxOf_getElem i hi⟩
 have mem:∀l∈a4Y N O,∃k∈O,∃l',N[k]? = some l'/\l=l'.map fun t=>O.idxOf t:=by
  intro l hl
  obtain⟨k,hk,rfl⟩:=E3.mp hl
  refine⟨k,hk,N[k]'(hlt k hk),by simp[hlt k hk],?_⟩
  simp[Q5,hlt k hk]
 refine⟨?_,?_,fun l hl=>?_,fun l hl t ht=>?_,fun i hi=>?_,fun i hi=>?_⟩
 ·rw[hlen]
  exact a4I h0
 ·rw[hlen]
  exact I0 (a8Q _ _ hnd hlt) hN
 ·obtain⟨k,hk,l',e,rfl⟩:=mem l hl
  rw[c7]
  exact hsm l' (a0f e)
 ·obtain⟨k,hk,l',e,rfl⟩:=mem l hl
  obtain⟨t',ht',rfl⟩:=E3.mp ht
  rw[hlen]
  exact c0u (hcl k hk l' e t' ht')
 ·rw[hlen]at hi
  obtain⟨k,hk,rfl⟩:=at_ i hi
  exact(rc k (hrc k hk)).2
 ·rw[hlen]at hi
  obtain⟨k,hk,rfl⟩:=at_ i hi
  exact gd k (hgd k (hlt k hk)) hk
end RD
namespace RD
open PySem PySem.Spec PyProof.Rows L2
variable{C a b c d dx l na p ra:Addr}{H H' H0 H1:Hp}{o:HO}{xs ys:List V}{i:Int}{D:a5p}{σ:L2.St}{ta te to:TE}{tt:TT}{Q:VK}{v:V}{m n:Nat}{f:V->List V->Hp->VK->Prop}{z:Str}{ss:List Str}{QD:Hp->Prop}{R:It->Hp->Prop}{cs ks:List Nat}{M N:Nt}{L L0 ns:List Int}{as rs:List Addr}{Z:Addr->Prop}{RC:Nat->List V}
structure Cn where
 T1:Addr
 a3z:Addr
 a0a:Addr
structure a9m(K:Fg)(c:Cn):Prop where
 a0O:Cls K c.T1
 a0s:a2d K c.T1 "entries"
 Y4:a2d K c.T1 "nexts"
 a1I:a2d K c.T1 "rows"
 b2g:∀H,SqT K H c.a3z [.str "plus",.str "minus",.str "times",.str "less",.str "same"]
 a3y:∀H,SqT K H c.a0a [.int (-1),.int (0)]
def spD(n m:Nat)(t:TS):Sp:=fun vs H Q _=>vs.length=n/\t { nx:=fun _ H'=>Q .non H',rt:=Q } (vs.map some++u5 (m - vs.length) none) H
def c3n(K:Fg):TS:=F7 (V9 (b6 (tC (.int 0)) (b6 (tC (.int 1234567891)) (b6 (tC (.int 0)) (b6 (Z2 (Y6 K (tSl (c4l K) (c6 0) a2Y (a8l (tC (.int 63))))) Z1 (tCB b9x (b6 (c6 0) d7))) d7)))))
def b0N(K:Fg):Sp:=spD 1 1 (c3n K)
def b8A(K:Fg):TS:=v8 (K9 (D5 (tOp qEq (tOp qIx (c6 0) (tC (.int 0))) (tC (.int 0)))) (v8 (F2 (tC (.int 12345)) (v5 2)) (v8 (K9 (D5 (tOp qLt (tOp qIx (c6 0) (tC (.int 2))) (tCB U6 (b6 (tOp qIx (c6 0) (tC (.int 3))) d7)))) (v8 (F2 (tOp qIx (tOp qIx (c6 0) (tC (.int 3))) (tOp qIx (c6 0) (tC (.int 2)))) (v5 3)) (v8 (b5G (c6 0) (tC (.int 2)) (tC (.int 1)) b6L (ipI fun i j=>i+j) a8E) (v8 (K9 (D5 (tOp qGe (c6 3) (tC (.int 1000000000000000000)))) (F2 (c6 3) (b3i (c6 0) (tC (.int 0)) a8E)) E4) (F2 (tOp a0c (tOp a2P (c6 3) (tC (.int 2147483647))) (tC (.int 1))) (v5 2))))) E4) (F2 (tOp a2P (tOp a0c (tOp b1g (tOp qIx (c6 0) (tC (.int 1))) (tC (.int 48271))) (c6 2)) (tC (.int 2147483647))) (b3i (c6 0) (tC (.int 1)) a8E)))) E4) (v8 (K9 (D5 (tOp qGt (tOp qIx (c6 0) (tC (.int 0))) (tC (.int 0)))) (v8 (F2 (tOp a2P (tOp qIx (c6 0) (tC (.int 0))) (c6 1)) (v5 4)) (v8 (F2 (tOp b9w (tOp qIx (c6 0) (tC (.int 0))) (c6 1)) (b3i (c6 0) (tC (.int 0)) a8E)) (F7 (c6 4)))) E4) (v8 (F2 (tOp a2P (tOp b1g (tOp qIx (c6 0) (tC (.int 1))) (tC (.int 39373))) (tC (.int 1000000007))) (v5 5)) (v8 (F2 (tOp a2P (tOp b1g (c6 5) (tC (.int 30011))) (tC (.int 998244353))) (v5 6)) (v8 (K9 (D5 (tOp qGt (c6 1) (tC (.int 1000000)))) (F7 (tOp a2P (tOp a0c (tOp b1g (c6 6) (tC (.int 1000000000))) (c6 5)) (c6 1))) E4) (F7 (tOp a2P (tOp b9w (c6 6) (tC (.int 3))) (c6 1)))))))
def E7(K:Fg):Sp:=spD 2 7 (b8A K)
def c3m(K:Fg):TS:=v8 (F2 (V9 d7) (v5 2)) (v8 (a1i (a1k (b6 (c6 1) d7)) (v5 3) (v8 (F2 (tCB b9t (b6 (tOp a0c (c6 3) (tC (.int 1))) (b6 (tOp b1f (c6 1) (tC (.int 1))) d7))) (v5 4)) (v8 (F2 (V9 (b6 (c6 4) (b6 (v7 (E7 K) [] E0 (b6 (c6 0) (b6 (c6 1) d7))) d7))) (v5 5)) (v8 (F2 (v7 (E7 K) [] E0 (b6 (c6 0) (b6 (tC (.int 8)) d7))) (v5 6)) (v8 (K9 (D5 (tOp qLt (c6 6) (tC (.int 3)))) (F2 (V9 (b6 (tOp qIx (c6 5) (tC (.int 1))) (b6 (c6 4) d7))) (v5 5)) E4) (v8 (K9 (D5 (tOp qEq (c6 6) (tC (.int 3)))) (F2 (V9 (b6 (tOp qIx (c6 5) (tC (.int 1))) (b6 (v7 (E7 K) [] E0 (b6 (c6 0) (b6 (c6 1) d7))) d7))) (v5 5)) E4) (v8 (K9 (tOr (b0I (D5 (tOp qGt (c6 6) (tC (.int 3)))) (D5 (tOp qLt (c6 6) (tC (.int 7))))) (D5 (tOp qEq (c6 1) (tC (.int 1))))) (F2 (V9 (b6 (c6 4) d7)) (v5 5)) E4) (v8 (K9 (D5 (tOp qEq (c6 6) (tC (.int 7)))) (F2 (V9 (b6 (tOp qIx (c6 5) (tUn (rU fun i=>.int (-i)) (tC (.int 1)))) d7)) (v5 5)) E4) (v8 (K9 (tOr (D5 (tOp qEq (c6 3) (tOp b1f (c6 1) (tC (.int 1))))) (b0I (D5 (tOp qEq (c6 6) (tC (.int 6)))) (D5 (tOp qEq (v7 (E7 K) [] E0 (b6 (c6 0) (b6 (tC (.int 4)) d7))) (tC (.int 0)))))) (F2 (V9 d7) (v5 5)) E4) (V3 (tBM K "list" R0 (c6 2) (b6 (c6 5) d7)))))))))))) (F7 (c6 2)))
def b0M(K:Fg):Sp:=spD 2 7 (c3m K)
def b2B(K:Fg):TS:=v8 (F2 a6o (v5 1)) (v8 (a1i (a1k (b6 (tCB U6 (b6 (c6 0) d7)) d7)) (v5 2) (a1i (a1k (b6 (tCB U6 (b6 (c6 0) d7)) d7)) (v5 3) (K9 (tOr (D5 (tOp qEq (tOp qIx (c6 0) (c6 3)) (V9 d7))) (tB (tCB b4r (b6 (Z2 (Y6 K (tOp qIx (c6 0) (c6 3))) Z1 (b0H (c6 0) (c6 2))) d7)))) (a1Z (c6 1) (c6 3) (tC (.bl true))) E4))) (v8 (F2 (Z2 (a1k (b6 (tCB U6 (b6 (c6 0) d7)) d7)) Z1 (tIf (tB (b0H (c6 0) (c6 2))) (tOp qIx (c6 1) (c6 0)) (tOp a0c (V9 (b6 (tOp b1f (tCB U6 (b6 (c6 1) d7)) (tC (.int 1))) d7)) (tSl qSl (tOp qIx (c6 1) (c6 0)) (a8l (tC (.int 1))) a2Y)))) (v5 0)) (v8 (F2 (b8H ((tC (.int 0),tC (.bl true))::[])) (v5 4)) (v8 (a1i (a1k (b6 (tCB U6 (b6 (c6 0) d7)) d7)) (v5 2) (a1i (a1k (b6 (tCB U6 (b6 (c6 0) d7)) d7)) (v5 3) (K9 (tB (b0H (c6 3) (c6 4))) (a1i (Y6 K (tOp qIx (c6 0) (c6 3))) (v5 5) (a1Z (c6 4) (c6 5) (tC (.bl true)))) E4))) (v8 (F2 (tCB a4D (b6 (tCB a6x (b6 (c6 4) d7)) d7)) (v5 6)) (F7 (Z2 (Y6 K (c6 6)) Z1 (Z2 (Y6 K (tOp qIx (c6 1) (c6 0))) Z1 (tBM K "list" a6y (c6 8) (b6 (c6 0) d7))))))))))
def a4z(K:Fg):Sp:=spD 1 7 (b2B K)
def b8F(K:Fg):TS:=v8 (F2 (tC (.str "abcdefghijklmnopqrstuvwxyz")) (v5 2)) (v8 (F2 (tOp a0c (c6 2) (tC (.str "0123456789"))) (v5 3)) (F7 (tOp a0c (V9 (b6 (tOp qIx (c6 2) (v7 (E7 K) [] E0 (b6 (c6 0) (b6 (tC (.int 26)) d7)))) d7)) (Z2 (a1k (b6 (tOp b1f (c6 1) (tC (.int 1))) d7)) Z1 (tOp qIx (c6 4) (v7 (E7 K) [] E0 (b6 (c6 1) (b6 (tC (.int 36)) d7))))))))
def a5M(K:Fg):Sp:=spD 2 4 (b8F K)
def b5z(K:Fg):TS:=v8 (F2 (tC (.str "abcdefghijklmnopqrstuvwxyz")) (v5 2)) (v8 (F2 (tOp a0c (tC (.int 1)) (v7 (E7 K) [] E0 (b6 (c6 0) (b6 (tC (.int 8)) d7)))) (v5 3)) (v8 (F2 (V9 (b6 (v7 (a5M K) [] E0 (b6 (c6 0) (b6 (c6 3) d7))) (b6 (v7 (a5M K) [] E0 (b6 (c6 0) (b6 (tOp a0c (tOp a2P (c6 3) (tC (.int 8))) (tC (.int 1))) d7))) d7))) (v5 4)) (v8 (F2 (V9 (b6 (v7 (E7 K) [] E0 (b6 (c6 0) (b6 (c6 3) d7))) (b6 (v7 (E7 K) [] E0 (b6 (c6 0) (b6 (tOp a0c (tOp a2P (c6 3) (tC (.int 8))) (tC (.int 1))) d7))) d7))) (v5 5)) (v8 (F2 (v7 (E7 K) [] E0 (b6 (c6 0) (b6 (tC (.int 26)) d7))) (v5 6)) (v8 (F2 (V9 d7) (v5 7)) (v8 (a1i (a1k (b6 (c6 1) d7)) (v5 8) (v8 (F2 (tCB a2o (b6 (tOp qIx (c6 4) (tOp a2P (c6 8) (tC (.int 2)))) d7)) (v5 9)) (v8 (F2 (tOp qIx (c6 2) (tOp a2P (tOp a0c (c6 6) (tOp b9w (c6 8) (tC (.int 2)))) (tC (.int 26)))) (b3i (c6 9) (tOp qIx (c6 5) (tOp a2P (c6 8) (tC (.int 2)))) a8E)) (V3 (tBM K "list" R0 (c6 7) (b6 (tBM K "str" a8F (tC (.str "")) (b6 (c6 9) d7)) d7)))))) (v8 (F2 (tOp qIx (V9 (b6 (tC (.str "k0")) (b6 (tC (.str "k1")) (b6 (tC (.str "set")) (b6 (tC (.str "ask")) (b6 (tC (.str "plus")) (b6 (tC (.str "k2")) d7))))))) (v7 (E7 K) [] E0 (b6 (c6 0) (b6 (tC (.int 6)) d7)))) (v5 10)) (v8 (K9 (b0I (D5 (tOp qEq (v7 (E7 K) [] E0 (b6 (c6 0) (b6 (tC (.int 2)) d7))) (tC (.int 0)))) (D5 (tOp (qIn true) (c6 10) (c6 7)))) (F2 (c6 10) (b3i (c6 7) (v7 (E7 K) [] E0 (b6 (c6 0) (b6 (c6 1) d7))) a8E)) E4) (F7 (c6 7))))))))))
def a5J(K:Fg):Sp:=spD 2 11 (b5z K)
def b5w(K:Fg):TS:=F7 (tOp qIx (V9 (b6 (tC (.int 0)) (b6 (tC (.int 1)) (b6 (tC (.int 2)) (b6 (tC (.int 999999999999)) (b6 (v7 (E7 K) [] E0 (b6 (c6 0) (b6 (tC (.int 1000000000000)) d7))) d7)))))) (v7 (E7 K) [] E0 (b6 (c6 0) (b6 (tC (.int 5)) d7))))
def a1V(K:Fg):Sp:=spD 1 1 (b5w K)
def a9V(K:Fg):TS:=v8 (K9 (D5 (tOp qEq (v7 (E7 K) [] E0 (b6 (c6 0) (b6 (tC (.int 4)) d7))) (tC (.int 0)))) (F7 (v7 (a1V K) [] E0 (b6 (c6 0) d7))) E4) (F7 (tOp qIx (c6 1) (v7 (E7 K) [] E0 (b6 (c6 0) (b6 (tCB U6 (b6 (c6 1) d7)) d7)))))
def Z3(K:Fg):Sp:=spD 2 2 (a9V K)
def b8E(K:Fg):TS:=v8 (F2 (tOp qIx (V9 (b6 (tC (.str "plus")) (b6 (tC (.str "minus")) (b6 (tC (.str "times")) (b6 (tC (.str "less")) (b6 (tC (.str "same")) d7)))))) (v7 (E7 K) [] E0 (b6 (c6 0) (b6 (tC (.int 5)) d7)))) (v5 2)) (F7 (a1h (b6 (c6 2) (b6 (v7 (Z3 K) [] E0 (b6 (c6 0) (b6 (c6 1) d7))) (b6 (v7 (Z3 K) [] E0 (b6 (c6 0) (b6 (c6 1) d7))) d7)))))
def a7z(K:Fg):Sp:=spD 2 3 (b8E K)
def c3l(K:Fg):TS:=v8 (F2 (tOp qIx (c6 1) (v7 (E7 K) [] E0 (b6 (c6 0) (b6 (tCB U6 (b6 (c6 1) d7)) d7)))) (v5 4)) (v8 (K9 (D5 (tOp qGt (v7 (E7 K) [] E0 (b6 (c6 0) (b6 (tC (.int 3)) d7))) (tC (.int 0)))) (F2 (tOp qIx (c6 1) (tOp a0c (c6 2) (v7 (E7 K) [] E0 (b6 (c6 0) (b6 (tOp b1f (tCB U6 (b6 (c6 1) d7)) (c6 2)) d7))))) (v5 4)) E4) (v8 (F2 (v7 (E7 K) [] E0 (b6 (c6 0) (b6 (tC (.int 8)) d7))) (v5 5)) (v8 (K9 (D5 (tOp qLt (c6 5) (tC (.int 5)))) (F7 (a1h (b6 (tC (.str "set")) (b6 (c6 4) (b6 (tOp qIx (c6 3) (v7 (E7 K) [] E0 (b6 (c6 0) (b6 (tCB U6 (b6 (c6 3) d7)) d7)))) d7))))) E4) (v8 (K9 (D5 (tOp qEq (c6 5) (tC (.int 5)))) (F7 (a1h (b6 (tC (.str "copy")) (b6 (c6 4) (b6 (v7 (Z3 K) [] E0 (b6 (c6 0) (b6 (c6 1) d7))) d7))))) E4) (v8 (K9 (D5 (tOp qEq (c6 5) (tC (.int 6)))) (F7 (tOp qIx (V9 (b6 (a1h (b6 (tC (.str "take")) (b6 (c6 4) d7))) (b6 (a1h (b6 (tC (.str "tell")) (b6 (v7 (Z3 K) [] E0 (b6 (c6 0) (b6 (c6 1) d7))) d7))) d7))) (v7 (E7 K) [] E0 (b6 (c6 0) (b6 (tC (.int 2)) d7))))) E4) (F7 (a1h (b6 (tC (.str "skip")) d7))))))))
def b0L(K:Fg):Sp:=spD 4 6 (c3l K)
def b8B(K:Fg):TS:=v8 (F2 (tOp a0c (tC (.int 1)) (v7 (E7 K) [] E0 (b6 (c6 0) (b6 (tC (.int 9)) d7)))) (v5 1)) (v8 (K9 (D5 (tOp qEq (v7 (E7 K) [] E0 (b6 (c6 0) (b6 (tC (.int 8)) d7))) (tC (.int 0)))) (F2 (tOp a0c (tC (.int 15)) (v7 (E7 K) [] E0 (b6 (c6 0) (b6 (tC (.int 10)) d7)))) (v5 1)) E4) (v8 (F2 (v7 (a4z K) [] E0 (b6 (v7 (b0M K) [] E0 (b6 (c6 0) (b6 (c6 1) d7))) d7)) (v5 2)) (v8 (F2 (tOp a0c (tC (.int 1)) (v7 (E7 K) [] E0 (b6 (c6 0) (b6 (tC (.int 3)) d7)))) (v5 3)) (v8 (F2 (v7 (a5J K) [] E0 (b6 (c6 0) (b6 (tOp a0c (tOp a0c (c6 3) (tC (.int 1))) (v7 (E7 K) [] E0 (b6 (c6 0) (b6 (tC (.int 2)) d7)))) d7))) (v5 4)) (v8 (fun D σ H=>(Z2 (a1k (b6 (tOp a0c (tC (.int 1)) (v7 (E7 K) [] E0 (b6 (c6 0) (b6 (tC (.int 3)) d7)))) d7)) Z1 (v7 (a7z K) [] E0 (b6 (c6 1) (b6 (tSl qSl (c6 5) a2Y (a8l (c6 4))) d7)))) σ H fun v H1=>D.nx (σ.set 5 (some v)) H1) (v8 (F2 (V9 d7) (v5 6)) (v8 (a1i (Y6 K (c6 2)) (v5 7) (K9 (D5 (tOp qEq (tCB U6 (b6 (c6 7) d7)) (tC (.int 2)))) (V3 (tBM K "list" R0 (c6 6) (b6 (a1h (b6 (tC (.str "ask")) (b6 (v7 (Z3 K) [] E0 (b6 (c6 0) (b6 (c6 4) d7))) d7))) d7))) (V3 (tBM K "list" R0 (c6 6) (b6 (v7 (b0L K) [] E0 (b6 (c6 0) (b6 (c6 4) (b6 (c6 3) (b6 (c6 5) d7))))) d7))))) (F7 (a1h (b6 (c6 6) (b6 (c6 2) (b6 (c6 4) (b6 (c6 5) d7)))))))))))))
def a7x(K:Fg):Sp:=spD 1 8 (b8B K)
def b5A(K:Fg):TS:=F7 (Z2 (Y6 K (c6 0)) Z1 (tCB a2o (b6 (c6 0) d7)))
def a5K(K:Fg):Sp:=spD 1 1 (b5A K)
def b8C(K:Fg):TS:=F7 (tOp qIx (V9 (b6 (v7 (E7 K) [] E0 (b6 (c6 0) (b6 (tC (.int 121)) d7))) (b6 (tC (.int 120)) (b6 (tC (.int 0)) (b6 (tC (.int 1)) (b6 (tC (.int 120)) d7)))))) (v7 (E7 K) [] E0 (b6 (c6 0) (b6 (tC (.int 5)) d7))))
def a7y(K:Fg):Sp:=spD 1 1 (b8C K)
def b5x(K:Fg):TS:=F7 (Z2 (a1k (b6 (v7 (E7 K) [] E0 (b6 (c6 0) (b6 (tOp a0c (tC (.int 7)) (tOp b1g (tC (.int 54)) (tCB b2Q (b6 (tOp qEq (v7 (E7 K) [] E0 (b6 (c6 0) (b6 (tC (.int 8)) d7))) (tC (.int 7))) d7)))) d7))) d7)) Z1 (v7 (a1V K) [] E0 (b6 (c6 1) d7)))
def a5H(K:Fg):Sp:=spD 1 1 (b5x K)
def b5y(K:Fg):TS:=v8 (F2 a6o (v5 2)) (v8 (a1i (Y6 K (c6 1)) (v5 3) (K9 (D5 (tOp qEq (v7 (E7 K) [] E0 (b6 (c6 0) (b6 (tC (.int 2)) d7))) (tC (.int 0)))) (a1Z (c6 2) (c6 3) (v7 (a1V K) [] E0 (b6 (c6 0) d7))) E4)) (v8 (fun D σ H=>(Z2 (Y6 K (V9 (b6 (tC (.str "spare")) (b6 (tC (.str "k9")) (b6 (tC (.str "x1")) (b6 (tC (.str "y2")) (b6 (tC (.str "z3")) (b6 (tC (.str "w4")) d7)))))))) (D5 (tOp (qIn true) (c6 0) (c6 2))) (c6 0)) σ H fun v H1=>D.nx (σ.set 4 (some v)) H1) (v8 (a1Z (c6 2) (tOp qIx (c6 4) (tC (.int 0))) (v7 (a1V K) [] E0 (b6 (c6 0) d7))) (F7 (c6 2)))))
def a5I(K:Fg):Sp:=spD 2 5 (b5y K)
def b5B(K:Fg):TS:=v8 (K9 (D5 (tOp qLt (tOp (a8G K) (c6 1) (tC (.int 0))) (tC (.int 0)))) (F7 (tC (.int 0))) E4) (F7 (tOp qIx (tOp qIx (c6 0) (tOp (a8G K) (c6 1) (tC (.int 0)))) (tOp (a8G K) (c6 1) (tC (.int 1)))))
def a3Y(K:Fg):Sp:=spD 2 2 (b5B K)
def c7z(K:Fg):TS:=v8 (K9 (tB (tCB a1r (b6 (c6 0) (b6 (tC (.ty "str")) d7)))) (F7 (a8m (c6 1) (c6 0) (tC (.int 0)))) E4) (F7 (c6 0))
def a7g(K:Fg):Sp:=spD 2 2 (c7z K)
def a7c(K:Fg):TS:=v8 (F2 (v7 (a7g K) [] E0 (b6 (tOp qIx (c6 0) (tC (.int 1))) (b6 (c6 1) d7))) (v5 2)) (v8 (F2 (v7 (a7g K) [] E0 (b6 (tOp qIx (c6 0) (tC (.int 2))) (b6 (c6 1) d7))) (v5 3)) (v8 (K9 (D5 (tOp qEq (tOp qIx (c6 0) (tC (.int 0))) (tC (.str "plus")))) (F7 (tOp a2P (tOp a0c (c6 2) (c6 3)) (tC (.int 1000000000000)))) E4) (v8 (K9 (D5 (tOp qEq (tOp qIx (c6 0) (tC (.int 0))) (tC (.str "minus")))) (F7 (tOp a2P (tOp b1f (c6 2) (c6 3)) (tC (.int 1000000000000)))) E4) (v8 (K9 (D5 (tOp qEq (tOp qIx (c6 0) (tC (.int 0))) (tC (.str "times")))) (F7 (tOp a2P (tOp b1g (c6 2) (c6 3)) (tC (.int 1000000000000)))) E4) (v8 (K9 (D5 (tOp qEq (tOp qIx (c6 0) (tC (.int 0))) (tC (.str "less")))) (F7 (tCB b2Q (b6 (tOp qLt (c6 2) (c6 3)) d7))) E4) (F7 (tCB b2Q (b6 (tOp qEq (c6 2) (c6 3)) d7))))))))
def a1C(K:Fg):Sp:=spD 2 4 (a7c K)
def a9W(K:Fg):TS:=v8 (F2 (tCB a4S (b6 (c6 2) d7)) (v5 5)) (v8 (F2 (V9 d7) (v5 6)) (v8 (F2 (V9 d7) (v5 7)) (v8 (F2 (tC (.int 0)) (v5 8)) (v8 (F2 (a1h (b6 (tUn (rU fun i=>.int (-i)) (tC (.int 1))) (b6 (tC (.int 0)) d7))) (v5 9)) (v8 (a1i (a1k (b6 (c6 4) d7)) (v5 10) (v8 (F2 (v7 (a3Y K) [] E0 (b6 (c6 1) (b6 (c6 9) d7))) (v5 11)) (v8 (F2 (tOp qIx (c6 0) (c6 11)) (v5 12)) (v8 (V3 (tBM K "list" R0 (c6 7) (b6 (c6 9) d7))) (v8 (K9 (D5 (tOp qEq (tOp qIx (c6 12) (tC (.int 0))) (tC (.str "set")))) (a1Z (c6 5) (tOp qIx (c6 12) (tC (.int 1))) (v7 (a1C K) [] E0 (b6 (tOp qIx (c6 12) (tC (.int 2))) (b6 (c6 5) d7)))) E4) (v8 (K9 (D5 (tOp qEq (tOp qIx (c6 12) (tC (.int 0))) (tC (.str "copy")))) (a1Z (c6 5) (tOp qIx (c6 12) (tC (.int 1))) (v7 (a7g K) [] E0 (b6 (tOp qIx (c6 12) (tC (.int 2))) (b6 (c6 5) d7)))) E4) (v8 (K9 (D5 (tOp qEq (tOp qIx (c6 12) (tC (.int 0))) (tC (.str "take")))) (v8 (a1Z (c6 5) (tOp qIx (c6 12) (tC (.int 1))) (tOp qIx (tOp a0c (c6 3) (tOp c4m (V9 (b6 (tC (.int 0)) d7)) (tOp a0c (c6 8) (tC (.int 1))))) (c6 8))) (F2 (tOp a0c (c6 8) (tC (.int 1))) (v5 8))) E4) (v8 (K9 (D5 (tOp qEq (tOp qIx (c6 12) (tC (.int 0))) (tC (.str "tell")))) (V3 (tBM K "list" R0 (c6 6) (b6 (v7 (a7g K) [] E0 (b6 (tOp qIx (c6 12) (tC (.int 1))) (b6 (c6 5) d7))) d7))) E4) (v8 (K9 (D5 (tOp qEq (tOp qIx (c6 1) (c6 11)) (V9 d7))) (F7 (a1h (b6 (c6 6) (b6 (c6 7) (b6 (c6 5) (b6 (tC (.bl true)) d7)))))) E4) (F2 (a1h (b6 (c6 11) (b6 (tCB b2Q (b6 (a0h (tOp qEq (tOp qIx (c6 12) (tC (.int 0))) (tC (.str "ask"))) (tOp qEq (v7 (a7g K) [] E0 (b6 (tOp qIx (c6 12) (tC (.int 1))) (b6 (c6 5) d7))) (tC (.int 0)))) d7)) d7))) (v5 9))))))))))) (F7 (a1h (b6 (c6 6) (b6 (c6 7) (b6 (c6 5) (b6 (tC (.bl false)) d7)))))))))))
def a3a(K:Fg):Sp:=spD 5 13 (a9W K)
def b2z(K:Fg):TS:=F7 (tIf (D5 (tOp (qIn false) (tOp qIx (c6 0) (tC (.int 0))) (a1h (b6 (tC (.str "set")) (b6 (tC (.str "copy")) (b6 (tC (.str "take")) d7)))))) (tOp qIx (c6 0) (tC (.int 1))) (tC .non))
def a2N(K:Fg):Sp:=spD 1 1 (b2z K)
def a8f(K:Fg):TS:=v8 (K9 (tB (tCB a1r (b6 (c6 0) (b6 (tC (.ty "str")) d7)))) (F7 (a8m (c6 1) (c6 0) (tC (.int 0)))) E4) (F7 (c6 0))
def X2(K:Fg):Sp:=spD 2 2 (a8f K)
def b5u(K:Fg):TS:=v8 (F2 (tOp qIx (c6 0) (tC (.int 0))) (v5 2)) (v8 (F2 (v7 (X2 K) [] E0 (b6 (tOp qIx (c6 0) (tC (.int 1))) (b6 (c6 1) d7))) (v5 3)) (v8 (F2 (v7 (X2 K) [] E0 (b6 (tOp qIx (c6 0) (tC (.int 2))) (b6 (c6 1) d7))) (v5 4)) (v8 (K9 (D5 (tOp qEq (c6 2) (tC (.str "plus")))) (F7 (tOp a2P (tOp a0c (c6 3) (c6 4)) (tC (.int 1000000000000)))) E4) (v8 (K9 (D5 (tOp qEq (c6 2) (tC (.str "minus")))) (F7 (tOp a2P (tOp b1f (c6 3) (c6 4)) (tC (.int 1000000000000)))) E4) (v8 (K9 (D5 (tOp qEq (c6 2) (tC (.str "times")))) (F7 (tOp a2P (tOp b1g (c6 3) (c6 4)) (tC (.int 1000000000000)))) E4) (v8 (K9 (D5 (tOp qEq (c6 2) (tC (.str "less")))) (F7 (tIf (D5 (tOp qLt (c6 3) (c6 4))) (tC (.int 1)) (tC (.int 0)))) E4) (F7 (tIf (D5 (tOp qEq (c6 3) (c6 4))) (tC (.int 1)) (tC (.int 0))))))))))
def a5G(K:Fg):Sp:=spD 2 5 (b5u K)
def a7b(K:Fg):TS:=v8 (K9 (D5 (tOp qEq (tOp qIx (c6 0) (tC (.int 0))) (tC (.str "set")))) (F7 (v7 (a5G K) [] E0 (b6 (tOp qIx (c6 0) (tC (.int 2))) (b6 (c6 1) d7)))) E4) (v8 (K9 (D5 (tOp qEq (tOp qIx (c6 0) (tC (.int 0))) (tC (.str "copy")))) (F7 (v7 (X2 K) [] E0 (b6 (tOp qIx (c6 0) (tC (.int 2))) (b6 (c6 1) d7)))) E4) (F7 (tIf (D5 (tOp qGt (tCB U6 (b6 (c6 2) d7)) (tC (.int 0)))) (a9u K "list" b4q (c6 2)) (tC (.int 0)))))
def a1B(K:Fg):Sp:=spD 3 3 (a7b K)
def a4Q(K:Fg):TS:=v8 (K9 (b0I (D5 (tOp qEq (tOp qIx (c6 1) (tC (.int 0))) (tC (.str "ask")))) (D5 (tOp qEq (v7 (X2 K) [] E0 (b6 (tOp qIx (c6 1) (tC (.int 1))) (b6 (c6 2) d7))) (tC (.int 0))))) (F7 (a1h (b6 (c6 0) (b6 (tC (.int 1)) d7)))) E4) (F7 (a1h (b6 (c6 0) (b6 (tC (.int 0)) d7))))
def a0E(K:Fg):Sp:=spD 3 3 (a4Q K)
def a3B(K:Fg)(c:Cn):TS:=v8 (K9 (D5 (tOp (c1z K) (c6 1) (tC (.ref c.a0a)))) (F7 (tC (.int 0))) E4) (F7 (tOp qIx (tOp qIx (b2D K (c6 0) "nexts") (tOp qIx (c6 1) (tC (.int 0)))) (tOp qIx (c6 1) (tC (.int 1)))))
def W9(K:Fg)(c:Cn):Sp:=spD 2 2 (a3B K c)
def c3k(K:Fg)(c:Cn):TS:=v8 (F2 (tCB a4S (b6 (c6 1) d7)) (v5 4)) (v8 (F2 (b5E (c6 2)) (v5 5)) (v8 (F2 (V9 d7) (v5 6)) (v8 (F2 (V9 d7) (v5 7)) (v8 (F2 (tC (.ref c.a0a)) (v5 8)) (v8 (F2 (tC (.bl false)) (v5 9)) (v8 (a8k (b0I (D5 (tOp qLt (tCB U6 (b6 (c6 7) d7)) (c6 3))) (a0V (tB (c6 9)))) (v8 (V3 (tBM K "list" R0 (c6 7) (b6 (c6 8) d7))) (v8 (F2 (b0a c.T1 "leads_to" (W9 K c) [] E0 (c6 0) (b6 (c6 8) d7)) (v5 10)) (v8 (F2 (tOp qIx (b2D K (c6 0) "rows") (c6 10)) (v5 11)) (v8 (K9 (D5 (tOp b1h (v7 (a2N K) [] E0 (b6 (c6 11) d7)) (tC .non))) (a1Z (c6 4) (v7 (a2N K) [] E0 (b6 (c6 11) d7)) (v7 (a1B K) [] E0 (b6 (c6 11) (b6 (c6 4) (b6 (c6 5) d7))))) (K9 (D5 (tOp qEq (tOp qIx (c6 11) (tC (.int 0))) (tC (.str "tell")))) (V3 (tBM K "list" R0 (c6 6) (b6 (v7 (X2 K) [] E0 (b6 (tOp qIx (c6 11) (tC (.int 1))) (b6 (c6 4) d7))) d7))) E4)) (v8 (F2 (tOp qEq (tCB U6 (b6 (tOp qIx (b2D K (c6 0) "nexts") (c6 10)) d7)) (tC (.int 0))) (v5 9)) (F2 (v7 (a0E K) [] E0 (b6 (c6 10) (b6 (c6 11) (b6 (c6 4) d7)))) (v5 8)))))))) (F7 (a1h (b6 (c6 6) (b6 (c6 7) (b6 (c6 4) (b6 (c6 9) d7))))))))))))
def a6p(K:Fg)(c:Cn):Sp:=spD 4 12 (c3k K c)
def b5v(K:Fg):TS:=F7 (a0h (tCB a1r (b6 (c6 0) (b6 (tC (.ty "int")) d7))) (a9Z (tCB a1r (b6 (c6 0) (b6 (tC (.ty "bool")) d7)))))
def a1U(K:Fg):Sp:=spD 1 1 (b5v K)
def a9X(K:Fg):TS:=v8 (K9 (tOr (a0V (tB (tCB (b9v K) (b6 (c6 1) (b6 (tC (.ty "tuple")) d7))))) (tOr (D5 (tOp qNe (tCB (b9u K) (b6 (c6 1) d7)) (tC (.int 2)))) (tOr (a0V (tB (v7 (a1U K) [] E0 (b6 (tOp (a8G K) (c6 1) (tC (.int 0))) d7)))) (a0V (tB (v7 (a1U K) [] E0 (b6 (tOp (a8G K) (c6 1) (tC (.int 1))) d7))))))) (F7 (tC (.bl false))) E4) (v8 (K9 (D5 (tOp (c1z K) (c6 1) (a1h (b6 (tUn (rU fun i=>.int (-i)) (tC (.int 1))) (b6 (tC (.int 0)) d7))))) (F7 (tC (.bl true))) E4) (F7 (a0h (a2x qLe qLt (tC (.int 0)) (tOp (a8G K) (c6 1) (tC (.int 0))) (tCB U6 (b6 (c6 0) d7))) (a2x qLe qLt (tC (.int 0)) (tOp (a8G K) (c6 1) (tC (.int 1))) (tCB U6 (b6 (tOp qIx (c6 0) (tOp (a8G K) (c6 1) (tC (.int 0)))) d7))))))
def a3b(K:Fg):Sp:=spD 2 2 (a9X K)
def b2A(K:Fg):TS:=v8 (K9 (a0V (tB (tCB a1r (b6 (c6 1) (b6 (tC (.ty "list")) d7))))) (F7 (tC .non)) E4) (v8 (F2 (V9 d7) (v5 2)) (v8 (a1i (a7l K (b6 (c6 1) d7)) (a9E K 2 (a0k (v5 3) (a0k (v5 4) (a9F)))) (v8 (K9 (tOr (a0V (tB (v7 (a3b K) [] E0 (b6 (c6 0) (b6 (c6 4) d7))))) (b0I (D5 (tOp qGt (c6 3) (tC (.int 0)))) (D5 (tOp qNe (tOp (a8G K) (c6 4) (tC (.int 0))) (tOp qIx (c6 2) (tUn (rU fun i=>.int (-i)) (tC (.int 1)))))))) (F7 (tC .non)) E4) (V3 (tBM K "list" R0 (c6 2) (b6 (v7 (a3Y K) [] E0 (b6 (c6 0) (b6 (c6 4) d7))) d7))))) (F7 (c6 2))))
def a4y(K:Fg):Sp:=spD 2 5 (b2A K)
def b5C(K:Fg):TS:=v8 (K9 (tOr (a0V (tB (tCB a1r (b6 (c6 0) (b6 (tC (.ty "tuple")) d7))))) (tOr (D5 (tOp qNe (tCB U6 (b6 (c6 0) d7)) (tC (.int 4)))) (a0V (tB (tCB a1r (b6 (tOp qIx (c6 0) (tC (.int 3))) (b6 (tC (.ty "bool")) d7))))))) (F7 (tC (.bl false))) E4) (v8 (K9 (tOr (a0V (tB (tCB a1r (b6 (tOp qIx (c6 0) (tC (.int 0))) (b6 (tC (.ty "list")) d7))))) (tOr (a0V (tB (tCB a1r (b6 (tOp qIx (c6 0) (tC (.int 1))) (b6 (tC (.ty "list")) d7))))) (a0V (tB (tCB a1r (b6 (tOp qIx (c6 0) (tC (.int 2))) (b6 (tC (.ty "dict")) d7))))))) (F7 (tC (.bl false))) E4) (v8 (a1i (Y6 K (tOp qIx (c6 0) (tC (.int 0)))) (v5 2) (K9 (a0V (tB (v7 (a1U K) [] E0 (b6 (c6 2) d7)))) (F7 (tC (.bl false))) E4)) (v8 (b8G (tOp qIx (c6 0) (tC (.int 2))) (v5 3) (K9 (tOr (a0V (tB (tCB a1r (b6 (c6 3) (b6 (tC (.ty "str")) d7))))) (a0V (tB (v7 (a1U K) [] E0 (b6 (b5F (tOp qIx (c6 0) (tC (.int 2))) (c6 3)) d7))))) (F7 (tC (.bl false))) E4)) (F7 (tOp b1h (v7 (a4y K) [] E0 (b6 (c6 1) (b6 (tOp qIx (c6 0) (tC (.int 1))) d7))) (tC .non))))))
def a5L(K:Fg):Sp:=spD 2 4 (b5C K)
def b5D(K:Fg)(c:Cn):TS:=v8 (F2 (c6 3) (a9E K 3 (a0k (v5 4) (a0k (v5 5) (a0k (v5 6) (a9F)))))) (v8 (F2 (V9 (b6 (tCB a4S (b6 (c6 4) d7)) (b6 (tCB a2o (b6 (c6 5) d7)) d7))) (v5 7)) (v8 (F2 (v7 (a3a K) [] E0 (b6 (c6 1) (b6 (c6 2) (b6 (c6 4) (b6 (c6 5) (b6 (c6 6) d7)))))) (v5 8)) (v8 (F2 (v7 (a6p K c) [] E0 (b6 (c6 0) (b6 (tOp qIx (c6 7) (tC (.int 0))) (b6 (tOp qIx (c6 7) (tC (.int 1))) (b6 (c6 6) d7))))) (v5 9)) (v8 (K9 (tOr (a0V (tB (v7 (a5L K) [] E0 (b6 (c6 9) (b6 (c6 2) d7))))) (tOr (D5 (tOp (c4u K) (c6 9) (c6 8))) (D5 (tOp (b9s K) (c6 7) (V9 (b6 (c6 4) (b6 (c6 5) d7))))))) (F7 (tC (.bl false))) E4) (v8 (V3 (tBM K "list" R0 (tOp qIx (c6 9) (tC (.int 0))) (b6 (tC (.int 7)) d7))) (v8 (V3 (a9u K "list" a5e (tOp qIx (c6 9) (tC (.int 1))))) (v8 (V3 (a9u K "dict" a7F (tOp qIx (c6 9) (tC (.int 2))))) (v8 (K9 (D5 (tOp (b9s K) (c6 7) (V9 (b6 (c6 4) (b6 (c6 5) d7))))) (F7 (tC (.bl false))) E4) (v8 (V3 (a9u K "dict" a7F (tOp qIx (c6 7) (tC (.int 0))))) (v8 (V3 (tBM K "list" R0 (tOp qIx (c6 7) (tC (.int 1))) (b6 (tC (.int 5)) d7))) (F7 (tOp (c4w K) (v7 (a6p K c) [] E0 (b6 (c6 0) (b6 (tCB a4S (b6 (c6 4) d7)) (b6 (tCB a2o (b6 (c6 5) d7)) (b6 (c6 6) d7))))) (c6 8)))))))))))))
def a5N(K:Fg)(c:Cn):Sp:=spD 4 10 (b5D K c)
def a3X(K:Fg):TS:=v8 (K9 (tOr (a0V (tB (tCB a1r (b6 (c6 0) (b6 (tC (.ty "list")) d7))))) (D5 (tOp qLt (tCB U6 (b6 (c6 0) d7)) (c6 2)))) (fun _ _ _=>False) E4) (K9 (D5 (tOp qGt (tCB U6 (b6 (c6 0) d7)) (tC (.int 400)))) (fun _ _ _=>False) E4)
def a0p(K:Fg):Sp:=spD 3 3 (a3X K)
def a6n(K:Fg):TS:=v8 (K9 (tOr (a0V (tB (tCB a1r (b6 (c6 0) (b6 (tC (.ty "str")) d7))))) (a0V (D5 (a2x qLe qLe (tC (.int 1)) (tCB U6 (b6 (c6 0) d7)) (tC (.int 8)))))) (F7 (tC (.bl false))) E4) (F7 (a0h (tOp (qIn false) (tOp qIx (c6 0) (tC (.int 0))) (tC (.str "abcdefghijklmnopqrstuvwxyz"))) (tCB b1i (b6 (Z2 (c2K (c6 0)) Z1 (tOp (qIn false) (c6 0) (tOp a0c (tC (.str "abcdefghijklmnopqrstuvwxyz")) (tC (.str "0123456789"))))) d7))))
def X5(K:Fg):Sp:=spD 1 1 (a6n K)
def b3V(K:Fg):TS:=F7 (a0h (tCB a1r (b6 (c6 0) (b6 (tC (.ty "int")) d7))) (a9Z (tCB a1r (b6 (c6 0) (b6 (tC (.ty "bool")) d7)))))
def a1j(K:Fg):Sp:=spD 1 1 (b3V K)
def a8i(K:Fg):TS:=F7 (a0h (v7 (a1j K) [] E0 (b6 (c6 0) d7)) (a2x qLe qLt (tC (.int 0)) (c6 0) (tC (.int 1000000000000))))
def a2l(K:Fg):Sp:=spD 1 1 (a8i K)
def a5C(K:Fg):TS:=F7 (c1i (v7 (X5 K) [] E0 (b6 (c6 0) d7)) (v7 (a2l K) [] E0 (b6 (c6 0) d7)))
def W0(K:Fg):Sp:=spD 1 1 (a5C K)
def a9Y(K:Fg)(c:Cn):TS:=v8 (K9 (tOr (a0V (tB (tCB a1r (b6 (c6 0) (b6 (tC (.ty "tuple")) d7))))) (D5 (tOp qNe (tCB U6 (b6 (c6 0) d7)) (tC (.int 3))))) (F7 (tC (.bl false))) E4) (F7 (a0h (tOp (c4v K) (tOp qIx (c6 0) (tC (.int 0))) (tC (.ref c.a3z))) (a0h (v7 (W0 K) [] E0 (b6 (tOp qIx (c6 0) (tC (.int 1))) d7)) (v7 (W0 K) [] E0 (b6 (tOp qIx (c6 0) (tC (.int 2))) d7)))))
def a3c(K:Fg)(c:Cn):Sp:=spD 1 1 (a9Y K c)
def b2C(K:Fg)(c:Cn):TS:=v8 (K9 (tOr (a0V (tB (tCB a1r (b6 (c6 0) (b6 (tC (.ty "tuple")) d7))))) (D5 (tOp qEq (tCB U6 (b6 (c6 0) d7)) (tC (.int 0))))) (F7 (tC (.bl false))) E4) (v8 (F2 (tOp qIx (c6 0) (tC (.int 0))) (v5 1)) (v8 (F2 (tSl qSl (c6 0) (a8l (tC (.int 1))) a2Y) (v5 2)) (v8 (K9 (D5 (tOp qEq (c6 1) (tC (.str "set")))) (F7 (a0h (tOp qEq (tCB U6 (b6 (c6 2) d7)) (tC (.int 2))) (a0h (v7 (X5 K) [] E0 (b6 (tOp qIx (c6 2) (tC (.int 0))) d7)) (v7 (a3c K c) [] E0 (b6 (tOp qIx (c6 2) (tC (.int 1))) d7))))) E4) (v8 (K9 (D5 (tOp qEq (c6 1) (tC (.str "copy")))) (F7 (a0h (tOp qEq (tCB U6 (b6 (c6 2) d7)) (tC (.int 2))) (a0h (v7 (X5 K) [] E0 (b6 (tOp qIx (c6 2) (tC (.int 0))) d7)) (v7 (W0 K) [] E0 (b6 (tOp qIx (c6 2) (tC (.int 1))) d7))))) E4) (v8 (K9 (D5 (tOp qEq (c6 1) (tC (.str "take")))) (F7 (a0h (tOp qEq (tCB U6 (b6 (c6 2) d7)) (tC (.int 1))) (v7 (X5 K) [] E0 (b6 (tOp qIx (c6 2) (tC (.int 0))) d7)))) E4) (v8 (K9 (D5 (tOp (qIn false) (c6 1) (a1h (b6 (tC (.str "tell")) (b6 (tC (.str "ask")) d7))))) (F7 (a0h (tOp qEq (tCB U6 (b6 (c6 2) d7)) (tC (.int 1))) (v7 (W0 K) [] E0 (b6 (tOp qIx (c6 2) (tC (.int 0))) d7)))) E4) (F7 (a0h (tOp qEq (c6 1) (tC (.str "skip"))) (tOp qEq (tCB U6 (b6 (c6 2) d7)) (tC (.int 0)))))))))))
def a4A(K:Fg)(c:Cn):Sp:=spD 1 3 (b2C K c)
def a5E(K:Fg):TS:=a1i (a7l K (b6 (c6 0) d7)) (a9E K 2 (a0k (v5 1) (a0k (v5 2) (a9F)))) (K9 (a0V (tB (c6 2))) (fun _ _ _=>False) E4)
def a0i(K:Fg):Sp:=spD 1 3 (a5E K)
def a8j(K:Fg):TS:=F7 (a0h (v7 (a1j K) [] E0 (b6 (c6 0) d7)) (a2x qLe qLt (tC (.int 0)) (c6 0) (c6 1)))
def a2m(K:Fg):Sp:=spD 2 2 (a8j K)
def a7d(K:Fg):TS:=v8 (K9 (a0V (tB (tCB a1r (b6 (c6 1) (b6 (tC (.ty "list")) d7))))) (F7 (tC (.bl false))) E4) (v8 (F2 (tIf (D5 (tOp qEq (tOp qIx (c6 0) (tC (.int 0))) (tC (.str "ask")))) (a1h (b6 (tC (.int 2)) d7)) (a1h (b6 (tC (.int 0)) (b6 (tC (.int 1)) d7)))) (v5 3)) (F7 (a0h (tOp (qIn false) (tCB U6 (b6 (c6 1) d7)) (c6 3)) (tCB b1i (b6 (Z2 (Y6 K (c6 1)) Z1 (v7 (a2m K) [] E0 (b6 (c6 0) (b6 (c6 3) d7)))) d7)))))
def a1D(K:Fg):Sp:=spD 3 4 (a7d K)
def a4R(K:Fg):TS:=v8 (K9 (tOr (a0V (tB (tCB a1r (b6 (c6 1) (b6 (tC (.ty "list")) d7))))) (D5 (tOp qNe (tCB U6 (b6 (c6 1) d7)) (tCB U6 (b6 (c6 0) d7))))) (fun _ _ _=>False) E4) (V3 (v7 (a0i K) [] E0 (b6 (a8n K (c2J K (b6 (c6 0) (b6 (c6 1) d7))) Z1 (v7 (a1D K) [] E0 (b6 (c6 0) (b6 (c6 1) (b6 (tCB U6 (b6 (c6 2) d7)) d7))))) d7)))
def a0F(K:Fg):Sp:=spD 2 2 (a4R K)
def a9U(K:Fg):TS:=v8 (F2 a6o (v5 2)) (v8 (F2 (tCB a2o (b6 (c6 0) d7)) (v5 3)) (v8 (a8k (D5 (tOp qGt (tCB U6 (b6 (c6 3) d7)) (tC (.int 0)))) (v8 (F2 (a9u K "list" b4q (c6 3)) (v5 4)) (K9 (tB (a4w (c6 4) (c6 2))) (v8 (a1Z (c6 2) (c6 4) (tC (.bl true))) (V3 (tBM K "list" a3l (c6 3) (b6 (tOp qIx (c6 1) (c6 4)) d7)))) E4))) (F7 (c6 2))))
def a1W(K:Fg):Sp:=spD 2 5 (a9U K)
def b2y(K:Fg):TS:=v8 (fun D σ H=>(Z2 (Y6 K (c6 0)) Z1 (V9 d7)) σ H fun v H1=>D.nx (σ.set 1 (some v)) H1) (v8 (a1i (a7l K (b6 (c6 0) d7)) (a9E K 2 (a0k (v5 2) (a0k (v5 3) (a9F)))) (a1i (Y6 K (c6 3)) (v5 4) (V3 (tBM K "list" R0 (tOp qIx (c6 1) (c6 4)) (b6 (c6 2) d7))))) (F7 (c6 1)))
def a4x(K:Fg):Sp:=spD 1 5 (b2y K)
def a8g(K:Fg):TS:=F7 (a8n K (a7l K (b6 (c6 0) d7)) (D5 (tOp qEq (tCB U6 (b6 (c6 1) d7)) (tC (.int 0)))) (c6 0))
def a2j(K:Fg):Sp:=spD 1 1 (a8g K)
def a5D(K:Fg):TS:=v8 (F2 (v7 (a1W K) [] E0 (b6 (V9 (b6 (tC (.int 0)) d7)) (b6 (c6 0) d7))) (v5 1)) (v8 (F2 (v7 (a1W K) [] E0 (b6 (v7 (a2j K) [] E0 (b6 (c6 0) d7)) (b6 (v7 (a4x K) [] E0 (b6 (c6 0) d7)) d7))) (v5 2)) (a1i (a1k (b6 (tCB U6 (b6 (c6 0) d7)) d7)) (v5 3) (K9 (tOr (tB (a4w (c6 3) (c6 1))) (tB (a4w (c6 3) (c6 2)))) (fun _ _ _=>False) E4)))
def a0Z(K:Fg):Sp:=spD 1 4 (a5D K)
def a8h(K:Fg)(c:Cn):TS:=v8 (F2 (V9 (b6 (tC (.ref c.a0a)) d7)) (v5 1)) (v8 (a1i (a7l K (b6 (c6 0) d7)) (a9E K 2 (a0k (v5 2) (a0k (v5 3) (a9F)))) (V3 (tBM K "list" a3l (c6 1) (b6 (Z2 (a1k (b6 (tCB U6 (b6 (c6 3) d7)) d7)) Z1 (a1h (b6 (c6 3) (b6 (c6 0) d7)))) d7)))) (F7 (c6 1)))
def a2k(K:Fg)(c:Cn):Sp:=spD 1 4 (a8h K c)
def a7e(K:Fg)(c:Cn):TS:=v8 (V3 (v7 (a0p K) [] E0 (b6 (c6 1) (b6 (tC (.int 0)) (b6 (tC (.int 1)) d7))))) (v8 (V3 (v7 (a0i K) [] E0 (b6 (Z2 (Y6 K (c6 1)) Z1 (v7 (a4A K c) [] E0 (b6 (c6 0) d7))) d7))) (v8 (V3 (v7 (a0F K) [] E0 (b6 (c6 1) (b6 (c6 2) d7)))) (v8 (V3 (v7 (a0Z K) [] E0 (b6 (c6 2) d7))) (v8 (b6K K (c6 0) (tCB a2o (b6 (c6 1) d7)) "rows") (v8 (b6K K (c6 0) (Z2 (Y6 K (c6 2)) Z1 (tCB a2o (b6 (c6 0) d7))) "nexts") (v8 (b6K K (c6 0) (Z2 (Y6 K (c6 1)) Z1 (V9 d7)) "entries") (a1i (Y6 K (v7 (a2k K c) [] E0 (b6 (b2D K (c6 0) "nexts") d7))) (v5 3) (V3 (tBM K "list" R0 (tOp qIx (b2D K (c6 0) "entries") (b0a c.T1 "leads_to" (W9 K c) [] E0 (c6 0) (b6 (c6 3) d7))) (b6 (c6 3) d7))))))))))
def a1E(K:Fg)(c:Cn):Sp:=spD 3 4 (a7e K c)
def b8D(K:Fg)(c:Cn):TS:=v8 (F2 (v7 (b0N K) [] E0 (b6 (c6 0) d7)) (v5 1)) (v8 (F2 (v7 (a7x K) [] E0 (b6 (c6 1) d7)) (a9E K 4 (a0k (v5 2) (a0k (v5 3) (a0k (v5 4) (a0k (v5 5) (a9F))))))) (v8 (F2 (V9 (b6 (tCB a2o (b6 (c6 2) d7)) (b6 (v7 (a5K K) [] E0 (b6 (c6 3) d7)) d7))) (v5 6)) (v8 (F2 (b0b c.T1 (a1E K c) [] E0 (b6 (tOp qIx (c6 6) (tC (.int 0))) (b6 (tOp qIx (c6 6) (tC (.int 1))) d7))) (v5 7)) (v8 (V3 (a9u K "list" a5e (tOp qIx (c6 6) (tC (.int 0))))) (v8 (a1i (Y6 K (tOp qIx (c6 6) (tC (.int 1)))) (v5 8) (V3 (tBM K "list" R0 (c6 8) (b6 (tC (.int 0)) d7)))) (v8 (F2 (V9 d7) (v5 9)) (v8 (a1i (a1k (b6 (tOp a0c (tC (.int 2)) (v7 (E7 K) [] E0 (b6 (c6 1) (b6 (tC (.int 3)) d7)))) d7)) (v5 10) (v8 (V3 (tBM K "list" R0 (c6 9) (b6 (a1h (b6 (v7 (a5I K) [] E0 (b6 (c6 1) (b6 (c6 4) d7))) (b6 (v7 (a5H K) [] E0 (b6 (c6 1) d7)) (b6 (v7 (a7y K) [] E0 (b6 (c6 1) d7)) d7)))) d7))) (a1i (Y6 K (V9 (b6 (tOp qIx (c6 9) (v7 (E7 K) [] E0 (b6 (c6 1) (b6 (tCB U6 (b6 (c6 9) d7)) d7)))) (b6 (tOp qIx (c6 9) (tUn (rU fun i=>.int (-i)) (tC (.int 1)))) d7)))) (v5 11) (K9 (a0V (tB (v7 (a5N K c) [] E0 (b6 (c6 7) (b6 (c6 2) (b6 (c6 3) (b6 (c6 11) d7))))))) (F7 (tC (.bl false))) E4)))) (F7 (tC (.bl true))))))))))
def a8r(K:Fg):Sp:=fun vs H Q _=>vs.length=1/\∀c,a9m K c->b8D K c { nx:=fun _ H'=>Q .non H',rt:=Q } (vs.map some++u5 (12 - vs.length) none) H
end RD
local macro_rules | `(tactic| walk_at "st") => `(tactic| (with_reducible first
 | refine RD.c3q ?_ | refine RD.b1c ?_ | refine RD.c4c ?_ | refine RD.b9a ?_ | refine RD.c4d ?_ | refine RD.c1u ?_ | refine RD.b0Y ?_ | refine RD.b0W ?_ | refine RD.c7C ?_ | refine RD.c6x ?_ | refine RD.c6C ?_ | refine RD.c3W ?_ | refine RD.c4h ?_ | refine RD.c6w ?_ | refine RD.c3Y ?_ | refine RD.c6z ?_ | refine RD.b9b ?_ | refine RD.c1v ?_ | refine RD.c7B ?_ | refine RD.c6y ?_ | refine RD.s_c ?_ | refine RD.b4n ?_ | refine RD.c3o ?_ | refine RD.c4f ?_ | refine RD.c7E ?_ | refine RD.c6v ?_ | refine RD.c3p ?_ | refine RD.c7D ?_ | refine RD.c3V ?_ | refine RD.b9c ?_ | refine RD.s_rev ?_ | refine RD.b4h ?_ | refine RD.c4g ?_ | refine RD.c6B ?_
 | refine RD.a7h (by with_unfolding_all rfl) ?_ | refine Exists.intro _ (And.intro (Eq.refl (L2.V.bl _)) ?_) | refine Exists.intro _ (And.intro (Eq.refl (L2.V.int _)) ?_)
 | refine RD.c6P ?_ | refine RD.c4r ?_ | refine RD.c7K ?_ | refine RD.c6Q ?_ | refine RD.c6M rfl ?_ | refine RD.c7J rfl ?_))
local macro_rules | `(tactic| walk_at "ev") => `(tactic| repeat walk_at "st")
local macro_rules | `(tactic| walk_at "go") => `(tactic| repeat (first | with_reducible refine RD.W2 ?_ | walk_at "st"))
local macro_rules | `(tactic| ext) => `(tactic| walk_at "ev")
local macro_rules | `(tactic| exists $t:term) => `(tactic| (refine $t; walk_at "ev"))
local macro_rules | `(tactic| specialize $t:term) => `(tactic| (with_reducible refine $t; walk_at "ev"))
local macro_rules | `(tactic| exact_mod_cast $t:term) => `(tactic| with_reducible refine $t)
local macro_rules | `(tactic| nofun) => `(tactic| (with_reducible refine RD.W2 ?_; walk_at "ev"))
namespace RD
open PySem PySem.Spec L2
variable{C a b c d dx l na p ra:Addr}{H H' H0 H1:Hp}{o:HO}{xs ys:List V}{i:Int}{D:a5p}{σ:St}{ta te to:TE}{tt:TT}{Q:VK}{v:V}{m n:Nat}{f:V->List V->Hp->VK->Prop}{z:Str}{ss:List Str}{QD:Hp->Prop}{R:It->Hp->Prop}{cs ks:List Nat}{M N:Nt}{L L0 ns:List Int}{as rs:List Addr}{Z:Addr->Prop}{RC:Nat->List V}
section
variable {D:Addr}
theorem c4b(h:ta σ H fun v H2=>∃x,v=.str x/\R (Its x) H2):c2K ta σ H R:=h
theorem c0E{x:Str}(Pv:Nat->List V->Hp->Prop)(h0:Pv 0 [] (upd H1 D (.lst [])))(hP:∀i ys H,Pv i ys H->H D=some (.lst ys))
  (step:∀i c ys H2,x.cps[i]? = some c->Pv i ys H2->∀(R:VK) (R':Hp->Prop),(∀y H5,H5 D=some (.lst ys)->ys.length<u8->Pv (i+1) (ys++[y]) (upd H5 D (.lst (ys++[y])))->R y H5)->(∀H4,Pv (i+1) ys H4->R' H4) ->
   tt (some (.str ⟨#[c]⟩)::σ) H2 fun ok H4=>if ok=true then te (some (.str ⟨#[c]⟩)::σ) H4 R else R' H4)
  (done:∀ys H2,Pv x.length ys H2->QD H2) :
  ∃W:Nat->Nat->List V->Hp->Prop,(∃m,W 0 m [] (upd H1 D (.lst [])))/\∀i m ys H2,W i m ys H2->H2 D=some (.lst ys) /\
   (((Its x).stop i H2 /\ QD H2) \/ ((Its x).go i H2 /\ ∀ v H3,(Its x).yld i H2 v H3 -> tt (some v :: σ) H3 fun ok H4 => if ok = true then
     te (some v::σ) H4 (fun y H5=>H5 D=some (.lst ys)/\ys.length<u8/\∃m',m'<m/\W (i+1) m' (ys++[y]) (upd H5 D (.lst (ys++[y]))))
     else ∃m',m'<m/\W (i+1) m' ys H4)):=by
 refine⟨fun i m ys H=>m=x.length - i/\i<=x.length/\Pv i ys H,⟨x.length,rfl,K0 _,h0⟩,?_⟩
 rintro i m ys H2 ⟨rfl,hi,p⟩
 refine⟨hP i ys H2 p,?_⟩
 by_cases hlt:i<x.length
 ·refine .inr ⟨hlt,fun v H3 y=>?_⟩
  obtain⟨e,c,hc,ev⟩:=y
  subst e ev
  exact step i c ys _ hc p _ _ (fun y H5 h1 h2 h3=>⟨h1,h2,x.length - (i+1),by omega,rfl,hlt,h3⟩) fun H4 h=>⟨x.length - (i+1),by omega,rfl,hlt,h⟩
 ·have e:i=x.length:=by omega
  subst e
  exact .inl ⟨i9 _,done ys H2 p⟩
end
def sgn(S:Str)(c:Nat):Bool := !(Builtin.Str.occurrences S ⟨#[c]⟩ 0 S.length 1).isEmpty
theorem c3w{S:Str}{c:Nat}(h:Q (.bl (sgn S c)) H):qIn false (.str ⟨#[c]⟩) (.str S) H Q:=h
abbrev LET:Str := "abcdefghijklmnopqrstuvwxyz"
abbrev SGN:Str := "abcdefghijklmnopqrstuvwxyz0123456789"
theorem b8L:LET++("0123456789" : Str)=SGN:=by decide +kernel
def a3C(z:Str):Bool:=decide (1<=z.length)&&decide (z.length<=8)&&(match z.cps[0]? with | some c=>sgn LET c | none=>false)&&z.cps.toList.all (sgn SGN)
theorem b3g{K:Fg}{E:XK}(hz:z.length<=100)(k:∀H',A0 H H'->Q (.bl (a3C z)) H'):X5 K [.str z] H Q E:=by
 refine⟨rfl,?_⟩
 unfold a6n
 have hz':=small (show z.length<=100000 by omega)
 nofun
 exists a0z (s := "str") rfl (by decide) ?_
 exists C4 (by decide) ?_
 exists c4p hz' ?_
 by_cases h1:1<=z.length
 case neg=>
  exists C4 (c9r (by omega)) ?_
  exists J1 rfl ?_
  have e:a3C z=false:=by unfold a3C;rw[c9r h1];simp
  rw[<-e]
  exact k H (A0.refl _)
 exists J1 (c9s (by omega)) ?_
 by_cases h8:z.length<=8
 case neg=>
  rw[c9r (show ¬((z.length:Int)<=8) by omega)]
  exists J1 rfl ?_
  have e:a3C z=false:=by unfold a3C;rw[c9r h8];simp
  rw[<-e]
  exact k H (A0.refl _)
 rw[c9s (show(z.length:Int)<=8 by omega)]
 exists C4 rfl ?_
 have hl:z.cps.toList.length=z.length:=X3
 obtain⟨c0,hc0,hc1⟩:=a1u (xs:=z.cps.toList) (i:=0) (by decide) (by omega)
 have hc2:z.cps[0]? = some c0:=by rw[<-V0];exact hc1
 exists b5Q hz' hc0 ?_
 have en:a3C z=(sgn LET c0&&z.cps.toList.all (sgn SGN)):=by
  unfold a3C
  rw[c9s h1,c9s h8,hc2]
  simp
 refine c3w (S:=LET) ?_
 refine⟨_,rfl,?_⟩
 cases hs:sgn LET c0 with
 | false=>
  refine c5H ?_
  have e:a3C z=false:=by rw[en,hs];rfl
  rw[<-e]
  exact k H (A0.refl _)
 | true=>
  exists b3f ?_
  specialize Z4 (c4b ?_)
  refine⟨z,rfl,fun D hD=>?_⟩
  refine c0E (fun i ys H2=>ys=(z.cps.toList.take i).map (fun c=>V.bl (sgn SGN c))/\H2=upd H D (.lst ys)) ⟨by simp,rfl⟩ ?_ ?_ ?_
  ·rintro i ys _ ⟨_,rfl⟩
   exact f6
  ·rintro i c ys _ hc ⟨rfl,rfl⟩ R R' hR hR'
   have hc':z.cps.toList[i]? = some c:=by rw[V0];exact hc
   ext
   exists b3f ?_
   refine b9r (small (by decide +kernel)) ?_
   have e:(("abcdefghijklmnopqrstuvwxyz" : Str)++("0123456789" : Str))=SGN:=b8L
   rw[e]
   refine c3w (S:=SGN) ?_
   refine hR (.bl (sgn SGN c)) _ f6 (J9 ?_) ⟨?_,?_⟩
   ·rw[c7,J4];omega
   ·rw[P5,hc'];simp
   ·rw[b0G]
  ·rintro ys _ ⟨rfl,rfl⟩
   ext
   have eb:V5 ((z.cps.toList.take z.length).map (fun c=>V.bl (sgn SGN c)))=some ((z.cps.toList.take z.length).map (sgn SGN)):=by
    generalize z.cps.toList.take z.length=l
    induction l with
    | nil=>rfl
    | cons a r ih=>simp[V5,ih]
   have ea:((z.cps.toList.take z.length).map (sgn SGN)).all id=a3C z:=by
    rw[en,hs,b3I,a1e (by omega),List.all_map]
    rfl
   refine(show b1i [.ref D] _ _ from ?_)
   unfold b1i
   simp only[f6]
   refine⟨_,eb,?_⟩
   rw[ea]
   exact k _ (D7 hD)
def NmS(s:Str):Prop:=a3C s=true/\s.length<=8
def OpN(v:V):Prop:=(∃s,v=.str s/\NmS s)\/∃n:Int,v=.int n/\0<=n/\n<1000000000000
abbrev b6i:List Str:=["plus","minus","times","less","same"]
def a7p(H:Hp)(p:Addr):Prop:=∃k v1 v2,H p=some (.tup [.str k,v1,v2])/\OpN v1/\OpN v2/\k∈b6i
theorem a7p.ts(h:a7p H p)(t:L4 H H'):a7p H' p:=by
 obtain⟨k,v1,v2,h,a,b,c⟩:=h
 exact⟨k,v1,v2,t _ _ h,a,b,c⟩
inductive a5o(H:Hp):List V->Prop
 | set (n:Str) (p:Addr):NmS n->a7p H p->a5o H [.str "set",.str n,.ref p]
 | copy (n:Str) (v:V):NmS n->OpN v->a5o H [.str "copy",.str n,v]
 | take (n:Str):NmS n->a5o H [.str "take",.str n]
 | tell (v:V):OpN v->a5o H [.str "tell",v]
 | ask (v:V):OpN v->a5o H [.str "ask",v]
 | skip:a5o H [.str "skip"]
theorem a5o.ts(h:a5o H xs)(t:L4 H H'):a5o H' xs:=by
 cases h with
 | set n p a d=>exact .set n p a (d.ts t)
 | copy n v a o=>exact .copy n v a o
 | take n a=>exact .take n a
 | tell v o=>exact .tell v o
 | ask v o=>exact .ask v o
 | skip=>exact .skip
def a9l(H:Hp)(v:V)(ask:Bool):Prop:=∃p xs,v=.ref p/\H p=some (.tup xs)/\a5o H xs/\(∃k r,xs=.str k::r/\decide ((k:Str) = "ask")=ask)
theorem a9l.ts{a:Bool}(h:a9l H v a)(t:L4 H H'):a9l H' v a:=by
 obtain⟨p,xs,rfl,h,r,q⟩:=h
 exact⟨p,xs,rfl,t _ _ h,r.ts t,q⟩
theorem c5K{n:Int}(k:Q (.bl true) H) :
  F7 (a0h (tCB a1r (b6 (c6 0) (b6 (tC (.ty "int")) d7))) (a9Z (tCB a1r (b6 (c6 0) (b6 (tC (.ty "bool")) d7))))) { nx:=fun _ H'=>Q .non H',rt:=Q } [some (.int n)] H:=by
 ext
 exists a0z (s := "int") rfl (by decide) ?_
 exists J1 (by decide) ?_
 exists a0z (s := "int") rfl (by decide) ?_
 exact k
theorem a5T{K:Fg}{n:Int}{E:XK}(k:Q (.bl true) H):a1j K [.int n] H Q E:=⟨rfl,c5K k⟩
theorem b1G{K:Fg}{n:Int}{E:XK}(h0:0<=n)(h1:n<1000000000000)(k:Q (.bl true) H):a2l K [.int n] H Q E:=by
 refine⟨rfl,?_⟩
 unfold a8i
 ext
 refine a5T ?_
 exists ⟨_,rfl,b3f ?_⟩
 exists J1 (c9s h0) ?_
 show Q (.bl (decide (n<1000000000000))) H
 rw[c9s h1]
 exact k
theorem b1H{K:Fg}{n m:Int}{E:XK}(h0:0<=n)(h1:n<m)(k:Q (.bl true) H):a2m K [.int n,.int m] H Q E:=by
 refine⟨rfl,?_⟩
 unfold a8j
 ext
 refine a5T ?_
 exists ⟨_,rfl,b3f ?_⟩
 exists J1 (c9s h0) ?_
 show Q (.bl (decide (n<m))) H
 rw[c9s h1]
 exact k
theorem a3p{K:Fg}{E:XK}(h:NmS z)(k:∀H',A0 H H'->Q (.bl true) H'):X5 K [.str z] H Q E:=by
 refine b3g (by have:=h.2;omega) fun H' s=>?_
 rw[h.1]
 exact k H' s
theorem b3h{K:Fg}{n:Int}{E:XK}(k:Q (.bl false) H):X5 K [.int n] H Q E:=by
 refine⟨rfl,?_⟩
 unfold a6n
 nofun
 exists a0z (s := "int") rfl (by decide) ?_
 refine J1 (by decide) ?_
 exists J1 rfl ?_
 exact k
theorem a0j{K:Fg}{E:XK}(h:OpN v)(k:∀H',A0 H H'->Q (.bl true) H'):W0 K [v] H Q E:=by
 refine⟨rfl,?_⟩
 unfold a5C
 ext
 rcases h with ⟨s,rfl,hs⟩ | ⟨n,rfl,h0,h1⟩
 ·refine a3p hs fun G s=>?_
  exact⟨_,rfl,b3f (k G s)⟩
 ·refine b3h ?_
  exists ⟨_,rfl,c5H ?_⟩
  exact b1G h0 h1 (k H (A0.refl _))
theorem c0s{k:Str}(h:k∈b6i):inV (.str k) [.str "plus",.str "minus",.str "times",.str "less",.str "same"]=true:=by
 simp only[b6i,p8,E5,or_false]at h
 rcases h with rfl | rfl | rfl | rfl | rfl <;> decide +kernel
theorem b4R{K:Fg}{c:Cn}{E:XK}(ck:a9m K c)(h:a7p H p)(k:∀H',A0 H H'->Q (.bl true) H'):a3c K c [.ref p] H Q E:=by
 obtain⟨kd,v1,v2,hp,o1,o2,hk⟩:=h
 refine⟨rfl,?_⟩
 unfold a9Y
 nofun
 exists a0z (s := "tuple") (by simp only[a0D,hp]) (by decide) ?_
 exists C4 (by decide) ?_
 exists a3k hp ?_
 exists C4 (by simp) ?_
 exists F0 hp (R4 _ _) ?_
 refine⟨_,_,rfl,ck.b2g H,rfl,rfl,?_⟩
 exists ⟨_,rfl,J1 (c0s hk) ?_⟩
 exists F0 hp (a0m _ _ _) ?_
 refine a0j o1 fun G1 s1=>?_
 exists ⟨_,rfl,b3f ?_⟩
 exists F0 (s1 _ _ hp) (a6O _ _ _ _) ?_
 exact a0j o2 fun G2 s2=>k G2 (s1.trans s2)
theorem c7o(a:V)(r:List V):a4m (a::r) (some 1) none=r:=by
 unfold a4m
 have e:HT.sIx (a::r).length 0 (some 1)=1:=by
  have:=HT.a7E (a::r).length 0 1
  rw[show((1:Nat):Int)=1 from rfl]at this
  rw[this,C1]
  omega
 rw[e]
 show List.take ((a::r).length - 1) r=r
 rw[a1e (by simp)]
theorem c0f(a:V)(r:List V):¬(HT.sIx (a::r).length 0 (some 1)=0/\HT.sIx (a::r).length (a::r).length none=(a::r).length):=by
 intro h
 have e:HT.sIx (a::r).length 0 (some 1)=1:=by
  have:=HT.a7E (a::r).length 0 1
  rw[show((1:Nat):Int)=1 from rfl]at this
  rw[this,C1]
  omega
 omega
theorem b7p{K:Fg}{c:Cn}{a:Bool}{E:XK}(ck:a9m K c)(h:a9l H v a)(k:∀H',A0 H H'->Q (.bl true) H'):a4A K c [v] H Q E:=by
 obtain⟨p,xs,rfl,hp,hr,kd,r,rfl,_⟩:=h
 refine⟨rfl,?_⟩
 unfold b2C
 nofun
 exists a0z (s := "tuple") (by simp only[a0D,hp]) (by decide) ?_
 exists C4 (by decide) ?_
 exists a3k hp ?_
 exists C4 (c9r (by intro z;have:=V.int.inj z;rw[C1]at this;omega)) ?_
 nofun
 exists F0 hp (R4 _ _) ?_
 nofun
 refine c6J hp (c0f _ _) fun q G hq e s=>?_
 rw[c7o]at e
 ext
 have hr:=hr.ts (A0.ts s)
 cases hr with
 | set n d hn hd=>
  nofun
  exists J1 (by decide) ?_
  exists a3k e ?_
  exists J1 (by simp) ?_
  exists F0 e (R4 _ _) ?_
  refine a3p hn fun G1 s1=>?_
  exists ⟨_,rfl,b3f ?_⟩
  exists F0 (s1 _ _ e) (a0m _ _ _) ?_
  exact b4R ck (hd.ts (A0.ts s1)) fun G2 s2=>k G2 ((s.trans s1).trans s2)
 | copy n v hn ho=>
  nofun
  exists C4 (by decide) ?_
  nofun
  exists J1 (by decide) ?_
  exists a3k e ?_
  exists J1 (by simp) ?_
  exists F0 e (R4 _ _) ?_
  refine a3p hn fun G1 s1=>?_
  exists ⟨_,rfl,b3f ?_⟩
  exists F0 (s1 _ _ e) (a0m _ _ _) ?_
  exact a0j ho fun G2 s2=>k G2 ((s.trans s1).trans s2)
 | take n hn=>
  nofun
  exists C4 (by decide) ?_
  nofun
  exists C4 (by decide) ?_
  nofun
  exists J1 (by decide) ?_
  exists a3k e ?_
  exists J1 (by simp) ?_
  exists F0 e (R4 _ _) ?_
  exact a3p hn fun G1 s1=>k G1 (s.trans s1)
 | tell v ho=>
  nofun
  exists C4 (by decide) ?_
  nofun
  exists C4 (by decide) ?_
  nofun
  exists C4 (by decide) ?_
  nofun
  refine E6 (by simp) fun q2 G2 hq2 e2 s2=>?_
  exists b2O e2 rfl rfl ?_
  exists J1 (by decide +kernel) ?_
  exists a3k (s2 _ _ e) ?_
  exists J1 (by simp) ?_
  exists F0 (s2 _ _ e) (R4 _ _) ?_
  exact a0j ho fun G1 s1=>k G1 ((s.trans s2).trans s1)
 | ask v ho=>
  nofun
  exists C4 (by decide) ?_
  nofun
  exists C4 (by decide) ?_
  nofun
  exists C4 (by decide) ?_
  nofun
  refine E6 (by simp) fun q2 G2 hq2 e2 s2=>?_
  exists b2O e2 rfl rfl ?_
  exists J1 (by decide +kernel) ?_
  exists a3k (s2 _ _ e) ?_
  exists J1 (by simp) ?_
  exists F0 (s2 _ _ e) (R4 _ _) ?_
  exact a0j ho fun G1 s1=>k G1 ((s.trans s2).trans s1)
 | skip=>
  nofun
  exists C4 (by decide) ?_
  nofun
  exists C4 (by decide) ?_
  nofun
  exists C4 (by decide) ?_
  nofun
  refine E6 (by simp) fun q2 G2 hq2 e2 s2=>?_
  exists b2O e2 rfl rfl ?_
  exists C4 (by decide +kernel) ?_
  exists J1 (by decide) ?_
  exists a3k (s2 _ _ e) ?_
  have e0:decide (V.int ((([]:List V).length:Nat):Int)=V.int 0)=true:=by decide
  rw[e0]
  exact k G2 (s.trans s2)
theorem ix0{α:Type}(a b c d:α):ixN [a,b,c,d].length 0=some 0:=by
 show ixN 4 0=some 0
 decide
theorem ix1{α:Type}(a b c d:α):ixN [a,b,c,d].length 1=some 1:=by
 show ixN 4 1=some 1
 decide
theorem ix2{α:Type}(a b c d:α):ixN [a,b,c,d].length 2=some 2:=by
 show ixN 4 2=some 2
 decide
structure a9n(H:Hp)(b:Addr)(i0 i1 i2:Int)(c:Addr)(ns:List Int):Prop where
 hb:H b=some (.lst [.int i0,.int i1,.int i2,.ref c])
 hc:H c=some (.lst (ns.map V.int))
 p0:0<=i0
 p1:0<=i1
 p1':i1<2147483647
 p2:0<=i2
 pn:∀x∈ns,0<=x
theorem a9n.bag{i0 i1 i2:Int}(h:a9n H b i0 i1 i2 c ns):Bag H b c:=⟨i0,i1,i2,ns,h.hb,h.hc,h.p0,h.p1,h.p1',h.p2,h.pn⟩
theorem Bag.parts(h:Bag H b c):∃i0 i1 i2 ns,a9n H b i0 i1 i2 c ns:=by
 obtain⟨i0,i1,i2,ns,h1,h2,h3,h4,h5,h6,h7⟩:=h.ex
 exact⟨i0,i1,i2,ns,h1,h2,h3,h4,h5,h6,h7⟩
theorem a9n.ne{i0 i1 i2:Int}(h:a9n H b i0 i1 i2 c ns):c≠b:=F6 h.hc h.hb (by
  intro z
  have z:=HO.lst.inj z
  cases ns with
  | nil=>cases z
  | cons a r=>cases r with
   | nil=>cases z
   | cons a2 r=>cases r with
    | nil=>cases z
    | cons a3 r=>cases r with
     | nil=>cases z
     | cons a4 r=>simp at z)
theorem a9n.put{i0 i1 i2 j0 j1 j2:Int}(h:a9n H b i0 i1 i2 c ns)(q0:0<=j0)(q1:0<=j1)(q1':j1<2147483647)(q2:0<=j2) :
  a9n (upd H b (.lst [.int j0,.int j1,.int j2,.ref c])) b j0 j1 j2 c ns:=⟨f6,by rw[d6 h.ne];exact h.hc,q0,q1,q1',q2,h.pn⟩
theorem G0{K:Fg}{many:Int}{E:XK}(hB:Bag H b c)(h0:0<many)(h1:many<2 ^ 64)
  (k:∀n H',0<=n->n<many->Bag H' b c->C8 b H H'->Q (.int n) H'):E7 K [.ref b,.int many] H Q E:=by
 obtain⟨i0,i1,i2,ns,B⟩:=hB.parts
 refine⟨rfl,?_⟩
 unfold b8A
 refine a0x (P:=fun σ H1=>∃x2 x3 j0 j1 j2,σ=[some (.ref b),some (.int many),x2,x3,none,none,none]/\a9n H1 b j0 j1 j2 c ns/\C8 b H H1) ?_ ?_
 ·-- the second part
  rintro _ H1 ⟨x2,x3,j0,j1,j2,rfl,B1,k1⟩
  refine a0x (P:=fun σ H2=>H2=H1/\σ=[some (.ref b),some (.int many),x2,x3,none,none,none]) ?_ ?_
  ·rintro _ _ ⟨rfl,rfl⟩
   walk_at "go"
   refine J0 B1.hb (a0m _ _ _) ?_
   walk_at "go"
   refine W3 (.inr (by omega)) ?_
   walk_at "go"
   refine W3 (by omega) ?_
   walk_at "go"
   have g1:=T6 (j1 * 39373) (show(1000000007:Int)≠0 by decide)
   have g2:=Q7 (j1 * 39373) (show(0:Int)<1000000007 by decide)
   refine W3 (.inr (by omega)) ?_
   walk_at "go"
   refine W3 (by omega) ?_
   walk_at "go"
   have g3:=T6 (j1 * 39373 % 1000000007 * 30011) (show(998244353:Int)≠0 by decide)
   have g4:=Q7 (j1 * 39373 % 1000000007 * 30011) (show(0:Int)<998244353 by decide)
   refine Y2 (fun _=>?_) (fun _=>?_)
   ·walk_at "go"
    refine W3 (.inr (by omega)) ?_
    walk_at "go"
    refine W3 h0 ?_
    exact k _ _ (T6 _ (by omega)) (Q7 _ h0) B1.bag k1
   ·walk_at "go"
    refine W3 (by omega) ?_
    walk_at "go"
    refine W3 h0 ?_
    exact k _ _ (T6 _ (by omega)) (Q7 _ h0) B1.bag k1
  ·intro nx hnx
   walk_at "go"
   refine J0 B1.hb (R4 _ _) ?_
   walk_at "go"
   refine Y2 (fun _=>?_) (fun _=>?_)
   ·walk_at "go"
    refine J0 B1.hb (R4 _ _) ?_
    walk_at "go"
    refine W3 h0 ?_
    walk_at "go"
    refine J0 B1.hb (R4 _ _) ?_
    walk_at "go"
    refine W3 ⟨h0,h1⟩ ?_
    walk_at "go"
    refine b0e B1.hb (ix0 _ _ _ _) ?_
    walk_at "go"
    refine k _ _ (T6 _ (by omega)) (Q7 _ h0) (B1.put (Int.ediv_nonneg B1.p0 (by omega)) B1.p1 B1.p1' B1.p2).bag (k1.trans (C8.upd _ _ _))
   ·walk_at "go"
    exact hnx _ _ ⟨rfl,rfl⟩
 ·intro nx hnx
  walk_at "go"
  refine J0 B.hb (R4 _ _) ?_
  walk_at "go"
  refine Y2 (fun e=>?_) (fun _=>?_)
  ·have e:i0=0:=by simpa using e
   subst e
   nofun
   exact_mod_cast a0x (P:=fun σ H1=>∃m x3 j0 j2,σ=[some (.ref b),some (.int many),some (.int m),x3,none,none,none]/\a9n H1 b j0 i1 j2 c ns/\C8 b H H1/\0<=m) ?_ ?_
   ·rintro _ H1 ⟨m,x3,j0,j2,rfl,B1,k1,hm⟩
    walk_at "go"
    refine J0 B1.hb (a0m _ _ _) ?_
    walk_at "go"
    refine W3 (.inr (by omega)) ?_
    walk_at "go"
    refine W3 (by omega) ?_
    walk_at "go"
    refine b0e B1.hb (ix1 _ _ _ _) ?_
    have g1:=T6 (i1 * 48271+m) (show(2147483647:Int)≠0 by decide)
    have g2:=Q7 (i1 * 48271+m) (show(0:Int)<2147483647 by decide)
    exact hnx _ _ ⟨_,x3,j0,_,j2,rfl,B1.put B1.p0 g1 g2 B1.p2,k1.trans (C8.upd _ _ _)⟩
   ·intro nx2 hnx2
    walk_at "go"
    refine J0 B.hb (a6O _ _ _ _) ?_
    walk_at "go"
    refine J0 B.hb (c5R _ _ _ _ _) ?_
    walk_at "go"
    refine O8 B.hc ?_
    walk_at "go"
    refine Y2 (fun e=>?_) (fun _=>?_)
    ·have e:i2<(ns.length:Int):=by simpa using e
     obtain⟨v,ev,ev2⟩:=a1u (xs:=ns.map V.int) B.p2 (by simpa using e)
     obtain⟨z,ez,rfl⟩:∃z,ns[i2.toNat]? = some z/\v=V.int z:=by
      rw[d4]at ev2
      cases q:ns[i2.toNat]? with
      | none=>rw[q]at ev2;cases ev2
      | some z=>rw[q]at ev2;exact⟨z,rfl,(Option.some.inj ev2).symm⟩
     have hz:0<=z:=B.pn z (mI ez)
     walk_at "go"
     refine J0 B.hb (c5R _ _ _ _ _) ?_
     walk_at "go"
     refine J0 B.hb (a6O _ _ _ _) ?_
     walk_at "go"
     refine J0 B.hc ev ?_
     walk_at "go"
     exists c6L B.hb (by decide) rfl ?_
     refine b0e B.hb (ix2 _ _ _ _) ?_
     have B2:=B.put (j0:=0) (j1:=i1) (j2:=i2+1) (Int.le_refl _) B.p1 B.p1' (by have:=B.p2;omega)
     exact_mod_cast a0x (P:=fun σ H1=>∃j0,σ=[some (.ref b),some (.int many),some (.int 12345),some (.int z),none,none,none]/\a9n H1 b j0 i1 (i2+1) c ns/\C8 b H H1) ?_ ?_
     ·rintro _ H1 ⟨j0,rfl,B1,k1⟩
      walk_at "go"
      refine W3 (by omega) ?_
      walk_at "go"
      have g1:=T6 z (show(2147483647:Int)≠0 by decide)
      exact hnx2 _ _ ⟨_,_,j0,_,rfl,B1,k1,by omega⟩
     ·intro nx3 hnx3
      walk_at "go"
      refine Y2 (fun _=>?_) (fun _=>?_)
      ·walk_at "go"
       refine b0e B2.hb (ix0 _ _ _ _) ?_
       refine hnx3 _ _ ⟨z,rfl,?_,(C8.upd _ _ _).trans (C8.upd _ _ _)⟩
       exact B2.put hz B.p1 B.p1' (by have:=B.p2;omega)
      ·walk_at "go"
       exact hnx3 _ _ ⟨0,rfl,B2,C8.upd _ _ _⟩
    ·walk_at "go"
     exact hnx2 _ _ ⟨_,_,0,i2,rfl,B,C8.refl _ _,by decide⟩
  ·walk_at "go"
   exact hnx _ _ ⟨_,_,i0,i1,i2,rfl,B,C8.refl _ _⟩
theorem c5Q{K:Fg}{E:XK}(hS:SqL K H a (ns.map V.int))(hl:ns.length<=63)
  (k:∀b c H',Bag H' b c->A0 H H'->H b=none->Q (.ref b) H'):b0N K [.ref a] H Q E:=by
 refine⟨rfl,?_⟩
 unfold c3n
 walk_at "go"
 exact_mod_cast Z4 (X6 ?_)
 walk_at "go"
 refine⟨a,_,rfl,hS,fun p hp=>⟨p,rfl,⟨_,SqL.of f6⟩,fun D hD=>?_⟩⟩
 have hcut:a4m (ns.map V.int) none (some 63)=ns.map V.int:=by
  unfold a4m
  have e:HT.sIx (ns.map V.int).length 0 none=0:=rfl
  have e2:HT.sIx (ns.map V.int).length (ns.map V.int).length (some 63)=ns.length:=by
   have:=HT.a7E (ns.map V.int).length (ns.map V.int).length 63
   rw[c7]at this ⊢
   rw[show((63:Nat):Int)=63 from rfl]at this
   rw[this];omega
  rw[e,e2,c6i,Nat.sub_zero,a1e (by simp)]
 rw[hcut]at hD ⊢
 have s1:A0 H (upd H p (.lst (ns.map V.int))):=D7 hp
 refine a0l (xs:=ns.map V.int) (fun i ys H2=>ys=(ns.take i).map (fun x=>V.int (if x<0 then -x else x))/\H2=upd (upd H p (.lst (ns.map V.int))) D (.lst ys)) ⟨by simp,rfl⟩ ?_ ?_ ?_ ?_
 ·rintro i ys _ ⟨_,rfl⟩
  exact f6
 ·rintro i ys _ _ ⟨_,rfl⟩
  refine SqL.of ?_
  rw[d6 (d3 f6 hD),f6]
 ·rintro i x ys _ hx ⟨rfl,rfl⟩ R hR
  rw[d4]at hx
  cases e:ns[i]? with
  | none=>rw[e]at hx;cases hx
  | some z=>
   rw[e]at hx
   cases hx
   ext
   refine hR _ _ f6 (J9 ?_) ⟨?_,?_⟩
   ·rw[c7,J4];omega
   ·rw[P5,e];simp
   ·rw[b0G]
 ·rintro ys _ ⟨rfl,rfl⟩
  ext
  refine E6 (by simp) fun b H4 hb hb4 s4=>?_
  rw[c7,a1e (i9 _)]at hb s4
  refine k b D _ ⟨0,1234567891,0,ns.map (fun x=>if x<0 then -x else x),hb4,?_,by decide,by decide,by decide,by decide,?_⟩ ?_ ?_
  ·rw[s4 D _ f6,W7];rfl
  ·intro x hx
   obtain⟨y,_,rfl⟩:=E3.mp hx
   split <;> omega
  ·exact(s1.trans (D7 hD)).trans s4
  ·exact(s1.trans (D7 hD)).free hb
structure a1v(H:Hp)(a:Addr):Prop where
 ex:∃ss:List Str,H a=some (.lst (ss.map V.str))/\ss≠[]/\ss.length<=8/\∀s∈ss,NmS s
theorem a1v.kept(h:a1v H a)(hB:Bag H b c)(k:C8 b H H'):a1v H' a/\a≠b:=by
 obtain⟨ss,h1,h2,h3,h4⟩:=h.ex
 obtain⟨i0,i1,i2,ns,hb,_⟩:=hB.ex
 have ne:a≠b:=F6 h1 hb (by
  intro z
  have z:=HO.lst.inj z
  cases ss with
  | nil=>exact h2 rfl
  | cons s r=>cases z)
 exact⟨⟨ss,k.1 a _ h1 ne,h2,h3,h4⟩,ne⟩
theorem a1v.same(h:a1v H a)(s:A0 H H'):a1v H' a:=by
 obtain⟨ss,h1,h2,h3⟩:=h.ex
 exact⟨ss,s _ _ h1,h2,h3⟩
theorem c1m:∀c∈LET.cps.toList,sgn LET c=true:=by decide +kernel
theorem c1l:∀c∈SGN.cps.toList,sgn SGN c=true:=by decide +kernel
theorem c2v:∀c∈LET.cps.toList,sgn SGN c=true:=by decide +kernel
theorem b4P(cs:List Nat):Txt.join (Str.ofString "") (cs.map fun k=>(⟨#[k]⟩:Str))=⟨cs.toArray⟩:=by
 show Builtin.Str.glued ("") _=_
 rw[StrLaws.glued_eq_join]
 exact PyProof.Rows.join_ones cs
theorem c7i{ch:Nat}(h1:ch∈LET.cps.toList)(h2:∀c∈cs,c∈SGN.cps.toList)(hl:cs.length<=7):NmS ((⟨#[ch]⟩:Str)++⟨cs.toArray⟩):=by
 have hlen:((⟨#[ch]⟩:Str)++⟨cs.toArray⟩).length=cs.length+1:=by
  rw[Str.length_append]
  show 1+cs.toArray.size=_
  rw[o9];omega
 have hc:((⟨#[ch]⟩:Str)++⟨cs.toArray⟩).cps=(ch::cs).toArray:=by
  rw[Str.cps_append]
  show #[ch]++cs.toArray=_
  simp
 refine⟨?_,by omega⟩
 unfold a3C
 rw[hlen,hc]
 have e0:(ch::cs).toArray[0]? = some ch:=by simp
 rw[e0]
 simp only[a1x,decide_eq_true_eq,O1]
 refine⟨⟨⟨by omega,by omega⟩,c1m ch h1⟩,?_⟩
 intro c hcc
 have hcc:c∈ch::cs:=by simpa using hcc
 rcases p8.mp hcc with q | q
 ·subst q;exact c2v _ h1
 ·exact c1l c (h2 c q)
theorem c1k{s:Str}(h:∀s∈ss,NmS s)(hs:NmS s):∀t∈ss++[s],NmS t:=by
 intro t ht
 rcases C6.mp ht with q | q
 ·exact h t q
 ·rw[v9.mp q];exact hs
structure a6e(H:Hp)(a:Addr):Prop where
 ex:∃ps:List Addr,H a=some (.lst (ps.map V.ref))/\ps≠[]/\ps.length<=8/\∀p∈ps,a7p H p
theorem a1b(hB:Bag H b c)(h:H a=some (.lst (as.map V.ref))):a≠b:=by
 obtain⟨i0,i1,i2,ns,hb,_⟩:=hB.ex
 refine F6 h hb ?_
 intro z
 have z:=HO.lst.inj z
 cases as with
 | nil=>cases z
 | cons s r=>cases z
theorem a8v(hB:Bag H b c)(h:H a=some (.lst xs))(hl:xs.length<=3):a≠b:=by
 obtain⟨i0,i1,i2,ns,hb,_⟩:=hB.ex
 refine F6 h hb ?_
 intro z
 have z:=HO.lst.inj z
 rw[z]at hl
 simp at hl
theorem a6e.kept(h:a6e H a)(hB:Bag H b c)(k:C8 b H H'):a6e H' a:=by
 obtain⟨ps,h1,h2,h3,h4⟩:=h.ex
 exact⟨ps,k.1 a _ h1 (a1b hB h1),h2,h3,fun p hp=>(h4 p hp).ts (C8.ts k hB)⟩
theorem a6e.same(h:a6e H a)(k:A0 H H'):a6e H' a:=by
 obtain⟨ps,h1,h2,h3,h4⟩:=h.ex
 exact⟨ps,k a _ h1,h2,h3,fun p hp=>(h4 p hp).ts (A0.ts k)⟩
structure G7(H:Hp)(a:Addr)(N:Nt):Prop where
 ex:∃as:List Addr,H a=some (.lst (as.map V.ref))/\as.length=N.length/\∀(i:Nat) x l,as[i]? = some x->N[i]? = some l->H x=some (.lst (IL l))
theorem G7.same(h:G7 H a N)(k:A0 H H'):G7 H' a N:=by
 obtain⟨as,h1,h2,h3⟩:=h.ex
 exact⟨as,k a _ h1,h2,fun i x l e1 e2=>k _ _ (h3 i x l e1 e2)⟩
theorem G7.kept(h:G7 H a N)(hB:Bag H b c)(hN:∀l∈N,l.length<=2)(k:C8 b H H'):G7 H' a N:=by
 obtain⟨as,h1,h2,h3⟩:=h.ex
 refine⟨as,k.1 a _ h1 (a1b hB h1),h2,fun i x l e1 e2=>?_⟩
 have q:=h3 i x l e1 e2
 refine k.1 _ _ q (a8v hB q ?_)
 rw[P8]
 have:=hN l (mI e2)
 omega
theorem G7.at(h:G7 H a N){k:Nat}{l:List Nat}(e:N[k]? = some l):∃(xs:List V) (x:Addr),H a=some (.lst xs)/\atI xs (k:Int)=some (.ref x)/\H x=some (.lst (IL l))/\xs.length=N.length:=by
 obtain⟨as,h1,h2,h3⟩:=h.ex
 have hk:k<as.length:=by rw[h2];exact(gI e)
 have e1:as[k]? = some as[k]:=by simp
 refine⟨_,as[k],h1,?_,h3 k _ l e1 e,by rw[c7,h2]⟩
 exact a0q (by rw[d4,e1];rfl)
theorem G7.len(h:G7 H a N):∃xs,H a=some (.lst xs)/\xs.length=N.length:=by
 obtain⟨as,h1,h2,h3⟩:=h.ex
 exact⟨_,h1,by rw[c7,h2]⟩
theorem c3C{l:List Nat}{j t:Nat}(e:l[j]? = some t):atI (IL l) (j:Int)=some (.int (t:Int)):=a0q (by unfold IL;rw[d4,e];rfl)
theorem b1l{K:Fg}{E:XK}(hB:Bag H b c)(ha:H a=some (.lst xs))(na:a≠b)(h0:xs≠[])(hl:xs.length<=100)
  (k:∀(n:Int) v H',atI xs n=some v->v∈xs->H' a=some (.lst xs)->Bag H' b c->C8 b H H'->Q (.int n) H'):E7 K [.ref b,.int xs.length] H Q E:=by
 have hp:0<xs.length:=List.length_pos_iff.mpr h0
 refine G0 hB (by omega) (by omega) fun n H1 n0 n1 B1 k1=>?_
 obtain⟨v,hv,hv2⟩:=a1u (xs:=xs) n0 n1
 exact k n v H1 hv (mI hv2) (k1.1 _ _ ha na) B1 k1
theorem a8s{α:Type}(l:List α):l=[]\/∃r a,l=r++[a]:=by
 cases h:l.reverse with
 | nil=>left;simpa using h
 | cons a r=>
  right
  refine⟨r.reverse,a,?_⟩
  have:=congrArg List.reverse h
  simpa using this
theorem a9j{α:Type}{xs:List α}{a:α}:atI (xs++[a]) (-1)=some a:=by
 unfold atI ixN
 rw[if_neg (by decide),if_pos (by rw[t5,C9];omega)]
 have:(-1+((xs++[a]).length:Int)).toNat=xs.length:=by rw[t5,C9];omega
 rw[this]
 simp
structure a9L(H0 H:Hp)(b c D:Addr)(m:Nat)(as:List Addr)(N:Nt):Prop where
 bag:Bag H b c
 kept:C8 b H0 H
 hD:H D=some (.lst (as.map V.ref))
 nb:D≠b
 nc:D≠c
 len:as.length=N.length
 at_:∀(i:Nat) x l,as[i]? = some x->N[i]? = some l->H x=some (.lst (IL l))/\x≠D/\x≠b
 small:∀l∈N,l.length<=2/\∀t∈l,t<m
theorem a9L.next{D:Addr}(h:a9L H0 H b c D m as N)(B:Bag H' b c)(k:C8 b H H'):a9L H0 H' b c D m as N:=
 ⟨B,h.kept.trans k,k.1 _ _ h.hD h.nb,h.nb,h.nc,h.len,fun i x l e1 e2=>let⟨q1,q2,q3⟩:=h.at_ i x l e1 e2; ⟨k.1 _ _ q1 q3,q2,q3⟩,h.small⟩
structure a6d(H:Hp)(b D q:Addr)(m:Nat)(l:List Nat):Prop where
 h:H q=some (.lst (IL l))
 nD:q≠D
 nb:q≠b
 len:l.length<=2
 lt:∀t∈l,t<m
theorem a6d.next{D q:Addr}{l:List Nat}(h:a6d H b D q m l)(k:C8 b H H'):a6d H' b D q m l:=⟨k.1 _ _ h.h h.nb,h.nD,h.nb,h.len,h.lt⟩
theorem U5{α:Type}{xs:List α}{x y:α}{i:Nat}(h:(xs++[x])[i]? = some y):(i<xs.length/\xs[i]? = some y)\/(i=xs.length/\y=x):=by
 by_cases hi:i<xs.length
 ·left
  rw[W5 hi]at h
  exact⟨hi,h⟩
 ·right
  rw[U9 (by omega)]at h
  have:i - xs.length=0:=by
   have:=(gI h)
   simp at this
   omega
  rw[this]at h
  simp at h
  exact⟨by omega,h.symm⟩
theorem c3A{a b:Int}:decide (V.int a=V.int b)=decide (a=b):=by
 by_cases h:a=b
 ·subst h;simp
 ·rw[c9r h,c9r (fun z=>h (V.int.inj z))]
theorem c2C{l:List Nat}(h:l≠[]):∃z:Nat,atI (IL l) (-1)=some (.int (z:Int))/\z∈l:=by
 rcases a8s l with rfl | ⟨r,z,rfl⟩
 ·exact(h rfl).elim
 ·refine⟨z,?_,by simp⟩
  rw[show IL (r++[z])=IL r++[V.int (z:Int)] by simp[IL]]
  exact a9j
theorem c5r{K:Fg}{E:XK}(hB:Bag H b c)(m0:0<m)(m1:m<=24)
  (k:∀a N H',G7 H' a N->N.length=m->(∀l∈N,l.length<=2/\∀t∈l,t<m)->N[m - 1]? = some []->Bag H' b c->C8 b H H'->Q (.ref a) H'):b0M K [.ref b,.int (m:Int)] H Q E:=by
 refine⟨rfl,?_⟩
 unfold c3m
 nofun
 exists E6 (by simp) fun D H1 hD e1 s1=>?_
 obtain⟨nb,nc⟩:=hB.nb hD
 have B1:=hB.same s1
 exact_mod_cast W2 ?_
 specialize a0b (a0G ?_)
 refine⟨m,rfl,by omega,by omega,?_⟩
 rw[A7]
 refine Z8 (fun i σ H2=>∃x3 x4 x5 x6 as N,σ=[some (.ref b),some (.int (m:Int)),some (.ref D),x3,x4,x5,x6]/\a9L H H2 b c D m as N/\N.length=i/\(i=m->N[m - 1]? = some [])) ?_ ?_ ?_
 ·exact⟨_,_,_,_,[],[],rfl,⟨B1,C8.of_same s1,e1,nb,nc,rfl,fun i x l e=>by simp at e,fun l h=>by simp at h⟩,rfl,fun z=>by omega⟩
 ·rintro i _ H2 hi ⟨x3,x4,x5,x6,as,N,rfl,I2,hlen,_⟩
  ext
  rw[a0u]
  nofun
  exists c6K ?_
  obtain⟨r,hr,hrm⟩:∃r:Nat,(if(m:Int) - 1<(i:Int)+1 then (m:Int) - 1 else (i:Int)+1)=(r:Int)/\r<m:=by
   by_cases h:(m:Int) - 1<(i:Int)+1
   ·exact⟨m - 1,by rw[if_pos h];omega,by omega⟩
   ·exact⟨i+1,by rw[if_neg h];omega,by omega⟩
  rw[hr]
  nofun
  refine G0 I2.bag (by omega) (by omega) fun j H3 j0 j1 B3 k3=>?_
  obtain⟨j,rfl⟩:=C7 j0
  ext
  exists E6 (by simp) fun q H4 hq e4 s4=>?_
  have I3:=I2.next B3 k3
  have I4:=I3.next (B3.same s4) (C8.of_same s4)
  have S4:a6d H4 b D q m [r,j]:=⟨e4,(d3 I3.hD hq).symm,(B3.nb hq).1,by simp,fun t ht=>by
   simp only[p8,E5,or_false]at ht
   rcases ht with rfl | rfl
   ·exact hrm
   ·omega⟩
  nofun
  exists G0 I4.bag (by decide) (by decide) fun w H5 w0 w1 B5 k5=>?_
  have I5:=I4.next B5 k5
  have S5:=S4.next k5
  exact_mod_cast a0x (P:=fun σ H6=>∃q l,σ=[some (.ref b),some (.int (m:Int)),some (.ref D),some (.int (i:Int)),some (.int (r:Int)),some (.ref q),some (.int w)]/\a9L H H6 b c D m as N/\a6d H6 b D q m l/\l.length=2) ?_ ?_
  rotate_left
  ·intro nx hnx
   ext
   refine Y2 (fun _=>?_) (fun _=>?_)
   ·ext
    exists J0 S5.h (a0m _ _ _) ?_
    refine E6 (by simp) fun q6 H6 hq6 e6 s6=>?_
    exact hnx _ _ ⟨q6,[j,r],rfl,I5.next (B5.same s6) (C8.of_same s6),⟨e6,(d3 I5.hD hq6).symm,(B5.nb hq6).1,by simp,fun t ht=>by
     simp only[p8,E5,or_false]at ht
     rcases ht with rfl | rfl
     ·exact S5.lt _ (by simp)
     ·exact S5.lt _ (by simp)⟩,rfl⟩
   ·ext
    exact hnx _ _ ⟨q,[r,j],rfl,I5,S5,rfl⟩
  rintro _ H6 ⟨q,l,rfl,I6,S6,hl6⟩
  obtain⟨l0,l1,rfl⟩:∃l0 l1,l=[l0,l1]:=by
   match l,hl6 with
   | [a,b],_=>exact⟨a,b,rfl⟩
  exact_mod_cast a0x (P:=fun σ H6=>∃q l,σ=[some (.ref b),some (.int (m:Int)),some (.ref D),some (.int (i:Int)),some (.int (r:Int)),some (.ref q),some (.int w)]/\a9L H H6 b c D m as N/\a6d H6 b D q m l/\l.length=2) ?_ ?_
  rotate_left
  ·intro nx hnx
   ext
   refine Y2 (fun _=>?_) (fun _=>?_)
   ·ext
    exists J0 S6.h (a0m _ _ _) ?_
    refine G0 I6.bag (by omega) (by omega) fun j2 H7 z0 z1 B7 k7=>?_
    obtain⟨j2,rfl⟩:=C7 z0
    ext
    have I7:=I6.next B7 k7
    refine E6 (by simp) fun q8 H8 hq8 e8 s8=>?_
    exact hnx _ _ ⟨q8,[l1,j2],rfl,I7.next (B7.same s8) (C8.of_same s8),⟨e8,(d3 I7.hD hq8).symm,(B7.nb hq8).1,by simp,fun t ht=>by
     simp only[p8,E5,or_false]at ht
     rcases ht with rfl | rfl
     ·exact S6.lt _ (by simp)
     ·omega⟩,rfl⟩
   ·ext
    exact hnx _ _ ⟨q,_,rfl,I6,S6,rfl⟩
  clear S6 I6 l0 l1 hl6 S5 I5 S4 I4 I3 B3 k3 B5 k5 s4 e4 hq
  rintro _ H6 ⟨q,l,rfl,I6,S6,hl6⟩
  obtain⟨l0,l1,rfl⟩:∃l0 l1,l=[l0,l1]:=by
   match l,hl6 with
   | [a,b],_=>exact⟨a,b,rfl⟩
  exact_mod_cast a0x (P:=fun σ H6=>∃q l,σ=[some (.ref b),some (.int (m:Int)),some (.ref D),some (.int (i:Int)),some (.int (r:Int)),some (.ref q),some (.int w)]/\a9L H H6 b c D m as N/\a6d H6 b D q m l/\l≠[]) ?_ ?_
  rotate_left
  ·intro nx hnx
   have one:∀H7,H7=H6->New (.lst [V.int (r:Int)]) 1 H7 fun v H1=>nx [some (.ref b),some (.int (m:Int)),some (.ref D),some (.int (i:Int)),some (.int (r:Int)),some v,some (.int w)] H1:=by
    rintro _ rfl
    refine E6 (by simp) fun q8 H8 hq8 e8 s8=>?_
    exact hnx _ _ ⟨q8,[r],rfl,I6.next (I6.bag.same s8) (C8.of_same s8),⟨e8,(d3 I6.hD hq8).symm,(I6.bag.nb hq8).1,by simp,fun t ht=>by rw[v9.mp ht];exact hrm⟩,by simp⟩
   ext
   refine Y2 (fun a3=>?_) (fun a3=>?_)
   ·ext
    refine Y2 (fun a7=>?_) (fun a7=>?_)
    ·exists J1 rfl ?_
     exact one _ rfl
    ·ext
     refine Y2 (fun a1=>?_) (fun a1=>?_)
     ·ext
      exact one _ rfl
     ·ext
      exact hnx _ _ ⟨q,_,rfl,I6,S6,by simp⟩
   ·ext
    exists C4 rfl ?_
    refine Y2 (fun a1=>?_) (fun a1=>?_)
    ·ext
     exact one _ rfl
    ·ext
     exact hnx _ _ ⟨q,_,rfl,I6,S6,by simp⟩
  clear S6 I6 l0 l1 hl6
  rintro _ H6 ⟨q,l,rfl,I6,S6,hl6⟩
  exact_mod_cast a0x (P:=fun σ H6=>∃q l,σ=[some (.ref b),some (.int (m:Int)),some (.ref D),some (.int (i:Int)),some (.int (r:Int)),some (.ref q),some (.int w)]/\a9L H H6 b c D m as N/\a6d H6 b D q m l) ?_ ?_
  rotate_left
  ·intro nx hnx
   ext
   refine Y2 (fun a7=>?_) (fun a7=>?_)
   ·ext
    obtain⟨z,hz,hzl⟩:=c2C hl6
    exists J0 S6.h hz ?_
    refine E6 (by simp) fun q8 H8 hq8 e8 s8=>?_
    exact hnx _ _ ⟨q8,[z],rfl,I6.next (I6.bag.same s8) (C8.of_same s8),⟨e8,(d3 I6.hD hq8).symm,(I6.bag.nb hq8).1,by simp,fun t ht=>by rw[v9.mp ht];exact S6.lt _ hzl⟩⟩
   ·ext
    exact hnx _ _ ⟨q,_,rfl,I6,S6⟩
  clear S6 I6 hl6 l
  rintro _ H6 ⟨q,l,rfl,I6,S6⟩
  exact_mod_cast a0x (P:=fun σ H6=>∃q l,σ=[some (.ref b),some (.int (m:Int)),some (.ref D),some (.int (i:Int)),some (.int (r:Int)),some (.ref q),some (.int w)]/\a9L H H6 b c D m as N/\a6d H6 b D q m l/\(i+1=m->l=[])) ?_ ?_
  rotate_left
  ·intro nx hnx
   have none:∀H7,a9L H H7 b c D m as N->New (.lst []) 0 H7 fun v H1=>nx [some (.ref b),some (.int (m:Int)),some (.ref D),some (.int (i:Int)),some (.int (r:Int)),some v,some (.int w)] H1:=by
    intro H7 I7
    refine E6 (by simp) fun q8 H8 hq8 e8 s8=>?_
    exact hnx _ _ ⟨q8,[],rfl,I7.next (I7.bag.same s8) (C8.of_same s8),⟨e8,(d3 I7.hD hq8).symm,(I7.bag.nb hq8).1,by simp,fun t ht=>by simp at ht⟩,fun _=>rfl⟩
   ext
   refine Y2 (fun a1=>?_) (fun a1=>?_)
   ·exists J1 rfl ?_
    exact none _ I6
   ·rw[c3A]at a1
    have a1:¬((i:Int)=(m:Int) - 1):=fun z=>a1 (c9s z)
    ext
    refine Y2 (fun a6=>?_) (fun a6=>?_)
    ·ext
     exists G0 I6.bag (by decide) (by decide) fun z H7 z0 z1 B7 k7=>?_
     refine Y2 (fun a0=>?_) (fun a0=>?_)
     ·ext
      exact none _ (I6.next B7 k7)
     ·ext
      exact hnx _ _ ⟨q,l,rfl,I6.next B7 k7,S6.next k7,fun z=>by omega⟩
    ·exists C4 rfl ?_
     exact hnx _ _ ⟨q,l,rfl,I6,S6,fun z=>by omega⟩
  clear S6 I6 l
  rintro _ H6 ⟨q,l,rfl,I6,S6,hlast⟩
  ext
  specialize a3j ?_
  exists ⟨O3 I6.hD,?_⟩
  refine R6 I6.hD (J9 (by rw[c7,I6.len];omega)) ?_
  have nqc:D≠c:=I6.nc
  refine⟨_,_,_,_,as++[q],N++[l],rfl,⟨I6.bag.put I6.nb nqc,I6.kept.put hD,by rw[f6];simp,I6.nb,I6.nc,by simp[I6.len],?_,?_⟩,by simp[hlen],?_⟩
  ·intro i' x' l' e1' e2'
   rcases U5 e1' with ⟨hi1,f1⟩ | ⟨hi1,f1⟩
   ·rcases U5 e2' with ⟨hi2,f2⟩ | ⟨hi2,f2⟩
    ·obtain⟨g1,g2,g3⟩:=I6.at_ i' x' l' f1 f2
     exact⟨by rw[d6 g2];exact g1,g2,g3⟩
    ·have:=I6.len;omega
   ·rcases U5 e2' with ⟨hi2,f2⟩ | ⟨hi2,f2⟩
    ·have:=I6.len;omega
    ·subst f1 f2
     exact⟨by rw[d6 S6.nD];exact S6.h,S6.nD,S6.nb⟩
  ·intro l' hl'
   rcases C6.mp hl' with z | z
   ·exact I6.small l' z
   ·rw[v9.mp z];exact⟨S6.len,S6.lt⟩
  ·intro z
   rw[hlast z]
   have:m - 1=N.length:=by omega
   rw[this];simp
 ·rintro _ H2 ⟨x3,x4,x5,x6,as,N,rfl,I2,hlen,hlast⟩
  ext
  exact k D N H2 ⟨as,I2.hD,I2.len,fun i x l e1 e2=>(I2.at_ i x l e1 e2).1⟩ hlen I2.small (hlast rfl) I2.bag I2.kept
theorem c5u:∀c∈LET.cps.toList,c∈SGN.cps.toList:=by decide +kernel
def NmL(cs:List Nat):Prop:=∃ch r,cs=ch::r/\ch∈LET.cps.toList/\(∀c∈r,c∈SGN.cps.toList)/\r.length<=7
def SL(cs:List Nat):List V:=cs.map fun k=>V.str (⟨#[k]⟩:Str)
theorem c0K(cs:List Nat):(SL cs).length=cs.length:=by simp[SL]
theorem c0D(ch:Nat)(r:List Nat):(⟨(ch::r).toArray⟩:Str)=(⟨#[ch]⟩:Str)++⟨r.toArray⟩:=by
 apply congrArg Str.mk
 show _ = #[ch]++r.toArray
 simp
theorem NmL.nm(h:NmL cs):NmS ⟨cs.toArray⟩:=by
 obtain⟨ch,r,rfl,h1,h2,h3⟩:=h
 rw[c0D]
 exact c7i h1 h2 h3
theorem NmL.set(h:NmL cs){i ch:Nat}(hc:ch∈LET.cps.toList):NmL (cs.set i ch):=by
 obtain⟨c0,r,rfl,h1,h2,h3⟩:=h
 cases i with
 | zero=>exact⟨ch,r,rfl,hc,h2,h3⟩
 | succ i=>
  refine⟨c0,r.set i ch,rfl,h1,fun c hcc=>?_,by rw[T3];exact h3⟩
  rcases b3B hcc with q | q
  ·exact h2 c q
  ·rw[q];exact c5u ch hc
theorem c2G(h:H l=some (.lst (SL cs)))(hl:cs.length<=100)(k:Q (.str ⟨cs.toArray⟩) H):a8F (.str "") [.ref l] H Q:=by
 have he:SL cs=(cs.map fun k=>(⟨#[k]⟩:Str)).map V.str:=by unfold SL;rw[W7];rfl
 rw[he]at h
 have hsum:((cs.map fun k=>(⟨#[k]⟩:Str)).map (·.length)).sum=cs.length:=by
  clear h he hl k
  induction cs with
  | nil=>rfl
  | cons s r ih=>
   rw[F8,F8,List.sum_cons,ih,C1]
   show 1+_=_
   omega
 refine c4q h (b3X _) ?_ ?_
 ·rw[hsum,c7]
  show cs.length+cs.length * 0<=_
  omega
 ·have hj:Txt.join (Str.ofString "") (cs.map fun k=>(⟨#[k]⟩:Str))=⟨cs.toArray⟩:=b4P cs
  show Q (.str (Txt.join (Str.ofString "") (cs.map fun k=>(⟨#[k]⟩:Str)))) H
  rw[hj]
  exact k
theorem a8S{n:Int}(h0:0<=n)(h1:n<26):∃ch,atI ("abcdefghijklmnopqrstuvwxyz" : Str).cps.toList n=some ch/\ch∈LET.cps.toList:=by
 obtain⟨ch,hc,hc2⟩:=a1u (xs:=("abcdefghijklmnopqrstuvwxyz" : Str).cps.toList) h0 (by
  have:(("abcdefghijklmnopqrstuvwxyz" : Str).cps.toList).length=26:=by decide +kernel
  omega)
 exact⟨ch,hc,mI hc2⟩
theorem b8K{n:Int}(h0:0<=n)(h1:n<36):∃ch,atI (("abcdefghijklmnopqrstuvwxyz" : Str)++("0123456789" : Str)).cps.toList n=some ch/\ch∈SGN.cps.toList:=by
 obtain⟨ch,hc,hc2⟩:=a1u (xs:=(("abcdefghijklmnopqrstuvwxyz" : Str)++("0123456789" : Str)).cps.toList) h0 (by
  have:((("abcdefghijklmnopqrstuvwxyz" : Str)++("0123456789" : Str)).cps.toList).length=36:=by decide +kernel
  omega)
 refine⟨ch,hc,?_⟩
 rw[<-b8L]
 exact mI hc2
theorem b6g{K:Fg}{E:XK}(hB:Bag H b c)(n0:1<=n)(n1:n<=8)(k:∀a cs H',H a=none->H' a=some (.lst (SL cs))->NmL cs->cs.length=n->Bag H' b c->C8 b H H'->Q (.ref a) H'):a5M K [.ref b,.int (n:Int)] H Q E:=by
 refine⟨rfl,?_⟩
 unfold b8F
 nofun
 nofun
 exists b9r (small (by decide +kernel)) ?_
 refine G0 hB (by decide) (by decide) fun i H1 i0 i1 B1 k1=>?_
 obtain⟨ch,hc,hcm⟩:=a8S i0 i1
 exists b5Q (small (by decide +kernel)) hc ?_
 refine E6 (by simp) fun p H2 hp e2 s2=>?_
 have B2:=B1.same s2
 specialize Z4 (a0G ?_)
 refine⟨(n:Int) - 1,rfl,by omega,by omega,fun D hD=>?_⟩
 obtain⟨nb,nc⟩:=B2.nb hD
 obtain⟨pb,_⟩:=B1.nb hp
 refine a4n (fun i ys H3=>∃cs:List Nat,ys=SL cs/\cs.length=i/\(∀c∈cs,c∈SGN.cps.toList)/\H3 D=some (.lst ys)/\Bag H3 b c/\C8 b H2 H3) ?_ ?_ ?_ ?_
 ·exact⟨[],rfl,rfl,by simp,f6,B2.new hD,C8.new hD⟩
 ·rintro i ys H3 ⟨_,_,_,_,h,_⟩
  exact h
 ·rintro i ys H3 hi ⟨cs,rfl,rfl,h1,hd,B3,k3⟩ R hR
  ext
  refine G0 B3 (by decide) (by decide) fun j H4 j0 j1 B4 k4=>?_
  obtain⟨cj,hcj,hcm2⟩:=b8K j0 j1
  refine b5Q (small (by decide +kernel)) hcj ?_
  refine hR _ _ (k4.1 _ _ hd nb) (J9 (by rw[c0K];omega)) ⟨cs++[cj],by simp[SL],by simp,?_,f6,B4.put nb nc,(k3.trans k4).put hD⟩
  intro s hs
  rcases C6.mp hs with q | q
  ·exact h1 s q
  ·rw[v9.mp q];exact hcm2
 ·rintro ys H3 ⟨cs,rfl,hn,h1,hd,B3,k3⟩
  refine b4p (k3.1 _ _ e2 pb) hd (E6 (by simp[SL];omega) fun a H4 ha e4 s4=>?_)
  have e5:[V.str (⟨#[ch]⟩:Str)]++SL cs=SL (ch::cs):=by simp[SL]
  rw[e5]at e4
  have k03:C8 b H H3:=(k1.trans (C8.of_same s2)).trans k3
  exact k a (ch::cs) H4 (k03.none ha) e4 ⟨ch,cs,rfl,hcm,h1,by omega⟩ (by rw[C1];omega) (B3.same s4) (k03.trans (C8.of_same s4))
theorem c0i{K:Fg}{E:XK}(hB:Bag H b c)(m0:2<=m)(m1:m<=5)(k:∀a ss H',H' a=some (.lst ((ss:List Str).map V.str))->ss.length=m->(∀s∈ss,NmS s)->a≠b->Bag H' b c->C8 b H H'->Q (.ref a) H') :
  a5J K [.ref b,.int (m:Int)] H Q E:=by
 refine⟨rfl,?_⟩
 unfold b5z
 nofun
 nofun
 refine G0 hB (by decide) (by decide) fun z H1 z0 z1 B1 k1=>?_
 obtain⟨z,rfl⟩:=C7 z0
 ext
 obtain⟨sz,hsz⟩:∃sz:Nat,(1:Int)+(z:Int)=(sz:Int):=⟨1+z,by omega⟩
 obtain⟨tz,htz⟩:∃tz:Nat,(sz:Int) % 8+1=(tz:Int):=⟨sz % 8+1,by omega⟩
 have ht8:1<=tz/\tz<=8:=by omega
 rw[hsz]
 nofun
 exists b6g B1 (by omega) (by omega) fun a1 c1 H2 _ e2 n2 l2 B2 k2=>?_
 exists W3 (by decide) ?_
 rw[htz]
 exists b6g B2 ht8.1 ht8.2 fun a2 c2 H3 f3 e3 n3 l3 B3 k3=>?_
 exists E6 (by simp) fun ba H4 hba e4 s4=>?_
 have short1:∀ {H:Hp} {a:Addr} {cs:List Nat},Bag H b c->H a=some (.lst (SL cs))->a≠b:=by
  intro H a cs hB h
  obtain⟨i0,i1,i2,ns,hb,_⟩:=hB.ex
  refine F6 h hb ?_
  intro z
  have z:=HO.lst.inj z
  cases cs with
  | nil=>cases z
  | cons s r=>cases z
 have A1:H4 a1=some (.lst (SL c1)):=s4 _ _ (k3.1 _ _ e2 (short1 B2 e2))
 have A2:H4 a2=some (.lst (SL c2)):=s4 _ _ e3
 have B4:=B3.same s4
 nofun
 refine G0 B4 (by omega) (by omega) fun p1 H5 p10 p11 B5 k5=>?_
 obtain⟨p1,rfl⟩:=C7 p10
 ext
 exists W3 (by decide) ?_
 rw[htz]
 refine G0 B5 (by omega) (by omega) fun p2 H6 p20 p21 B6 k6=>?_
 obtain⟨p2,rfl⟩:=C7 p20
 ext
 exists E6 (by simp) fun sa H7 hsa e7 s7=>?_
 nofun
 exists G0 (B6.same s7) (by decide) (by decide) fun f H8 f0 f1 B8 k8=>?_
 nofun
 exists E6 (by simp) fun D H9 hD e9 s9=>?_
 have B9:=B8.same s9
 have k49:C8 b H4 H9:=(((k5.trans k6).trans (C8.of_same s7)).trans k8).trans (C8.of_same s9)
 have A1':H9 a1=some (.lst (SL c1)):=k49.1 _ _ A1 (short1 B4 A1)
 have A2':H9 a2=some (.lst (SL c2)):=k49.1 _ _ A2 (short1 B4 A2)
 have Ba:H9 ba=some (.lst [.ref a1,.ref a2]):=k49.1 _ _ e4 (B3.nb hba).1
 have Sa:H9 sa=some (.lst [.int (p1:Int),.int (p2:Int)]):=s9 _ _ (k8.1 _ _ e7 (B6.nb hsa).1)
 obtain⟨nb,nc⟩:=B8.nb hD
 have k08:C8 b H H8:=((((k1.trans k2).trans k3).trans (C8.of_same s4)).trans ((k5.trans k6).trans (C8.of_same s7))).trans k8
 have hD0:=k08.none hD
 have k09:C8 b H H9:=k08.trans (C8.of_same s9)
 have f0':=f0
 exact_mod_cast W2 ?_
 specialize a0b (a0G ?_)
 refine⟨m,rfl,by omega,by omega,?_⟩
 rw[A7]
 refine Z8 (fun i σ H10=>∃y8 y9 ss,σ=[some (.ref b),some (.int (m:Int)),some (.str "abcdefghijklmnopqrstuvwxyz"),some (.int (sz:Int)),some (.ref ba),some (.ref sa),some (.int f),some (.ref D),y8,y9,none]/\H10 D=some (.lst ((ss:List Str).map V.str))/\ss.length=i/\(∀s∈ss,NmS s)/\(∀x o,H9 x=some o->x≠D->H10 x=some o)/\A0 H8 H10) ?_ ?_ ?_
 ·exact⟨_,_,[],rfl,e9,rfl,by simp,fun x o e _=>e,s9⟩
 ·rintro i _ H10 hi ⟨y8,y9,ss,rfl,hD10,ls,hss,fr,s10⟩
  ext
  rw[a0u]
  have nba:ba≠D:=d3 (k8.1 _ _ (s7 _ _ (k6.1 _ _ (k5.1 _ _ e4 (B3.nb hba).1) (B3.nb hba).1)) (B3.nb hba).1) hD
  have nsa:sa≠D:=d3 (k8.1 _ _ e7 (B6.nb hsa).1) hD
  have na1:a1≠D:=F6 A1' e9 (by
   intro z
   have z:=HO.lst.inj z
   obtain⟨ch,r,rfl,_⟩:=n2
   cases z)
  have na2:a2≠D:=F6 A2' e9 (by
   intro z
   have z:=HO.lst.inj z
   obtain⟨ch,r,rfl,_⟩:=n3
   cases z)
  have one:∀(ax:Addr) (cx:List Nat) (px:Nat),H10 ax=some (.lst (SL cx))->NmL cx->cx.length<=8->px<cx.length->∀R:VK,
    (∀q H11,H10 q=none->H11 q=some (.lst (SL cx))->A0 H10 H11->R (.ref q) H11)->a2o [.ref ax] H10 R:=fun ax cx px h _ _ _ R hR=>a1F h fun q H11 a b c=>hR q H11 a b c
  have step:∀(ax:Addr) (cx:List Nat) (px:Nat),atI [V.ref a1,V.ref a2] ((i:Int) % 2)=some (.ref ax)->atI [V.int (p1:Int),V.int (p2:Int)] ((i:Int) % 2)=some (.int (px:Int))->H10 ax=some (.lst (SL cx))->NmL cx->cx.length<=8->px<cx.length->True:=fun _ _ _ _ _ _ _ _ _=>trivial
  obtain⟨ax,cx,px,g1,g2,g3,g4,g5,g6⟩:∃(ax:Addr) (cx:List Nat) (px:Nat),atI [V.ref a1,V.ref a2] ((i:Int) % 2)=some (.ref ax)/\atI [V.int (p1:Int),V.int (p2:Int)] ((i:Int) % 2)=some (.int (px:Int))/\H10 ax=some (.lst (SL cx))/\NmL cx/\cx.length<=8/\px<cx.length:=by
   rcases(show i % 2=0\/i % 2=1 by omega)with q | q
   ·have e:(i:Int) % 2=0:=by omega
    rw[e]
    exact⟨a1,c1,p1,R4 _ _,R4 _ _,fr _ _ A1' na1,n2,by omega,by omega⟩
   ·have e:(i:Int) % 2=1:=by omega
    rw[e]
    exact⟨a2,c2,p2,a0m _ _ _,a0m _ _ _,fr _ _ A2' na2,n3,by omega,by omega⟩
  clear one step
  nofun
  refine W3 (by decide) ?_
  exists J0 (fr _ _ Ba nba) g1 ?_
  exists a1F g3 fun q H11 hq e11 s11=>?_
  nofun
  exists W3 ⟨by decide,by decide⟩ ?_
  refine W3 (by decide) ?_
  obtain⟨ch,hc,hcm⟩:=a8S (n:=(f+(i:Int) / 2) % 26) (T6 _ (by decide)) (Q7 _ (by decide))
  exists b5Q (small (by decide +kernel)) hc ?_
  refine W3 (by decide) ?_
  refine J0 (s11 _ _ (fr _ _ Sa nsa)) g2 ?_
  have hix:ixN (SL cx).length (px:Int)=some px:=by
   unfold ixN
   rw[if_pos (by omega),if_pos (by rw[c0K];omega),A7]
  refine b0e e11 hix ?_
  have eset:(SL cx).set px (V.str (⟨#[ch]⟩:Str))=SL (cx.set px ch):=by unfold SL;rw[c7v]
  rw[eset]
  have nm:=(g4.set (i:=px) hcm).nm
  ext
  have hqD:q≠D:=(d3 hD10 hq).symm
  specialize a3j ?_
  have hD12:(upd H11 q (.lst (SL (cx.set px ch)))) D=some (.lst (ss.map V.str)):=by rw[d6 hqD.symm];exact s11 _ _ hD10
  exists ⟨O3 hD12,?_⟩
  exists c2G f6 (by rw[T3];omega) ?_
  refine R6 hD12 (J9 (by rw[c7];omega)) ?_
  refine⟨_,_,ss++[⟨(cx.set px ch).toArray⟩],rfl,by rw[f6];simp,by simp[ls],c1k hss nm,fun x o e n=>?_,fun x o e=>?_⟩
  ·have:=fr x o e n
   rw[d6 n,d6 (d3 this hq)]
   exact s11 _ _ this
  ·have:=s10 x o e
   rw[d6 (d3 e hD),d6 (d3 this hq)]
   exact s11 _ _ this
 rintro _ H10 ⟨y8,y9,ss,rfl,hD10,ls,hss,fr,s10⟩
 have B10:=B8.same s10
 have k10:C8 b H8 H10:=C8.of_same s10
 nofun
 exists E6 (by simp) fun wa H11 hwa e11 s11=>?_
 refine G0 (B10.same s11) (by decide) (by decide) fun wi H12 wi0 wi1 B12 k12=>?_
 have hwa':=k12.1 _ _ e11 (B10.nb hwa).1
 obtain⟨v,hv,hv2⟩:=a1u (xs:=([.str "k0",.str "k1",.str "set",.str "ask",.str "plus",.str "k2"]:List V)) wi0 (by simpa using wi1)
 refine J0 hwa' hv ?_
 have:∃w:Str,v=.str w/\NmS w:=by
  have m:=mI hv2
  simp only[p8,E5,or_false]at m
  have mw:∀s∈(["k0","k1","set","ask","plus","k2"]:List Str),a3C s=true/\s.length<=8:=by decide +kernel
  rcases m with rfl | rfl | rfl | rfl | rfl | rfl <;> exact⟨_,rfl,mw _ (by simp)⟩
 obtain⟨wd,rfl,hwd⟩:=this
 ext
 have hD12:H12 D=some (.lst (ss.map V.str)):=k12.1 _ _ (s11 _ _ hD10) nb
 have k012:C8 b H H12:=(k08.trans k10).trans ((C8.of_same s11).trans k12)
 exact_mod_cast a0x (P:=fun σ H13=>∃ss:List Str,σ[7]? = some (some (V.ref D))/\H13 D=some (.lst (ss.map V.str))/\ss.length=m/\(∀s∈ss,NmS s)/\Bag H13 b c/\C8 b H H13) ?_ ?_
 rotate_left
 ·intro nx hnx
  ext
  refine G0 B12 (by decide) (by decide) fun q H13 _ _ B13 k13=>?_
  have hD13:=k13.1 _ _ hD12 nb
  ext
  refine Y2 (fun _=>?_) (fun _=>?_)
  ·ext
   refine c4o hD13 rfl (by
    rw[O1]
    intro x hx
    obtain⟨s,_,rfl⟩:=E3.mp hx
    rfl) ?_
   ext
   refine Y2 (fun _=>?_) (fun _=>?_)
   ·ext
    refine G0 B13 (by omega) (by omega) fun u H14 u0 u1 B14 k14=>?_
    obtain⟨u,rfl⟩:=C7 u0
    have hD14:=k14.1 _ _ hD13 nb
    have hix:ixN (ss.map V.str).length (u:Int)=some u:=by
     unfold ixN
     rw[if_pos (by omega),if_pos (by rw[c7];omega),A7]
    refine b0e hD14 hix ?_
    refine hnx _ _ ⟨ss.set u wd,rfl,by rw[f6,c7v],by rw[T3];exact ls,fun s hs=>?_,B14.put nb nc,((k012.trans k13).trans k14).put hD0⟩
    rcases b3B hs with q | q
    ·exact hss s q
    ·rw[q];exact hwd
   ·ext
    exact hnx _ _ ⟨ss,rfl,hD13,ls,hss,B13,k012.trans k13⟩
  ·exists C4 rfl ?_
   exact hnx _ _ ⟨ss,rfl,hD13,ls,hss,B13,k012.trans k13⟩
 rintro σ H13 ⟨ss',hσ,hD13,ls',hss',B13,k13⟩
 exact_mod_cast b9a ?_
 exact_mod_cast a7h hσ ?_
 exact k D ss' H13 hD13 ls' hss' nb B13 k13
theorem a5B{K:Fg}{E:XK}(hB:Bag H b c)(k:∀n H',0<=n->n<1000000000000->Bag H' b c->C8 b H H'->Q (.int n) H'):a1V K [.ref b] H Q E:=by
 refine⟨rfl,?_⟩
 unfold b5w
 ext
 exists G0 hB (by decide) (by decide) fun n2 H2 b0 b1 B2 k2=>?_
 exists E6 (by simp) fun p G hp e s=>?_
 refine G0 (B2.same s) (by decide) (by decide) fun n3 H3 c0 c1 B3 k3=>?_
 have hp3:=k3.1 p _ e (B2.nb hp).1
 have kk:C8 b H H3:=k2.trans ((C8.of_same s).trans k3)
 obtain⟨v,hv,hv2⟩:=a1u (xs:=([.int 0,.int 1,.int 2,.int 999999999999,.int n2]:List V)) c0 (by simpa using c1)
 refine J0 hp3 hv ?_
 have:∃n,v=.int n/\0<=n/\n<1000000000000:=by
  have m:=mI hv2
  simp only[p8,E5,or_false]at m
  rcases m with rfl | rfl | rfl | rfl | rfl
  ·exact⟨0,rfl,by decide,by decide⟩
  ·exact⟨1,rfl,by decide,by decide⟩
  ·exact⟨2,rfl,by decide,by decide⟩
  ·exact⟨_,rfl,by decide,by decide⟩
  ·exact⟨_,rfl,by omega,by omega⟩
 obtain⟨n,rfl,q0,q1⟩:=this
 exact k n H3 q0 q1 B3 kk
theorem c7n(xs:List V):a4m xs (some 1) none=xs.drop 1:=by
 cases xs with
 | nil=>rfl
 | cons a r=>rw[c7o];rfl
theorem c2Z(l:List Nat)(n:Nat):(IL l).drop n=IL (l.drop n):=by unfold IL;rw[List.map_drop]
theorem b4W(xs:List V):a0X xs []=decide (xs.length=0):=by
 unfold a0X
 rw[show min xs.length ([]:List V).length=0 by simp]
 simp only[List.range_zero,c7w,b3I,a2f]
 by_cases h:xs.length=0
 ·rw[h];rfl
 ·rw[c9r h]
  simpa using h
theorem c5T{l G:List Nat}(h:(l.map fun t=>decide (t∈G)).any id=true):∃t∈l,t∈G:=by
 obtain⟨x,hx,e⟩:=c3F.mp h
 obtain⟨t,ht,rfl⟩:=E3.mp hx
 exact⟨t,ht,of_decide_eq_true e⟩
theorem b5V{α:Type}(l:List Nat)(f:Nat->α)(i:Nat){t:Nat}(e:l[i]? = some t):(l.take (i+1)).map f=(l.take i).map f++[f t]:=by
 rw[P5,e];simp
structure a3D(H0 H:Hp)(d:Addr)(N:Nt)(G:List Nat):Prop where
 same:A0 H0 H
 hd:H d=some (.dK (KS G))
 nd:G.Nodup
 lt:∀k∈G,k<N.length
 gd:∀k∈G,Gd N k
theorem a3D.next{G:List Nat}(h:a3D H0 H d N G)(s:A0 H H'):a3D H0 H' d N G:=⟨h.same.trans s,s _ _ h.hd,h.nd,h.lt,h.gd⟩
theorem a3D.put{G:List Nat}(h:a3D H0 H d N G)(n:H0 d=none){k:Nat}(hk:k<N.length)(g:Gd N k):a3D H0 (upd H d (.dK (KS (a4b G k)))) d N (a4b G k):=
 ⟨fun b o e=>by rw[d6 (d3 e n)];exact h.same b o e,f6,a7G h.nd,fun j hj=>(Z5.mp hj).elim (h.lt j) fun z=>z ▸ hk,fun j hj=>(Z5.mp hj).elim (h.gd j) fun z=>z ▸ g⟩
theorem c2M{K:Fg}{i:Nat}{l:List Nat}{x2 x4 x5 x6:Option V}{G:List Nat}(n0:H0 d=none)(hn:G7 H a N)(hN:N.length<=24)(hl:N[i]? = some l)(hl2:l.length<=2)(hG:a3D H0 H d N G)
  (k:∀H' G',a3D H0 H' d N G'->(∀j∈G,j∈G')->(l=[]->i∈G')->G7 H' a N->D.nx [some (.ref a),some (.ref d),x2,some (.int (i:Int)),x4,x5,x6] H') :
  K9 (tOr (D5 (tOp qEq (tOp qIx (c6 0) (c6 3)) (V9 (d7)))) (tB (tCB b4r (b6 (Z2 (Y6 K (tOp qIx (c6 0) (c6 3))) (Z1) (b0H (c6 0) (c6 2))) (d7))))) (a1Z (c6 1) (c6 3) (tC (.bl true))) (E4) D
   [some (.ref a),some (.ref d),x2,some (.int (i:Int)),x4,x5,x6] H:=by
 have hi:i<N.length:=(gI hl)
 have hGl:G.length<100000:=by
  have:=a8Q _ _ hG.nd hG.lt
  omega
 have put:∀H1,G7 H1 a N->a3D H0 H1 d N G->a≠d->(∀x,H1 x=some (.dK (KS G))->True)->Gd N i->a1Z (c6 1) (c6 3) (tC (.bl true)) D [some (.ref a),some (.ref d),x2,some (.int (i:Int)),x4,x5,x6] H1:=by
  intro H1 n1 g1 nad _ gd
  specialize a3g ?_
  refine⟨d,_,rfl,b1M g1.hd hGl i,?_⟩
  refine k _ (a4b G i) (g1.put n0 hi gd) (fun j hj=>Z5.mpr (.inl hj)) (fun _=>Z5.mpr (.inr rfl)) ?_
  obtain⟨as,q1,q2,q3⟩:=n1.ex
  refine⟨as,by rw[d6 nad];exact q1,q2,fun j x l' e1 e2=>?_⟩
  have q:=q3 j x l' e1 e2
  rw[d6 (F6 q g1.hd (by intro z;cases z))]
  exact q
 obtain⟨xs,x,h1,h2,h3,_⟩:=hn.at hl
 have nad:a≠d:=F6 h1 hG.hd (by intro z;cases z)
 ext
 exists J0 h1 h2 ?_
 refine E6 (by simp) fun p H1 hp e1 s1=>?_
 refine⟨_,b5Y (s1 _ _ h3) e1 (b6j l) rfl,?_⟩
 rw[b4W,P8]
 ext
 by_cases hz:l=[]
 ·refine J1 (c9s (by rw[hz];rfl)) ?_
  refine J1 rfl ?_
  exact put H1 (hn.same s1) (hG.next s1) nad (fun _ _=>trivial) (.stop (hz ▸ hl))
 exists C4 (c9r fun z=>hz (b5m.mp z)) ?_
 specialize Z4 (X6 ?_)
 refine J0 (s1 _ _ h1) h2 ?_
 refine⟨x,rfl,⟨_,SqL.of (s1 _ _ h3)⟩,fun E hE=>?_⟩
 have G1:=hG.next s1
 refine a0l (xs:=IL l) (fun j ys H2=>ys=(l.take j).map (fun t=>V.bl (decide (t∈G)))/\H2 E=some (.lst ys)/\A0 H1 H2) ⟨by simp,f6,D7 hE⟩ ?_ ?_ ?_ ?_
 ·rintro j ys H2 ⟨_,h,_⟩
  exact h
 ·rintro j ys H2 _ ⟨_,_,s2⟩
  exact SqL.of (s2 _ _ (s1 _ _ h3))
 ·rintro j y ys H2 hy ⟨rfl,hE2,s2⟩ R hR
  have hy:(l.map fun(n:Nat)=>V.int (n:Int))[j]? = some y:=hy
  rw[d4]at hy
  cases ht:l[j]? with
  | none=>rw[ht]at hy;cases hy
  | some t=>
   rw[ht]at hy
   cases hy
   have hj:=(gI ht)
   specialize b9f ?_
   obtain⟨o,g1,g2⟩:=a4E (s2 _ _ G1.hd) t
   refine⟨d,o,rfl,g1,?_⟩
   rw[g2]
   refine hR _ _ hE2 (J9 ?_) ⟨?_,f6,fun b o e=>?_⟩
   ·rw[c7,J4]
    omega
   ·rw[b5V l _ j ht]
   ·rw[d6 (d3 e hE)];exact s2 b o e
 ·rintro ys H2 ⟨rfl,hE2,s2⟩
  rw[P8,X9]at hE2
  have he:l.map (fun t=>V.bl (decide (t∈G)))=(l.map fun t=>decide (t∈G)).map V.bl:=by rw[W7];rfl
  rw[he]at hE2
  ext
  exists c6N hE2 ?_
  refine Y2 (fun c=>?_) (fun c=>?_)
  ·obtain⟨t,t1,t2⟩:=c5T c
   exact put H2 ((hn.same s1).same s2) (G1.next s2) nad (fun _ _=>trivial) (.step hl t1 (hG.gd t t2))
  ·ext
   exact k H2 G (G1.next s2) (fun j hj=>hj) (fun z=>(hz z).elim) ((hn.same s1).same s2)
structure b2a(H0 H:Hp)(d:Addr)(N:Nt)(S:List Nat):Prop where
 same:A0 H0 H
 hd:H d=some (.dK (KS S))
 nd:S.Nodup
 lt:∀k∈S,k<N.length
 rc:∀k∈S,Rc N k
 zero:0∈S
theorem b2a.put{S:List Nat}(h:b2a H0 H d N S)(n:H0 d=none){k:Nat}(hk:k<N.length)(g:Rc N k):b2a H0 (upd H d (.dK (KS (a4b S k)))) d N (a4b S k):=
 ⟨fun b o e=>by rw[d6 (d3 e n)];exact h.same b o e,f6,a7G h.nd,fun j hj=>(Z5.mp hj).elim (h.lt j) fun z=>z ▸ hk,fun j hj=>(Z5.mp hj).elim (h.rc j) fun z=>z ▸ g,Z5.mpr (.inl h.zero)⟩
def a5q(N:Nt)(S:List Nat):Prop:=∀k∈S,∀l,N[k]? = some l->∀t∈l,t∈S
theorem c1B{S:List Nat}{k:Nat}(h:k∈S):a4b S k=S:=by unfold a4b;rw[if_pos h]
theorem G7.dput{ks:List (Key×V)}(h:G7 H a N)(hd:H d=some (.dK ks)):G7 (upd H d o) a N:=by
 obtain⟨as,q1,q2,q3⟩:=h.ex
 exact⟨as,by rw[d6 (F6 q1 hd (by intro z;cases z))];exact q1,q2,fun j x l e1 e2=>by
  have q:=q3 j x l e1 e2
  rw[d6 (F6 q hd (by intro z;cases z))];exact q⟩
theorem b9p{K:Fg}{i:Nat}{l:List Nat}{x1 x2 x5 x6:Option V}{S:List Nat}(n0:H0 d=none)(hn:G7 H a N)(hN:N.length<=24)(hl:N[i]? = some l)(hlt:∀t∈l,t<N.length)(hS:b2a H0 H d N S)
  (k:∀H' S' x5,b2a H0 H' d N S'->(∀j∈S,j∈S')->(i∈S->∀t∈l,t∈S')->(a5q N S->S'=S)->G7 H' a N->D.nx [some (.ref a),x1,x2,some (.int (i:Int)),some (.ref d),x5,x6] H') :
  K9 (tB (b0H (c6 3) (c6 4))) (a1i (Y6 K (tOp qIx (c6 0) (c6 3))) (v5 5) (a1Z (c6 4) (c6 5) (tC (.bl true)))) (E4) D [some (.ref a),x1,x2,some (.int (i:Int)),some (.ref d),x5,x6] H:=by
 ext
 specialize b9f ?_
 obtain⟨o,g1,g2⟩:=a4E hS.hd i
 refine⟨d,o,rfl,g1,?_⟩
 rw[g2]
 ext
 refine Y2 (fun c=>?_) (fun c=>?_)
 ·have hi:i∈S:=of_decide_eq_true c
  obtain⟨xs,x,h1,h2,h3,_⟩:=hn.at hl
  specialize a0b (X6 ?_)
  refine J0 h1 h2 ?_
  refine⟨x,rfl,⟨_,SqL.of h3⟩,a1l (xs:=IL l) (fun j σ H2=>∃S' x5,σ=[some (.ref a),x1,x2,some (.int (i:Int)),some (.ref d),x5,x6]/\b2a H0 H2 d N S'/\(∀j∈S,j∈S')/\(∀t∈l.take j,t∈S')/\(a5q N S->S'=S)/\G7 H2 a N/\H2 x=some (.lst (IL l))) ?_ ?_ ?_ ?_⟩
  ·exact⟨S,x5,rfl,hS,fun _ h=>h,by simp,fun _=>rfl,hn,h3⟩
  ·rintro j σ H2 _ ⟨_,_,_,_,_,_,_,_,h⟩
   exact SqL.of h
  ·rintro j y _ H2 hy ⟨S',x5,rfl,I2,i1,i2,i3,n2,hx2⟩
   have hy:(l.map fun(n:Nat)=>V.int (n:Int))[j]? = some y:=hy
   rw[d4]at hy
   cases ht:l[j]? with
   | none=>rw[ht]at hy;cases hy
   | some t=>
    rw[ht]at hy
    cases hy
    have tm:=mI ht
    ext
    specialize a3g ?_
    refine⟨d,_,rfl,b1M I2.hd (by have:=a8Q _ _ I2.nd I2.lt;omega) t,?_⟩
    refine⟨a4b S' t,_,rfl,I2.put n0 (hlt t tm) (.step (hS.rc i hi) hl tm),fun j hj=>Z5.mpr (.inl (i1 j hj)),fun z hz=>?_,fun hc=>?_,n2.dput I2.hd,?_⟩
    ·rw[P5,ht]at hz
     rcases C6.mp hz with q | q
     ·exact Z5.mpr (.inl (i2 z q))
     ·exact Z5.mpr (.inr (by simpa using q))
    ·rw[i3 hc]
     exact c1B (hc i hi l hl t tm)
    ·rw[d6 (F6 hx2 I2.hd (by intro z;cases z))];exact hx2
  ·rintro _ H2 ⟨S',x5,rfl,I2,i1,i2,i3,n2,hx2⟩
   refine k H2 S' x5 I2 i1 (fun _ t ht=>i2 t ?_) i3 n2
   rw[P8,X9];exact ht
 ·ext
  exact k H S x5 hS (fun _ h=>h) (fun h=>(c (c9s h)).elim) (fun _=>rfl) hn
theorem b3b{ms:List Int}{S:List Nat}(h:ms.Perm (S.map fun(n:Nat)=>(n:Int))):∃O:List Nat,O.Perm S/\ms=O.map fun(n:Nat)=>(n:Int):=by
 refine⟨ms.map b6m,?_,?_⟩
 ·have:=h.map b6m
  rw[W7]at this
  have e:(b6m ∘ fun(n:Nat)=>(n:Int))=id:=by funext n;simp
  rw[e,b7X]at this
  exact this
 ·rw[W7]
  have:∀x∈ms,((fun(n:Nat)=>(n:Int)) ∘ b6m) x=id x:=by
   intro x hx
   obtain⟨n,_,rfl⟩:=E3.mp (h.subset hx)
   simp
  rw[a6g this,b7X]
theorem b3Y{O:List Nat}(h:(O.map fun(n:Nat)=>(n:Int)).Pairwise (· <= ·)):O.Pairwise (· <= ·):=by
 rw[c3d]at h
 exact h.imp fun q=>by omega
theorem c0v(O:List Nat)(t:Nat):(O.map fun(n:Nat)=>(n:Int)).idxOf (t:Int)=O.idxOf t:=by
 induction O with
 | nil=>rfl
 | cons a r ih=>
  rw[F8,c6d,c6d]
  by_cases e:a=t
  ·subst e;simp
  ·have:((a:Int) == (t:Int))=false:=by simp;omega
   have e2:(a == t)=false:=by simpa using e
   rw[this,e2,ih]
theorem M6{i:Nat}(h:i<N.length):N[i]? = some N[i]:=by simp
theorem b7h{K:Fg}{E:XK}(hn:G7 H a N)(hp:0<N.length)(hN:N.length<=24)(hs:∀l∈N,l.length<=2/\∀t∈l,t<N.length)(hl:N[N.length - 1]? = some [])
  (k:∀a' N' H',G7 H' a' N'->a2u N'->N'.length<=24->A0 H H'->Q (.ref a') H'):a4z K [.ref a] H Q E:=by
 refine⟨rfl,?_⟩
 unfold b2B
 nofun
 exists b4l fun d H1 hd e1 s1=>?_
 have n1:=hn.same s1
 obtain⟨xs0,hx0,lx0⟩:=hn.len
 exact_mod_cast a0x (P:=fun σ H2=>∃x2 x3 G,σ=[some (.ref a),some (.ref d),x2,x3,none,none,none]/\a3D H H2 d N G/\N.length - 1∈G/\G7 H2 a N) ?_ ?_
 rotate_left
 ·intro nx hnx
  specialize a0b (a0G ?_)
  refine O8 (s1 _ _ hx0) ?_
  refine⟨N.length,by rw[lx0],by omega,by omega,?_⟩
  rw[A7]
  refine Z8 (fun i σ H2=>∃x2 x3 G,σ=[some (.ref a),some (.ref d),x2,x3,none,none,none]/\a3D H H2 d N G/\(0<i->N.length - 1∈G)/\G7 H2 a N) ?_ ?_ ?_
  ·exact⟨_,_,[],rfl,⟨s1,e1,by simp,by simp,by simp⟩,by omega,n1⟩
  ·rintro i _ H2 hi ⟨x2,x3,G,rfl,I2,g2,n2⟩
   ext
   obtain⟨xs2,hx2,lx2⟩:=n2.len
   specialize a0b (a0G ?_)
   refine O8 hx2 ?_
   refine⟨N.length,by rw[lx2],by omega,by omega,?_⟩
   rw[A7]
   refine Z8 (fun j σ H3=>∃x3 G,σ=[some (.ref a),some (.ref d),some (.int (0+(i:Int))),x3,none,none,none]/\a3D H H3 d N G/\(j=N.length->N.length - 1∈G)/\G7 H3 a N) ?_ ?_ ?_
   ·exact⟨_,G,rfl,I2,by omega,n2⟩
   ·rintro j _ H3 hj ⟨x3,G3,rfl,I3,g3,n3⟩
    exact_mod_cast b1c ?_
    rw[a0u (j:Int)]
    refine c2M hd n3 hN (M6 hj) (hs _ (G9 _)).1 I3 fun H4 G4 I4 sub4 h4 n4=>?_
    refine⟨_,G4,rfl,I4,fun z=>?_,n4⟩
    have e:N.length - 1=j:=by omega
    rw[e]at hl ⊢
    refine h4 ?_
    rw[M6 hj]at hl
    exact Option.some.inj hl
   ·rintro _ H3 ⟨x3,G3,rfl,I3,g3,n3⟩
    exact⟨_,_,G3,rfl,I3,fun _=>g3 rfl,n3⟩
  ·rintro _ H2 ⟨x2,x3,G,rfl,I2,g2,n2⟩
   exact hnx _ _ ⟨x2,x3,G,rfl,I2,g2 hp,n2⟩
 rintro _ H2 ⟨x2,x3,G,rfl,I2,hlast,n2⟩
 nofun
 exact_mod_cast Z4 (a0G ?_)
 obtain⟨xs2,hx2,lx2⟩:=n2.len
 ext
 refine O8 hx2 ?_
 refine⟨N.length,by rw[lx2],by omega,by omega,fun A hA=>?_⟩
 rw[A7]
 refine a4n (fun i ys H3=>∃as:List Addr,ys=as.map V.ref/\as.length=i/\(∀(j:Nat) x l,as[j]? = some x->(a2p N G)[j]? = some l->H3 x=some (.lst (IL l))/\x≠A)/\H3 A=some (.lst ys)/\A0 H2 H3) ?_ ?_ ?_ ?_
 ·exact⟨[],rfl,rfl,by simp,f6,D7 hA⟩
 ·rintro i ys H3 ⟨_,_,_,_,h,_⟩
  exact h
 ·rintro i ys H3 hi ⟨as,rfl,la,at3,hA3,s3⟩ R hR
  rw[a0u]
  obtain⟨ys0,x,f1,f2,f3,f4⟩:=(n2.same s3).at (M6 hi)
  have more:∀q H4,A0 H3 H4->(∀l,(a2p N G)[i]? = some l->H4 q=some (.lst (IL l)))->q≠A->R (.ref q) H4:=by
   intro q H4 s4 hq nq
   refine hR _ _ (s4 _ _ hA3) (J9 (by rw[c7];omega)) ⟨as++[q],by simp,by simp[la],?_,f6,fun b o e=>?_⟩
   ·intro j y l' h1 h2
    rcases U5 h1 with ⟨_,g1⟩ | ⟨hj,g1⟩
    ·obtain⟨g2,g3⟩:=at3 j y l' g1 h2
     exact⟨by rw[d6 g3];exact s4 _ _ g2,g3⟩
    ·rw[hj,la]at h2
     subst g1
     exact⟨by rw[d6 nq];exact hq l' h2,nq⟩
   ·rw[d6 (d3 e hA)]
    exact s4 _ _ (s3 _ _ e)
  ext
  specialize b9f ?_
  obtain⟨o,g1,g2⟩:=a4E (s3 _ _ I2.hd) i
  refine⟨d,o,rfl,g1,?_⟩
  rw[g2]
  ext
  refine Y2 (fun c=>?_) (fun c=>?_)
  ·ext
   refine J0 f1 f2 ?_
   refine more x H3 (A0.refl _) (fun l hl'=>?_) ?_
   ·rw[a5S (M6 hi) (of_decide_eq_true c)]at hl'
    cases hl'
    exact f3
   ·refine(d3 (H:=H2) (a:=x) (b:=A) (o:=.lst (IL N[i])) ?_ hA)
    obtain⟨ys1,x',f1',f2',f3',_⟩:=n2.at (M6 hi)
    have e1:=s3 _ _ f1'
    rw[f1]at e1
    cases e1
    rw[f2]at f2'
    cases f2'
    exact f3'
  ·ext
   exists O8 f1 ?_
   exists E6 (by simp) fun p1 H4 hp1 e4 s4=>?_
   exists J0 (s4 _ _ f1) f2 ?_
   refine c3u (s4 _ _ f3) fun p2 H5 hp2 e5 s5=>?_
   rw[c7n,c2Z]at e5
   have hl2:=(hs _ (G9 (l:=N) (h:=hi))).1
   refine b4p (s5 _ _ e4) e5 (E6 (by simp[P8];omega) fun p3 H6 hp3 e6 s6=>?_)
   refine more p3 H6 ((s4.trans s5).trans s6) (fun l hl'=>?_) ?_
   ·rw[b0h (M6 hi) (fun z=>c (c9s z))]at hl'
    cases hl'
    rw[e6,f4]
    have:((N.length:Int) - 1)=((N.length - 1:Nat):Int):=by omega
    rw[this]
    rfl
   ·exact(d3 ((s4.trans s5) _ _ hA3) hp3).symm
 rintro ys H3 ⟨as,rfl,la,at3,hA3,s3⟩
 obtain⟨N2,hN2⟩:∃N2,N2=a2p N G:=⟨_,rfl⟩
 have len2:N2.length=N.length:=by rw[hN2,b0i]
 have n3:G7 H3 A N2:=⟨as,hA3,by rw[len2,la],fun i x l h1 h2=>(at3 i x l h1 (hN2 ▸ h2)).1⟩
 have small2:∀l∈N2,l.length<=2/\∀t∈l,t<N2.length:=by
  rw[len2,hN2]
  exact b3e hp hs hl hlast
 have gd2:∀k,k<N2.length->Gd N2 k:=by
  rw[len2,hN2]
  exact c2O I2.gd hl hlast
 have s03:A0 H H3:=I2.same.trans s3
 clear at3 hN2 la
 ext
 nofun
 intro r hr
 refine⟨f6,[(Sum.inl 0,V.bl true)],rfl,by simp,?_⟩
 have e4:(upd (upd H3 r (.dK [])) r (.dK (a6H [] [(Sum.inl 0,V.bl true)])))=upd H3 r (.dK (KS [0])):=by
  rw[b0G];rfl
 rw[e4]
 ext
 obtain⟨H4,hH4⟩:∃H4,H4=upd H3 r (.dK (KS [0])):=⟨_,rfl⟩
 rw[<-hH4]
 have s4:A0 H3 H4:=hH4 ▸ D7 hr
 have er:H4 r=some (.dK (KS [0])):=hH4 ▸ f6
 have n4:=n3.same s4
 clear hH4 e4
 have hp2:0<N2.length:=by omega
 exact_mod_cast a0x (P:=fun σ H5=>∃x2 x3 x5 S,σ=[some (.ref A),some (.ref d),x2,x3,some (.ref r),x5,none]/\b2a H3 H5 r N2 S/\a5q N2 S/\G7 H5 A N2) ?_ ?_
 rotate_left
 ·intro nx hnx
  obtain⟨ys4,hy4,ly4⟩:=n4.len
  specialize a0b (a0G ?_)
  refine O8 hy4 ?_
  refine⟨N2.length,by rw[ly4],by omega,by omega,?_⟩
  rw[A7]
  refine Z8 (fun i σ H5=>∃x2 x3 x5 S,σ=[some (.ref A),some (.ref d),x2,x3,some (.ref r),x5,none]/\b2a H3 H5 r N2 S/\(a5q N2 S\/i+1<=S.length)/\G7 H5 A N2) ?_ ?_ ?_
  ·exact⟨_,_,_,[0],rfl,⟨s4,er,by simp,by simpa using hp2,by simpa using Rc.zero,by simp⟩,.inr (by simp),n4⟩
  ·rintro i _ H5 hi ⟨x2,x3,x5,S,rfl,I5,g5,n5⟩
   ext
   obtain⟨ys5,hy5,ly5⟩:=n5.len
   specialize a0b (a0G ?_)
   refine O8 hy5 ?_
   refine⟨N2.length,by rw[ly5],by omega,by omega,?_⟩
   rw[A7]
   refine Z8 (fun j σ H6=>∃x3 x5 S',σ=[some (.ref A),some (.ref d),some (.int (0+(i:Int))),x3,some (.ref r),x5,none]/\b2a H3 H6 r N2 S'/\(∀k∈S,k∈S')/\(∀k∈S,k<j->∀l,N2[k]? = some l->∀t∈l,t∈S')/\(a5q N2 S->S'=S)/\G7 H6 A N2) ?_ ?_ ?_
   ·exact⟨_,_,S,rfl,I5,fun _ h=>h,by omega,fun _=>rfl,n5⟩
   ·rintro j _ H6 hj ⟨x3,x5,S',rfl,I6,b1,b2,b3,n6⟩
    exact_mod_cast b1c ?_
    rw[a0u (j:Int)]
    refine b9p hr n6 (by omega) (M6 hj) (small2 _ (G9 _)).2 I6 fun H7 S7 x5 I7 c1 c2 c3 n7=>?_
    refine⟨_,x5,S7,rfl,I7,fun k hk=>c1 k (b1 k hk),fun k hk hkj l hl' t ht=>?_,fun hc=>?_,n7⟩
    ·by_cases e:k=j
     ·subst e
      rw[M6 hj]at hl'
      cases hl'
      exact c2 (b1 k hk) t ht
     ·exact c1 t (b2 k hk (by omega) l hl' t ht)
    ·have:=b3 hc
     rw[this]at c3
     exact c3 hc
   ·rintro _ H6 ⟨x3,x5,S',rfl,I6,b1,b2,b3,n6⟩
    refine⟨_,x3,x5,S',rfl,I6,?_,n6⟩
    rcases g5 with hc | hc
    ·exact .inl (by rw[b3 hc];exact hc)
    ·by_cases hcl:a5q N2 S
     ·exact .inl (by rw[b3 hcl];exact hcl)
     ·right
      obtain⟨t,t1,t2⟩:∃t,t∈S'/\¬t∈S:=by
       refine Classical.byContradiction fun hno=>hcl fun k hk l hl' t ht=>?_
       refine Classical.byContradiction fun hts=>hno ⟨t,b2 k hk (I5.lt k hk) l hl' t ht,hts⟩
      have:(t::S).length<=S'.length:=by
       have nd:(t::S).Nodup:=K6.mpr ⟨t2,I5.nd⟩
       have sub:∀k∈t::S,k∈S':=fun k hk=>(p8.mp hk).elim (fun z=>z ▸ t1) (b1 k)
       exact c0h _ _ nd sub
      rw[C1]at this
      omega
  ·rintro _ H5 ⟨x2,x3,x5,S,rfl,I5,g5,n5⟩
   refine hnx _ _ ⟨x2,x3,x5,S,rfl,I5,g5.elim id fun h=>?_,n5⟩
   have:=a8Q _ _ I5.nd I5.lt
   omega
 rintro _ H5 ⟨y2,y3,y5,S,rfl,I5,hcl,n5⟩
 have hSl:=a8Q _ _ I5.nd I5.lt
 nofun
 have ek:(KS S).map (fun kv=>kV kv.1)=(S.map fun(n:Nat)=>(n:Int)).map V.int:=by
  unfold KS;rw[W7,W7];rfl
 have ld:a6x [.ref r] H5=fun Q=>∀l,H5 l=none->Q (.ref l) (upd H5 l (.lst ((KS S).map fun kv=>kV kv.1))):=by
  unfold a6x
  simp only[I5.hd]
 rw[ld]
 intro p6 hp6
 rw[ek]
 obtain⟨H6,hH6⟩:∃H6,H6=upd H5 p6 (.lst ((S.map fun(n:Nat)=>(n:Int)).map V.int)):=⟨_,rfl⟩
 rw[<-hH6]
 have s6:A0 H5 H6:=hH6 ▸ D7 hp6
 have e6:H6 p6=some (.lst ((S.map fun(n:Nat)=>(n:Int)).map V.int)):=hH6 ▸ f6
 clear hH6 ld
 ext
 have so:a4D [.ref p6] H6=fun Q=>∃ns,a1t ((S.map fun(n:Nat)=>(n:Int)).map V.int)=some ns/\ns.length<64/\∀(p:Addr) (ms:List Int),ms.Perm ns->ms.Pairwise (· <= ·)->H6 p=none->Q (.ref p) (upd H6 p (.lst (ms.map V.int))):=by
  unfold a4D
  simp only[e6]
 rw[so]
 refine⟨_,a8W _,by rw[c7];omega,fun p7 ms hperm hsort hp7=>?_⟩
 obtain⟨O,hO,rfl⟩:=b3b hperm
 have hsO:=b3Y hsort
 have ndO:O.Nodup:=hO.nodup_iff.mpr I5.nd
 have memO:∀k,k∈O↔k∈S:=fun k=>hO.mem_iff
 obtain⟨H7,hH7⟩:∃H7,H7=upd H6 p7 (.lst ((O.map fun(n:Nat)=>(n:Int)).map V.int)):=⟨_,rfl⟩
 rw[<-hH7]
 have s7:A0 H6 H7:=hH7 ▸ D7 hp7
 have e7:H7 p7=some (.lst ((O.map fun(n:Nat)=>(n:Int)).map V.int)):=hH7 ▸ f6
 clear hH7 so
 have hOl:O.length<=24:=by rw[hO.length_eq];omega
 ext
 have n7:=(n5.same s6).same s7
 have s07:A0 H H7:=((s03.trans I5.same).trans s6).trans s7
 have valid:a2u (a4Y N2 O):=b6y ((memO 0).mpr I5.zero) hsO ndO (fun k hk=>I5.lt k ((memO k).mp hk)) (by omega) (fun k hk l hl' t ht=>(memO t).mpr (hcl k ((memO k).mp hk) l hl' t ht)) (fun k hk=>I5.rc k ((memO k).mp hk))
  (fun l hl'=>(small2 l hl').1) gd2
 specialize Z4 (X6 ?_)
 refine⟨p7,rfl,⟨_,SqL.of e7⟩,fun B hB=>?_⟩
 refine a0l (xs:=(O.map fun(n:Nat)=>(n:Int)).map V.int) (fun i ys H8=>∃bs:List Addr,ys=bs.map V.ref/\bs.length=i/\(∀(j:Nat) x l,bs[j]? = some x->(a4Y N2 O)[j]? = some l->H8 x=some (.lst (IL l))/\x≠B)/\H8 B=some (.lst ys)/\A0 H7 H8) ?_ ?_ ?_ ?_ ?_
 ·exact⟨[],rfl,rfl,by simp,f6,D7 hB⟩
 ·rintro i ys H8 ⟨_,_,_,_,h,_⟩
  exact h
 ·rintro i ys H8 _ ⟨_,_,_,_,_,s8⟩
  exact SqL.of (s8 _ _ e7)
 ·rintro i x ys H8 hx ⟨bs,rfl,lb,at8,hB8,s8⟩ R hR
  rw[d4,d4]at hx
  cases ho:O[i]? with
  | none=>rw[ho]at hx;cases hx
  | some kk=>
   rw[ho]at hx
   cases hx
   have hko:=mI ho
   have hks:=(memO kk).mp hko
   have hkl:=I5.lt kk hks
   obtain⟨ys8,x8,f1,f2,f3,_⟩:=(n7.same s8).at (M6 hkl)
   obtain⟨l8,hl8⟩:∃l8,l8=N2[kk]:=⟨_,rfl⟩
   rw[<-hl8]at f3
   have hN8:N2[kk]? = some l8:=by rw[hl8];exact M6 hkl
   specialize Z4 (X6 ?_)
   refine J0 f1 f2 ?_
   refine⟨x8,rfl,⟨_,SqL.of f3⟩,fun C hC=>?_⟩
   refine a0l (xs:=IL l8) (fun j zs H9=>zs=IL ((l8.take j).map fun t=>O.idxOf t)/\H9 C=some (.lst zs)/\A0 H8 H9) ⟨rfl,f6,D7 hC⟩ ?_ ?_ ?_ ?_
   ·rintro j zs H9 ⟨_,h,_⟩
    exact h
   ·rintro j zs H9 _ ⟨_,_,s9⟩
    exact SqL.of (s9 _ _ f3)
   ·rintro j y zs H9 hy ⟨rfl,hC9,s9⟩ R' hR'
    have hy:(l8.map fun(n:Nat)=>V.int (n:Int))[j]? = some y:=hy
    rw[d4]at hy
    cases ht:l8[j]? with
    | none=>rw[ht]at hy;cases hy
    | some t=>
     rw[ht]at hy
     cases hy
     have htO:t∈O:=(memO t).mpr (hcl kk hks l8 hN8 t (mI ht))
     specialize a3j ?_
     have e9:H9 p7=_:=s9 _ _ (s8 _ _ e7)
     exists ⟨O3 e9,?_⟩
     have ix:a6y (.ref p7) [.int (t:Int)] H9=fun Q=>∃ns,a1t ((O.map fun(n:Nat)=>(n:Int)).map V.int)=some ns/\ns.length<10000/\(t:Int)∈ns/\Q (.int (ns.idxOf (t:Int):Nat)) H9:=by
      unfold a6y
      simp only[e9]
     rw[ix]
     refine⟨_,a8W _,by rw[c7];omega,E3.mpr ⟨t,htO,rfl⟩,?_⟩
     rw[c0v]
     have hl2:=(small2 l8 (mI hN8)).1
     refine hR' _ _ hC9 (J9 ?_) ⟨?_,f6,fun b o e=>?_⟩
     ·rw[P8,c7,J4];omega
     ·unfold IL
      rw[b5V l8 (fun t=>O.idxOf t) j ht]
      simp
     ·rw[d6 (d3 e hC)];exact s9 _ _ e
   ·rintro zs H9 ⟨rfl,hC9,s9⟩
    rw[P8,X9]at hC9
    refine hR _ _ (s9 _ _ hB8) (J9 (by rw[c7];have:=(gI ho);omega)) ⟨bs++[C],by simp,by simp[lb],?_,f6,fun b o e=>?_⟩
    ·have nCB:C≠B:=(d3 hB8 hC).symm
     intro j y l' h1 h2
     rcases U5 h1 with ⟨_,g1⟩ | ⟨hj,g1⟩
     ·obtain⟨g2,g3⟩:=at8 j y l' g1 h2
      exact⟨by rw[d6 g3];exact s9 _ _ g2,g3⟩
     ·rw[hj,lb]at h2
      subst g1
      refine⟨?_,nCB⟩
      rw[d6 nCB,hC9]
      have h2':(a4Y N2 O)[i]? = some (l8.map fun t=>O.idxOf t):=by
       unfold a4Y
       rw[d4,ho]
       simp[Q5,hN8]
      rw[h2']at h2
      cases h2
      rfl
    ·rw[d6 (d3 e hB)]
     exact s9 _ _ (s8 _ _ e)
 ·rintro ys H8 ⟨bs,rfl,lb,at8,hB8,s8⟩
  rw[c7,c7]at lb
  have hlen:(a4Y N2 O).length=O.length:=by simp[a4Y]
  exact k B (a4Y N2 O) H8 ⟨bs,hB8,by rw[lb,hlen],fun i x l h1 h2=>(at8 i x l h1 h2).1⟩ valid (by rw[hlen];exact hOl) (s07.trans s8)
structure W1(H:Hp)(a:Addr)(N:Nt):Prop where
 ex:∃rs:List Addr,H a=some (.lst (rs.map V.ref))/\rs.length=N.length/\∀(i:Nat) x l,rs[i]? = some x->N[i]? = some l->a9l H (.ref x) (l.length == 2)
theorem W1.same(h:W1 H a N)(k:A0 H H'):W1 H' a N:=by
 obtain⟨rs,h1,h2,h3⟩:=h.ex
 exact⟨rs,k a _ h1,h2,fun i x l e1 e2=>(h3 i x l e1 e2).ts (A0.ts k)⟩
theorem W1.kept(h:W1 H a N)(hB:Bag H b c)(k:C8 b H H'):W1 H' a N:=by
 obtain⟨rs,h1,h2,h3⟩:=h.ex
 exact⟨rs,k.1 a _ h1 (a1b hB h1),h2,fun i x l e1 e2=>(h3 i x l e1 e2).ts (C8.ts k hB)⟩
theorem a2c{K:Fg}{E:XK}(hB:Bag H b c)(hN:a1v H a)(k:∀v H',OpN v->Bag H' b c->C8 b H H'->Q v H'):Z3 K [.ref b,.ref a] H Q E:=by
 refine⟨rfl,?_⟩
 unfold a9V
 nofun
 exists G0 hB (by decide) (by decide) fun n1 H1 a0 a1 B1 k1=>?_
 refine Y2 (fun _=>?_) (fun _=>?_)
 ·ext
  exact a5B B1 fun n H2 q0 q1 B2 k2=>k _ _ (.inr ⟨n,rfl,q0,q1⟩) B2 (k1.trans k2)
 ·ext
  obtain⟨N1,ne⟩:=hN.kept hB k1
  obtain⟨ss,h1,h2,h3,h4⟩:=N1.ex
  exists O8 h1 ?_
  refine b1l B1 h1 ne (by simpa using h2) (by rw[c7];omega) fun n v H2 e1 e2 a2 B2 k2=>?_
  refine J0 a2 e1 ?_
  obtain⟨s,hs,rfl⟩:=E3.mp e2
  exact k _ _ (.inl ⟨s,rfl,h4 s hs⟩) B2 (k1.trans k2)
theorem c2P{K:Fg}{E:XK}(hB:Bag H b c)(hN:a1v H a)(k:∀p H',a7p H' p->H p=none->Bag H' b c->C8 b H H'->Q (.ref p) H'):a7z K [.ref b,.ref a] H Q E:=by
 refine⟨rfl,?_⟩
 unfold b8E
 nofun
 exists E6 (by decide) fun p G hp e s=>?_
 refine G0 (hB.same s) (by decide) (by decide) fun n1 H1 a0 a1 B1 k1=>?_
 have hp1:=k1.1 p _ e (hB.nb hp).1
 have k01:C8 b H H1:=(C8.of_same s).trans k1
 obtain⟨v,hv,hv2⟩:=a1u (xs:=([.str "plus",.str "minus",.str "times",.str "less",.str "same"]:List V)) a0 (by simpa using a1)
 refine J0 hp1 hv ?_
 have:∃kd:Str,v=.str kd/\kd∈b6i:=by
  have m:=mI hv2
  simp only[p8,E5,or_false]at m
  rcases m with rfl | rfl | rfl | rfl | rfl <;> exact⟨_,rfl,by simp⟩
 obtain⟨kd,rfl,hkd⟩:=this
 ext
 obtain⟨N1,_⟩:=hN.kept hB k01
 exists a2c B1 N1 fun v1 H2 o1 B2 k2=>?_
 obtain⟨N2,_⟩:=N1.kept B1 k2
 exists a2c B2 N2 fun v2 H3 o2 B3 k3=>?_
 refine E6 (by simp) fun q G hq e s=>?_
 have k03:=(k01.trans k2).trans k3
 exact k q _ ⟨kd,v1,v2,e,o1,o2,hkd⟩ (k03.none hq) (B3.same s) (k03.trans (C8.of_same s))
theorem c4k{K:Fg}{few:Nat}{E:XK}(hB:Bag H b c)(ha:H a=some (.lst (ss.map V.str)))(hl:ss.length<=8)(hf:few<ss.length)(hss:∀s∈ss,NmS s)(hP:a6e H p)
  (k:∀v H',a9l H' v false->Bag H' b c->C8 b H H'->Q v H'):b0L K [.ref b,.ref a,.int (few:Int),.ref p] H Q E:=by
 have hN:a1v H a:=⟨ss,ha,by intro z;subst z;simp at hf,hl,hss⟩
 have ne0:ss.map V.str≠[]:=by intro z;rw[List.map_eq_nil_iff.mp z]at hf;simp at hf
 have nab:=(hN.kept hB (C8.refl b H)).2
 refine⟨rfl,?_⟩
 unfold c3l
 nofun
 exists O8 ha ?_
 refine b1l hB ha nab ne0 (by rw[c7];omega) fun n v H1 e1 e2 a1 B1 k1=>?_
 refine J0 a1 e1 ?_
 obtain⟨s1,hs1,rfl⟩:=E3.mp e2
 ext
 exact_mod_cast a0x (P:=fun σ H2=>∃s,NmS s/\σ=[some (.ref b),some (.ref a),some (.int (few:Int)),some (.ref p),some (.str s),none]/\Bag H2 b c/\C8 b H H2) ?_ ?_
 rotate_left
 ·intro nx hnx
  ext
  exists G0 B1 (by decide) (by decide) fun q H2 _ _ B2 k2=>?_
  refine Y2 (fun _=>?_) (fun _=>?_)
  ·ext
   have a2:=k2.1 _ _ a1 nab
   exists O8 a2 ?_
   rw[c7]
   exists G0 B2 (by omega) (by omega) fun u H3 u0 u1 B3 k3=>?_
   obtain⟨v,hv,hv2⟩:=a1u (xs:=ss.map V.str) (i:=(few:Int)+u) (by omega) (by rw[c7];omega)
   refine J0 (k3.1 _ _ a2 nab) hv ?_
   obtain⟨s,hs,rfl⟩:=E3.mp (mI hv2)
   exact hnx _ _ ⟨s,hss s hs,rfl,B3,(k1.trans k2).trans k3⟩
  ·ext
   exact hnx _ _ ⟨s1,hss s1 hs1,rfl,B2,k1.trans k2⟩
 rintro _ H2 ⟨s,ns,rfl,B2,k2⟩
 nofun
 refine G0 B2 (by decide) (by decide) fun w H3 w0 w1 B3 k3=>?_
 have k03:=k2.trans k3
 obtain⟨N3,_⟩:=hN.kept hB k03
 have P3:=hP.kept hB k03
 ext
 nofun
 refine Y2 (fun _=>?_) (fun _=>?_)
 ·obtain⟨ps,p1,p2,p3,p4⟩:=P3.ex
  ext
  exists O8 p1 ?_
  refine b1l B3 p1 (a1b B3 p1) (by simpa using p2) (by rw[c7];omega) fun n v H4 f1 f2 a4 B4 k4=>?_
  refine J0 a4 f1 ?_
  obtain⟨d,hd,rfl⟩:=E3.mp f2
  have hd4:=(p4 d hd).ts (C8.ts k4 B3)
  ext
  refine E6 (by simp) fun q G hq e s5=>?_
  exact k _ _ ⟨q,_,rfl,e,.set _ d ns (hd4.ts (A0.ts s5)),_,_,rfl,by decide⟩ (B4.same s5) ((k03.trans k4).trans (C8.of_same s5))
 ext
 nofun
 refine Y2 (fun _=>?_) (fun _=>?_)
 ·ext
  exists a2c B3 N3 fun v H4 o1 B4 k4=>?_
  refine E6 (by simp) fun q G hq e s5=>?_
  exact k _ _ ⟨q,_,rfl,e,.copy _ v ns o1,_,_,rfl,by decide⟩ (B4.same s5) ((k03.trans k4).trans (C8.of_same s5))
 ext
 nofun
 refine Y2 (fun _=>?_) (fun _=>?_)
 ·ext
  exists E6 (by simp) fun q1 G1 hq1 e1 s1=>?_
  have B4:=B3.same s1
  exists a2c B4 (N3.same s1) fun v H5 o1 B5 k5=>?_
  exists E6 (by simp) fun q2 G2 hq2 e2 s2=>?_
  exists E6 (by simp) fun q3 G3 hq3 e3 s3=>?_
  have sB:=(B5.same s2)
  refine G0 (sB.same s3) (by decide) (by decide) fun j H6 j0 j1 B6 k6=>?_
  obtain⟨x,hx,hx2⟩:=a1u (xs:=[V.ref q1,V.ref q2]) j0 (by simpa using j1)
  refine J0 (k6.1 _ _ e3 (sB.nb hq3).1) hx ?_
  have kk:C8 b H H6:=((k03.trans (C8.of_same s1)).trans k5).trans ((C8.of_same (s2.trans s3)).trans k6)
  have f1:H6 q1=_:=k6.1 _ _ (s3 _ _ (s2 _ _ (k5.1 _ _ e1 (B3.nb hq1).1))) (B3.nb hq1).1
  have f2:H6 q2=_:=k6.1 _ _ (s3 _ _ e2) (B5.nb hq2).1
  have m:=mI hx2
  simp only[p8,E5,or_false]at m
  rcases m with rfl | rfl
  ·exact k _ _ ⟨q1,_,rfl,f1,.take _ ns,_,_,rfl,by decide⟩ B6 kk
  ·exact k _ _ ⟨q2,_,rfl,f2,.tell v o1,_,_,rfl,by decide⟩ B6 kk
 ext
 refine E6 (by simp) fun q G hq e s5=>?_
 exact k _ _ ⟨q,_,rfl,e,.skip,_,_,rfl,by decide⟩ (B3.same s5) (k03.trans (C8.of_same s5))
theorem c7S(ss:List Str)(few:Nat):a4m (ss.map V.str) none (some (few:Int))=(ss.take few).map V.str:=by
 unfold a4m
 have e:HT.sIx (ss.map V.str).length 0 none=0:=rfl
 have e2:HT.sIx (ss.map V.str).length (ss.map V.str).length (some (few:Int))=min few ss.length:=by
  have:=HT.a7E (ss.map V.str).length (ss.map V.str).length few
  rw[c7]at this ⊢
  rw[this]
 rw[e,e2,c6i,Nat.sub_zero,List.map_take]
 rw[Nat.min_comm,List.take_eq_take_min (i:=few),c7]
 congr 1
 omega
theorem b6P{K:Fg}{E:XK}(hB:Bag H b c)
  (k:∀p ra na sa da N H',H' p=some (.tup [.ref ra,.ref na,.ref sa,.ref da])->W1 H' ra N->G7 H' na N->a1v H' sa->(∃ss:List Str,H' sa=some (.lst (ss.map V.str))/\2<=ss.length/\ss.length<=5)->a6e H' da->a2u N->N.length<=24->ra≠da->na≠da->Bag H' b c->C8 b H H'->Q (.ref p) H'):a7x K [.ref b] H Q E:=by
 refine⟨rfl,?_⟩
 unfold b8B
 nofun
 exists G0 hB (by decide) (by decide) fun n1 H1 a0 a1 B1 k1=>?_
 exact_mod_cast a0x (P:=fun σ H2=>∃m:Nat,σ=[some (.ref b),some (.int (m:Int)),none,none,none,none,none,none]/\0<m/\m<=24/\Bag H2 b c/\C8 b H H2) ?_ ?_
 rotate_left
 ·intro nx hnx
  ext
  exists G0 B1 (by decide) (by decide) fun n2 H2 b0 b1 B2 k2=>?_
  refine Y2 (fun _=>?_) (fun _=>?_)
  ·ext
   exists G0 B2 (by decide) (by decide) fun n3 H3 c0 c1 B3 k3=>?_
   obtain⟨n3,rfl⟩:=C7 c0
   exact hnx _ _ ⟨15+n3,rfl,by omega,by omega,B3,(k1.trans k2).trans k3⟩
  ·ext
   obtain⟨n1,rfl⟩:=C7 a0
   exact hnx _ _ ⟨1+n1,rfl,by omega,by omega,B2,k1.trans k2⟩
 rintro _ H2 ⟨m,rfl,m0,m1,B2,k2⟩
 nofun
 exists c5r B2 m0 m1 fun a N0 H3 n3 l3 s3 z3 B3 k3=>?_
 exists b7h n3 (by omega) (by omega) (by rw[l3];exact s3) (by rw[l3];exact z3) fun na N H4 n4 v4 lN s4=>?_
 have B4:=B3.same s4
 have k4:C8 b H H4:=(k2.trans k3).trans (C8.of_same s4)
 nofun
 refine G0 B4 (by decide) (by decide) fun f H5 f0 f1 B5 k5=>?_
 obtain⟨f,rfl⟩:=C7 f0
 ext
 obtain⟨few,hfew,hfew1⟩:∃few:Nat,(1:Int)+(f:Int)=(few:Int)/\1<=few/\few<=3:=⟨1+f,by omega,by omega⟩
 rw[hfew]
 nofun
 refine G0 B5 (by decide) (by decide) fun g H6 g0 g1 B6 k6=>?_
 obtain⟨g,rfl⟩:=C7 g0
 ext
 obtain⟨mn,hmn,hmn1⟩:∃mn:Nat,(few:Int)+1+(g:Int)=(mn:Int)/\few<mn/\mn<=5/\2<=mn:=⟨few+1+g,by omega,by omega⟩
 rw[hmn]
 exists c0i B6 hmn1.2.2 hmn1.2.1 fun sa ss H7 e7 l7 hss nsb B7 k7=>?_
 have n7:=((n4.kept B4 v4.two k5).kept B5 v4.two k6).kept B6 v4.two k7
 have k07:C8 b H H7:=((k4.trans k5).trans k6).trans k7
 exact_mod_cast W2 ?_
 specialize Z4 (a0G ?_)
 exists G0 B7 (by decide) (by decide) fun n8 H8 d0 d1 B8 k8=>?_
 obtain⟨n8,rfl⟩:=C7 d0
 refine⟨1+n8,rfl,by omega,by omega,fun D hD=>?_⟩
 obtain⟨nb,nc⟩:=B8.nb hD
 have n8':=n7.kept B7 v4.two k8
 have e8:=k8.1 _ _ e7 nsb
 obtain⟨xsn,hxn,_⟩:=n8'.len
 have nnaD:na≠D:=d3 hxn hD
 refine a4n (fun i ys H9=>∃ps:List Addr,ys=ps.map V.ref/\ps.length=i/\(∀p∈ps,a7p H9 p)/\H9 D=some (.lst ys)/\Bag H9 b c/\C8 b H8 H9) ?_ ?_ ?_ ?_
 ·exact⟨[],rfl,rfl,by simp,f6,B8.new hD,C8.new hD⟩
 ·rintro i ys H9 ⟨_,_,_,_,h,_⟩
  exact h
 ·rintro i ys H9 hi ⟨ps,rfl,lp,hp,hD9,B9,k9⟩ R hR
  ext
  refine c3u (k9.1 _ _ e8 nsb) fun q H10 hq e10 s10=>?_
  rw[c7S]at e10
  ext
  have N10:a1v H10 q:=⟨ss.take few,e10,by
   intro z
   have:=congrArg a9N z
   rw[J4,a2f]at this
   omega,by rw[J4];omega,fun s hs=>hss s (List.mem_of_mem_take hs)⟩
  have B10:=B9.same s10
  refine c2P B10 N10 fun p H11 hd11 _ B11 k11=>?_
  have hD11:=k11.1 _ _ (s10 _ _ hD9) nb
  refine hR _ _ hD11 (J9 (by rw[c7];omega)) ⟨ps++[p],by simp,by simp[lp],fun q hq=>?_,f6,B11.put nb nc,((k9.trans (C8.of_same s10)).trans k11).put hD⟩
  rcases C6.mp hq with z | z
  ·exact(((hp q z).ts (A0.ts s10)).ts (C8.ts k11 B10)).ts (L4.put hD11)
  ·rw[v9.mp z];exact hd11.ts (L4.put hD11)
 rintro ys H9 ⟨ps,rfl,lp,hp,hD9,B9,k9⟩
 have P9:a6e H9 D:=⟨ps,hD9,by intro z;subst z;simp at lp;omega,by omega,hp⟩
 have n9:=n8'.kept B8 v4.two k9
 have e9:=k9.1 _ _ e8 nsb
 have k09:C8 b H H9:=(k07.trans k8).trans k9
 ext
 nofun
 exists E6 (by simp) fun R' H10 hR' e10 s10=>?_
 have n10:=n9.same s10
 have B10:=B9.same s10
 obtain⟨rb,rc⟩:=B9.nb hR'
 have nRD:R'≠D:=(d3 hD9 hR').symm
 exact_mod_cast W2 ?_
 specialize a0b (X6 ?_)
 obtain⟨as,q1,q2,q3⟩:=id n9.ex
 have hR0:H R'=none:=k09.none hR'
 refine⟨na,rfl,⟨_,SqL.of (s10 _ _ q1)⟩,a1l (xs:=as.map V.ref) (fun i σ H11=>∃y7 rs,σ=[some (.ref b),some (.int (m:Int)),some (.ref na),some (.int (few:Int)),some (.ref sa),some (.ref D),some (.ref R'),y7]/\(rs:List Addr).length=i/\(∀(j:Nat) x l,rs[j]? = some x->N[j]? = some l->a9l H11 (.ref x) (l.length == 2))/\H11 R'=some (.lst (rs.map V.ref))/\Bag H11 b c/\C8 b H9 H11) ?_ ?_ ?_ ?_⟩
 ·exact⟨_,[],rfl,rfl,by simp,e10,B10,C8.of_same s10⟩
 ·rintro i σ H11 _ ⟨_,_,_,_,_,_,_,k11⟩
  exact SqL.of (k11.1 _ _ q1 (a1b B9 q1))
 ·rintro i x _ H11 hx ⟨y7,rs,rfl,lr,hr,hR11,B11,k11⟩
  rw[d4]at hx
  cases hxa:as[i]? with
  | none=>rw[hxa]at hx;cases hx
  | some xa=>
   rw[hxa]at hx
   cases hx
   have hi:i<N.length:=by rw[<-q2];exact(gI hxa)
   have hx9:=q3 i xa _ hxa (M6 hi)
   have hx11:=k11.1 _ _ hx9 (a8v B9 hx9 (by rw[P8];have:=v4.two _ (G9 hi);omega))
   have P11:=P9.kept B9 k11
   have e11:=k11.1 _ _ e9 nsb
   ext
   exists O8 hx11 ?_
   rw[P8]
   by_cases h2:N[i].length=2
   ·exists J1 (c9s (by rw[h2];rfl)) ?_
    specialize a3j ?_
    exists ⟨O3 hR11,?_⟩
    exists a2c B11 ⟨ss,e11,by intro z;subst z;simp at l7;omega,by omega,hss⟩ fun v H12 o12 B12 k12=>?_
    exists E6 (by simp) fun q H13 hq e13 s13=>?_
    have hR13:=s13 _ _ (k12.1 _ _ hR11 rb)
    have r13:a9l H13 (.ref q) (N[i].length == 2):=⟨q,_,rfl,e13,.ask v o12,_,_,rfl,by rw[h2];decide⟩
    refine R6 hR13 (J9 (by rw[c7];omega)) ?_
    refine⟨_,rs++[q],rfl,by simp[lr],fun j y l g1 g2=>?_,by rw[f6];simp,(B12.same s13).put rb rc,((k11.trans k12).trans (C8.of_same s13)).put hR'⟩
    rcases U5 g1 with ⟨_,f1⟩ | ⟨hj,f1⟩
    ·exact(((hr j y l f1 g2).ts (C8.ts k12 B11)).ts (A0.ts s13)).ts (L4.put hR13)
    ·rw[hj,lr,M6 hi]at g2
     cases g2
     subst f1
     exact r13.ts (L4.put hR13)
   ·exists C4 (c9r (by intro z;have:=V.int.inj z;omega)) ?_
    specialize a3j ?_
    exists ⟨O3 hR11,?_⟩
    refine c4k B11 e11 (by omega) (by omega) hss P11 fun v H12 r12 B12 k12=>?_
    obtain⟨pv,xv,rfl,_⟩:=id r12
    ext
    have hR12:=k12.1 _ _ hR11 rb
    have hm2:(N[i].length == 2)=false:=by simpa using h2
    refine R6 hR12 (J9 (by rw[c7];omega)) ?_
    refine⟨_,rs++[pv],rfl,by simp[lr],fun j y l g1 g2=>?_,by rw[f6];simp,B12.put rb rc,(k11.trans k12).put hR'⟩
    rcases U5 g1 with ⟨_,f1⟩ | ⟨hj,f1⟩
    ·exact((hr j y l f1 g2).ts (C8.ts k12 B11)).ts (L4.put hR12)
    ·rw[hj,lr,M6 hi]at g2
     cases g2
     subst f1
     rw[hm2]
     exact r12.ts (L4.put hR12)
 ·rintro _ H11 ⟨y7,rs,rfl,lr,hr,hR11,B11,k11⟩
  rw[c7]at lr
  ext
  refine E6 (by simp) fun p H12 hp12 e12 s12=>?_
  have N11:a1v H11 sa:=⟨ss,k11.1 _ _ e9 nsb,by intro z;subst z;simp at l7;omega,by omega,hss⟩
  exact k p R' na sa D N H12 e12 ((⟨rs,hR11,by rw[lr,q2],hr⟩:W1 H11 R' N).same s12) ((n9.kept B9 v4.two k11).same s12) (N11.same s12) ⟨ss,s12 _ _ (k11.1 _ _ e9 nsb),by omega,by omega⟩ ((P9.kept B9 k11).same s12) v4 lN nRD nnaD (B11.same s12) ((k09.trans k11).trans (C8.of_same s12))
theorem b7k{K:Fg}{E:XK}(hn:G7 H a N)(h400:N.length<=400)(k:∀a' ns H',H a'=none->H' a'=some (.lst ((ns:List Addr).map V.ref))->(∀y∈ns,H y=none/\y≠a'/\∃xs,H' y=some (.lst xs))->G7 H' a' N->A0 H H'->Q (.ref a') H'):a5K K [.ref a] H Q E:=by
 obtain⟨ns,m1,m2,m3⟩:=id hn.ex
 refine⟨rfl,?_⟩
 unfold b5A
 ext
 specialize Z4 (X6 ?_)
 refine⟨a,rfl,⟨_,SqL.of m1⟩,fun np hnp=>?_⟩
 refine a0l (xs:=ns.map V.ref) (fun i ys H8=>∃as:List Addr,ys=as.map V.ref/\as.length=i/\(∀(j:Nat) y l,as[j]? = some y->N[j]? = some l->H8 y=some (.lst (IL l))/\y≠np/\H y=none)/\H8 np=some (.lst ys)/\A0 H H8) ?_ ?_ ?_ ?_ ?_
 ·exact⟨[],rfl,rfl,by simp,f6,D7 hnp⟩
 ·rintro i ys H8 ⟨_,_,_,_,h,_⟩
  exact h
 ·rintro i ys H8 _ ⟨_,_,_,_,_,s8⟩
  exact SqL.of (s8 _ _ m1)
 ·rintro i y ys H8 hy ⟨as,rfl,la,at8,hnp8,s8⟩ R hR
  rw[d4]at hy
  cases hnx:ns[i]? with
  | none=>rw[hnx]at hy;cases hy
  | some nx=>
   rw[hnx]at hy
   cases hy
   have hi:i<N.length:=by rw[<-m2];exact(gI hnx)
   ext
   refine a1F (s8 _ _ (m3 i nx _ hnx (M6 hi))) fun q H9 hq e9 s9=>?_
   have nq:q≠np:=(d3 hnp8 hq).symm
   refine hR _ _ (s9 _ _ hnp8) (J9 (by rw[c7];omega)) ⟨as++[q],by simp,by simp[la],fun j y l g1 g2=>?_,f6,fun b o e=>?_⟩
   ·rcases U5 g1 with ⟨_,f1⟩ | ⟨hj,f1⟩
    ·obtain⟨f2,f3,f4⟩:=at8 j y l f1 g2
     exact⟨by rw[d6 f3];exact s9 _ _ f2,f3,f4⟩
    ·rw[hj,la,M6 hi]at g2
     cases g2
     subst f1
     exact⟨by rw[d6 nq];exact e9,nq,s8.free hq⟩
   ·rw[d6 (d3 e hnp)];exact s9 _ _ (s8 _ _ e)
 ·rintro ys H8 ⟨as,rfl,la,at8,hnp8,s8⟩
  rw[c7,m2]at la
  refine k np as H8 hnp hnp8 (fun y hy=>?_) ⟨as,hnp8,la,fun i y l a b=>(at8 i y l a b).1⟩ s8
  obtain⟨i,hi⟩:=V7.mp hy
  have q:=at8 i y _ hi (M6 (show i<N.length by have:=(gI hi);omega))
  exact⟨q.2.2,q.2.1,_,q.1⟩
theorem big(h:n<=1000000):n<=u8:=I0 h (by rw[a2R];decide)
theorem a7v{K:Fg}{E:XK}(ha:H a=some (.lst xs))(h1:1<=xs.length)(h2:xs.length<=400)(k:Q .non H):a0p K [.ref a,.int 0,.int 1] H Q E:=by
 refine⟨rfl,?_⟩
 unfold a3X
 nofun
 exists a0z (s := "list") (by simp only[a0D,ha]) (by decide) ?_
 exists C4 (by decide) ?_
 exists O8 ha ?_
 exists C4 (c9r (by omega)) ?_
 exists O8 ha ?_
 exists C4 (c9r (by omega)) ?_
 exact k
theorem a4U{K:Fg}{E:XK}(ha:H a=some (.lst (u5 n (V.bl true))))(k:∀H',A0 H H'->Q .non H'):a0i K [.ref a] H Q E:=by
 refine⟨rfl,?_⟩
 unfold a5E
 specialize a0b (a5P ?_)
 refine⟨a,rfl,⟨_,SqL.of ha⟩,?_⟩
 refine b3j n (fun i σ H2=>∃x1 x2,σ=[some (.ref a),x1,x2]/\A0 H H2) ⟨_,_,rfl,A0.refl _⟩ ?_ ?_ ?_
 ·rintro _ H2 ⟨x1,x2,rfl,s2⟩
  exact⟨⟨_,SqL.of (s2 _ _ ha),by simp⟩,k H2 s2⟩
 ·rintro i _ H2 hi ⟨x1,x2,rfl,s2⟩
  exact⟨_,V.bl true,SqL.of (s2 _ _ ha),by rw[L6,if_pos hi]⟩
 ·rintro i _ H2 hi ⟨x1,x2,rfl,s2⟩ x H3 ⟨p,y,hp,rfl,rfl,hy⟩
  have hy:=hy _ (SqL.of (s2 _ _ ha))
  rw[L6,if_pos hi]at hy
  cases hy
  exists a7D (SqT.of f6) ?_
  exists C4 rfl ?_
  exact⟨_,_,rfl,s2.trans (D7 hp)⟩
theorem a8e(n:Nat):u5 n (V.bl true)++[V.bl true]=u5 (n+1) (V.bl true):=by
 rw[a5s]
theorem c5v(h:n=0\/n=1):inV (.int (n:Int)) [.int 0,.int 1]=true:=by
 rcases h with rfl | rfl <;> decide
theorem b1Y{K:Fg}{x:Addr}{l:List Nat}{E:XK}(hv:a9l H v (l.length == 2))(hx:H x=some (.lst (IL l)))(h2:l.length<=2)(hlt:∀t∈l,t<m)(k:∀H',A0 H H'->Q (.bl true) H') :
  a1D K [v,.ref x,.int (m:Int)] H Q E:=by
 obtain⟨p,xs,rfl,hp,_,kd,r,rfl,hk⟩:=hv
 refine⟨rfl,?_⟩
 unfold a7d
 nofun
 exists a0z (s := "list") (by simp only[a0D,hx]) (by decide) ?_
 exists C4 (by decide) ?_
 exact_mod_cast a0x (P:=fun σ H1=>∃w ws,σ=[some (.ref p),some (.ref x),some (.int (m:Int)),some (.ref w)]/\H1 w=some (.tup ws)/\ws.all Q0=true/\inV (.int (l.length:Int)) ws=true/\A0 H H1) ?_ ?_
 rotate_left
 ·intro nx hnx
  ext
  exists F0 hp (R4 _ _) ?_
  by_cases e:kd = "ask"
  ·exists J1 (c9s (by rw[e])) ?_
   refine E6 (by simp) fun w H1 hw e1 s1=>?_
   rw[c9s e]at hk
   have:l.length=2:=by simpa using hk.symm
   exact hnx _ _ ⟨w,_,rfl,e1,rfl,by rw[this];decide,s1⟩
  ·exists C4 (c9r (fun z=>e (V.str.inj z))) ?_
   refine E6 (by simp) fun w H1 hw e1 s1=>?_
   rw[c9r e]at hk
   have:¬l.length=2:=by
    intro z
    rw[z]at hk
    exact absurd hk (by decide)
   exact hnx _ _ ⟨w,_,rfl,e1,rfl,c5v (by omega),s1⟩
 rintro _ H1 ⟨w,ws,rfl,hw,fw,iw,s1⟩
 ext
 exists O8 (s1 _ _ hx) ?_
 rw[P8]
 refine b2O hw rfl fw ?_
 exists ⟨_,rfl,J1 iw ?_⟩
 specialize Z4 (X6 ?_)
 refine⟨x,rfl,⟨_,SqL.of (s1 _ _ hx)⟩,fun D hD=>?_⟩
 refine a0l (xs:=IL l) (fun i ys H2=>ys=u5 i (V.bl true)/\H2 D=some (.lst ys)/\A0 H1 H2) ⟨rfl,f6,D7 hD⟩ ?_ ?_ ?_ ?_
 ·rintro i ys H2 ⟨_,h,_⟩
  exact h
 ·rintro i ys H2 _ ⟨_,_,s2⟩
  exact SqL.of (s2 _ _ (s1 _ _ hx))
 ·rintro i y ys H2 hy ⟨rfl,hD2,s2⟩ R hR
  have hy:(l.map fun(n:Nat)=>V.int (n:Int))[i]? = some y:=hy
  rw[d4]at hy
  cases ht:l[i]? with
  | none=>rw[ht]at hy;cases hy
  | some t=>
   rw[ht]at hy
   cases hy
   have hi:=(gI ht)
   have:=hlt t (mI ht)
   ext
   refine b1H (by omega) (by omega) ?_
   refine hR _ _ hD2 (J9 (by rw[J2];omega)) ⟨a8e i,f6,fun b o e=>?_⟩
   rw[d6 (d3 e hD)];exact s2 _ _ e
 ·rintro ys H2 ⟨rfl,hD2,s2⟩
  ext
  have e:u5 (IL l).length (V.bl true)=(u5 l.length true).map V.bl:=by rw[P8];simp
  rw[e]at hD2
  refine c6O hD2 ?_
  have:(u5 l.length true).all id=true:=by simp
  rw[this]
  exact k H2 (s1.trans s2)
theorem a9c{K:Fg}{E:XK}(hr:W1 H ra N)(hn:G7 H na N)(h400:N.length<=400)(h2:∀l∈N,l.length<=2)(hlt:∀l∈N,∀t∈l,t<N.length)(k:∀H',A0 H H'->Q .non H') :
  a0F K [.ref ra,.ref na] H Q E:=by
 obtain⟨rs,r1,r2,r3⟩:=id hr.ex
 obtain⟨as,a1,a2,a3⟩:=id hn.ex
 refine⟨rfl,?_⟩
 unfold a4R
 nofun
 exists a0z (s := "list") (by simp only[a0D,a1]) (by decide) ?_
 exists C4 (by decide) ?_
 exists O8 a1 ?_
 exists O8 r1 ?_
 exists C4 (by rw[c7,c7,r2,a2];simp) ?_
 specialize b5L (c4a ?_)
 refine⟨ra,na,rfl,⟨_,SqL.of r1⟩,⟨_,SqL.of a1⟩,fun D hD=>?_⟩
 refine c0F N.length (fun i ys H2=>ys=u5 i (V.bl true)/\H2 D=some (.lst ys)/\A0 H H2) ⟨rfl,f6,D7 hD⟩ ?_ ?_ ?_ ?_
 ·rintro i ys H2 ⟨_,h,_⟩
  exact h
 ·rintro ys H2 ⟨rfl,hD2,s2⟩
  exists ⟨⟨_,_,SqL.of (s2 _ _ r1),SqL.of (s2 _ _ a1),.inl (by rw[c7,r2];exact i9 _)⟩,?_⟩
  exact a4U hD2 fun H3 s3=>k H3 (s2.trans s3)
 ·rintro i ys H2 hi ⟨_,_,s2⟩
  have e1:rs[i]? = some (rs[i]'(by omega)):=by simp[r2,hi]
  have e2:as[i]? = some (as[i]'(by omega)):=by simp[a2,hi]
  exact⟨_,_,_,_,SqL.of (s2 _ _ r1),SqL.of (s2 _ _ a1),by rw[d4,e1];rfl,by rw[d4,e2];rfl⟩
 ·rintro i ys H2 hi ⟨rfl,hD2,s2⟩ x H3 ⟨p,y1,y2,hp,rfl,rfl,g1,g2⟩
  obtain⟨rx,e1⟩:∃rx,rs[i]? = some rx:=⟨_,g8 (by omega)⟩
  obtain⟨ax,e2⟩:∃ax,as[i]? = some ax:=⟨_,g8 (by omega)⟩
  have g1:=g1 _ (SqL.of (s2 _ _ r1))
  have g2:=g2 _ (SqL.of (s2 _ _ a1))
  rw[d4,e1]at g1
  rw[d4,e2]at g2
  cases g1
  cases g2
  refine⟨p,_,_,rfl,SqT.of f6,fun R S hR hS=>?_⟩
  have s3:A0 H2 (upd H2 p (.tup [V.ref rx,V.ref ax])):=D7 hp
  obtain⟨H3,hH3⟩:∃H3,H3=upd H2 p (.tup [V.ref rx,V.ref ax]):=⟨_,rfl⟩
  rw[<-hH3]at s3 ⊢
  ext
  exists J1 rfl ?_
  have s03:=s2.trans s3
  exists O8 (s03 _ _ r1) ?_
  have hl:=M6 hi
  rw[c7,r2]
  refine b1Y ((r3 i _ _ e1 hl).ts (A0.ts s03)) (s03 _ _ (a3 i _ _ e2 hl)) (h2 _ (G9 hi)) (hlt _ (G9 hi)) fun H4 s4=>?_
  refine hR _ _ (s4 _ _ (s3 _ _ hD2)) (J9 (by rw[J2];omega)) ⟨a8e i,f6,fun b o e=>?_⟩
  rw[d6 (d3 e hD)];exact s4 _ _ (s03 _ _ e)
def a4k(N:Nt)(k:Nat):Bool:=(N.getD k []).isEmpty
def b0K(N:Nt):List Nat:=(M0 N.length).filter (a4k N)
theorem b7i{k:Nat}(h:N[k]? = some []):k∈b0K N:=by
 refine a2e.mpr ⟨a2E.mpr (gI h),?_⟩
 unfold a4k
 simp[Q5,h]
theorem b2E{K:Fg}{E:XK}(hn:G7 H na N)(h400:N.length<=400)(k:∀a H',H a=none->H' a=some (.lst (IL (b0K N)))->A0 H H'->Q (.ref a) H'):a2j K [.ref na] H Q E:=by
 obtain⟨as,a1,a2,a3⟩:=id hn.ex
 refine⟨rfl,?_⟩
 unfold a8g
 ext
 specialize b5L (a5P ?_)
 refine⟨na,rfl,⟨_,SqL.of a1⟩,fun D hD=>?_⟩
 refine c0F N.length (fun i ys H2=>ys=IL ((M0 i).filter (a4k N))/\H2 D=some (.lst ys)/\A0 H H2) ⟨rfl,f6,D7 hD⟩ ?_ ?_ ?_ ?_
 ·rintro i ys H2 ⟨_,h,_⟩
  exact h
 ·rintro ys H2 ⟨rfl,hD2,s2⟩
  exact⟨⟨_,SqL.of (s2 _ _ a1),by rw[c7,a2];exact i9 _⟩,k D H2 hD hD2 s2⟩
 ·rintro i ys H2 hi ⟨_,_,s2⟩
  exact⟨_,_,SqL.of (s2 _ _ a1),by rw[d4,g8 (show i<as.length by omega)];rfl⟩
 ·rintro i ys H2 hi ⟨rfl,hD2,s2⟩ x H3 ⟨p,y,hp,rfl,rfl,g1⟩
  obtain⟨ax,e1⟩:∃ax,as[i]? = some ax:=⟨_,g8 (by omega)⟩
  have g1:=g1 _ (SqL.of (s2 _ _ a1))
  rw[d4,e1]at g1
  cases g1
  refine⟨p,_,_,rfl,SqT.of f6,fun R S hR hS=>?_⟩
  have s3:A0 H2 (upd H2 p (.tup [V.int (i:Int),V.ref ax])):=D7 hp
  obtain⟨H3,hH3⟩:∃H3,H3=upd H2 p (.tup [V.int (i:Int),V.ref ax]):=⟨_,rfl⟩
  rw[<-hH3]at s3 ⊢
  have s03:=s2.trans s3
  have hl:=M6 hi
  ext
  exists O8 (s03 _ _ (a3 i _ _ e1 hl)) ?_
  have hst:a4k N i=decide (V.int ((IL N[i]).length:Int)=V.int 0):=by
   rw[c3A,P8]
   unfold a4k
   simp only[Q5,hl,a3F]
   cases N[i] with
   | nil=>rfl
   | cons a r=>
    rw[List.isEmpty_cons,eq_comm,decide_eq_false_iff_not,C1]
    omega
  rw[<-hst]
  cases hb:a4k N i with
  | true=>
   exists J1 rfl ?_
   refine hR _ _ (s3 _ _ hD2) (J9 ?_) ⟨?_,f6,fun b o e=>?_⟩
   ·rw[P8]
    have:=a1w (a4k N) (M0 i)
    rw[a7S]at this
    omega
   ·rw[b0u,a2G]
    unfold IL
    rw[E2]
    congr 1
    simp[hb]
   ·rw[d6 (d3 e hD)];exact s03 _ _ e
  | false=>
   refine C4 rfl ?_
   refine hS _ ⟨?_,s3 _ _ hD2,s03⟩
   rw[b0u,a2G]
   simp[hb]
theorem c3y{α:Type}{l:List α}(nd:l.Nodup){i j:Nat}{x:α}(h1:l[i]? = some x)(h2:l[j]? = some x):i=j:=
 (List.getElem?_inj (gI h1) nd).mp (h1.trans h2.symm)
structure a4p(H0 H:Hp)(a:Addr)(as:List Addr)(M:Nt):Prop where
 same:A0 H0 H
 h:H a=some (.lst (as.map V.ref))
 len:as.length=M.length
 nd:as.Nodup
 na:a∉as
 at_:∀(i:Nat) x l,as[i]? = some x->M[i]? = some l->H x=some (.lst (IL l))
 new:H0 a=none/\∀x∈as,H0 x=none
theorem a4p.next(h:a4p H0 H a as M)(s:A0 H H'):a4p H0 H' a as M:=
 ⟨h.same.trans s,s _ _ h.h,h.len,h.nd,h.na,fun i x l e1 e2=>s _ _ (h.at_ i x l e1 e2),h.new⟩
theorem a4p.add(h:a4p H0 H a as M){t p:Nat}{x:Addr}{l:List Nat}(e1:as[t]? = some x)(e2:M[t]? = some l) :
  a4p H0 (upd H x (.lst (IL (l++[p])))) a as (M.set t (l++[p])):=by
 have hx:=mI e1
 have hxa:x≠a:=fun z=>h.na (z ▸ hx)
 refine⟨fun b o e=>by rw[d6 (d3 e (h.new.2 x hx))];exact h.same b o e,by rw[d6 hxa.symm];exact h.h,by rw[T3];exact h.len,h.nd,h.na,fun i y l' f1 f2=>?_,h.new⟩
 by_cases e:i=t
 ·subst e
  rw[e1]at f1
  cases f1
  rw[M8 (gI e2)]at f2
  cases f2
  exact f6
 ·rw[O0 (Ne.symm e)]at f2
  have:y≠x:=by
   rintro rfl
   exact e (c3y h.nd f1 e1)
  rw[d6 this]
  exact h.at_ i y l' f1 f2
theorem a4p.net(h:a4p H0 H a as M):G7 H a M:=⟨as,h.h,h.len,h.at_⟩
theorem a4p.nil(n:H0 a=none)(s:A0 H0 H)(e:H a=some (.lst [])):a4p H0 H a [] []:=⟨s,e,rfl,by simp,by simp,by simp,n,by simp⟩
theorem a4p.snoc(h:a4p H0 H a as M)(hp:H p=none)(ep:H' p=some (.lst (IL [])))(s:A0 H H') :
  a4p H0 (upd H' a (.lst ((as++[p]).map V.ref))) a (as++[p]) (M++[[]]):=by
 have npa:p≠a:=(d3 h.h hp).symm
 have npas:p∉as:=fun z=>by
  obtain⟨i,hi⟩:=V7.mp z
  have hl:i<M.length:=by rw[<-h.len];exact(gI hi)
  have:=h.at_ i p _ hi (M6 hl)
  rw[hp]at this
  cases this
 have fr0:H0 p=none:=h.same.free hp
 refine⟨fun b o e=>by rw[d6 (d3 e h.new.1)];exact s _ _ (h.same b o e),f6,by simp[h.len],?_,?_,fun i x l f1 f2=>?_,h.new.1,fun x hx=>?_⟩
 ·rw[c3e]
  exact⟨h.nd,by simp,fun x hx y hy=>by rw[v9.mp hy];intro z;exact npas (z ▸ hx)⟩
 ·intro z
  rcases C6.mp z with q | q
  ·exact h.na q
  ·exact npa (v9.mp q).symm
 ·rcases U5 f1 with ⟨hi,g1⟩ | ⟨hi,g1⟩
  ·rcases U5 f2 with ⟨hj,g2⟩ | ⟨hj,g2⟩
   ·have:x≠a:=fun z=>h.na (z ▸ mI g1)
    rw[d6 this]
    exact s _ _ (h.at_ i x l g1 g2)
   ·have:=h.len;omega
  ·rcases U5 f2 with ⟨hj,g2⟩ | ⟨hj,g2⟩
   ·have:=h.len;omega
   ·subst g1 g2
    rw[d6 npa]
    exact ep
 ·rcases C6.mp hx with q | q
  ·exact h.new.2 x q
  ·rw[v9.mp q];exact fr0
theorem c1o{t u:Nat}{l l':List Nat}(h:(M.set t l)[u]? = some l'):(u=t/\l'=l)\/(u≠t/\M[u]? = some l'):=by
 by_cases e:u=t
 ·subst e
  have hl:=(gI h)
  rw[T3]at hl
  rw[M8 hl]at h
  exact .inl ⟨rfl,(Option.some.inj h).symm⟩
 ·rw[O0 (Ne.symm e)]at h
  exact .inr ⟨e,h⟩
theorem b6z{K:Fg}{E:XK}(hn:G7 H na N)(h400:N.length<=400)(h2:∀l∈N,l.length<=2)(hlt:∀l∈N,∀t∈l,t<N.length)
  (k:∀a M H',G7 H' a M->M.length=N.length->(∀(p:Nat) (l:List Nat),N[p]? = some l->∀t∈l,∃l',M[t]? = some l'/\p∈l')->(∀l∈M,l.length<=2 * N.length/\∀p∈l,p<N.length)->A0 H H'->Q (.ref a) H'):a4x K [.ref na] H Q E:=by
 obtain⟨ns,a1,a2,a3⟩:=id hn.ex
 refine⟨rfl,?_⟩
 unfold b2y
 exact_mod_cast W2 ?_
 specialize Z4 (X6 ?_)
 refine⟨na,rfl,⟨_,SqL.of a1⟩,fun A hA=>?_⟩
 refine a0l (xs:=ns.map V.ref) (fun i ys H2=>∃as,ys=as.map V.ref/\a4p H H2 A as (u5 i [])) ?_ ?_ ?_ ?_ ?_
 ·exact⟨[],rfl,.nil hA (D7 hA) f6⟩
 ·rintro i ys H2 ⟨as,rfl,I⟩
  exact I.h
 ·rintro i ys H2 _ ⟨as,rfl,I⟩
  exact SqL.of (I.same _ _ a1)
 ·rintro i x ys H2 hx ⟨as,rfl,I⟩ R hR
  have hi:i<N.length:=by
   have:=(gI hx)
   rw[c7,a2]at this
   exact this
  ext
  refine E6 (by simp) fun p H3 hp e3 s3=>?_
  have:=I.len
  rw[J2]at this
  refine hR _ _ (s3 _ _ I.h) (J9 (by rw[c7];omega)) ⟨as++[p],by simp,?_⟩
  have q:=I.snoc hp e3 s3
  rw[show u5 i ([]:List Nat)++[[]]=u5 (i+1) [] from by rw[a5s]]at q
  rw[show as.map V.ref++[V.ref p]=(as++[p]).map V.ref by simp]
  exact q
 rintro ys H2 ⟨as,rfl,I2⟩
 rw[c7,a2]at I2
 ext
 exact_mod_cast W2 ?_
 specialize a0b (a5P ?_)
 refine⟨na,rfl,⟨_,SqL.of (I2.same _ _ a1)⟩,?_⟩
 refine b3j N.length (fun i σ H3=>∃x2 x3 x4 M,σ=[some (.ref na),some (.ref A),x2,x3,x4]/\a4p H H3 A as M/\M.length=N.length/\(∀(p:Nat) (l:List Nat),p<i->N[p]? = some l->∀t∈l,∃l',M[t]? = some l'/\p∈l')/\(∀l∈M,l.length<=2 * i/\∀p∈l,p<N.length)) ?_ ?_ ?_ ?_
 ·exact⟨_,_,_,_,rfl,I2,by simp,by omega,fun l hl=>by rw[List.eq_of_mem_replicate hl];simp⟩
 ·rintro _ H3 ⟨x2,x3,x4,M,rfl,I3,lM,g1,g2⟩
  exists ⟨⟨_,SqL.of (I3.same _ _ a1),by rw[c7,a2];exact i9 _⟩,?_⟩
  exact k A M H3 I3.net lM (fun p l hl=>g1 p l (gI hl) hl) g2 I3.same
 ·rintro i _ H3 hi ⟨x2,x3,x4,M,rfl,I3,lM,g1,g2⟩
  exact⟨_,_,SqL.of (I3.same _ _ a1),by rw[d4,g8 (show i<ns.length by omega)];rfl⟩
 ·rintro i _ H3 hi ⟨x2,x3,x4,M,rfl,I3,lM,g1,g2⟩ x H4 ⟨p,y,hp,rfl,rfl,gy⟩
  obtain⟨nx,e1⟩:∃nx,ns[i]? = some nx:=⟨_,g8 (by omega)⟩
  have gy:=gy _ (SqL.of (I3.same _ _ a1))
  rw[d4,e1]at gy
  cases gy
  refine a7D (SqT.of f6) ?_
  have s4:A0 H3 (upd H3 p (.tup [V.int (i:Int),V.ref nx])):=D7 hp
  obtain⟨H4,hH4⟩:∃H4,H4=upd H3 p (.tup [V.int (i:Int),V.ref nx]):=⟨_,rfl⟩
  rw[<-hH4]at s4 ⊢
  have I4:=I3.next s4
  have hl:=M6 hi
  obtain⟨l,hle⟩:∃l,l=N[i]:=⟨_,rfl⟩
  rw[<-hle]at hl
  have hx:H nx=some (.lst (IL l)):=a3 i nx l e1 hl
  have hll:=h2 l (mI hl)
  specialize a0b (X6 ?_)
  refine⟨nx,rfl,⟨_,SqL.of (I4.same _ _ hx)⟩,a1l (xs:=IL l) (fun j σ H5=>∃x4 M',σ=[some (.ref na),some (.ref A),some (.int (i:Int)),some (.ref nx),x4]/\a4p H H5 A as M'/\M'.length=N.length/\(∀(p:Nat) (l:List Nat),p<i->N[p]? = some l->∀t∈l,∃l',M'[t]? = some l'/\p∈l')/\(∀t∈l.take j,∃l',M'[t]? = some l'/\i∈l')/\(∀l∈M',l.length<=2 * i+j/\∀p∈l,p<N.length)) ?_ ?_ ?_ ?_⟩
  ·exact⟨_,M,rfl,I4,lM,g1,by simp,g2⟩
  ·rintro j σ H5 _ ⟨_,_,_,I5,_⟩
   exact SqL.of (I5.same _ _ hx)
  ·rintro j y _ H5 hy ⟨x4,M',rfl,I5,lM',c1,c2,c3⟩
   have hy:(l.map fun(n:Nat)=>V.int (n:Int))[j]? = some y:=hy
   rw[d4]at hy
   cases ht:l[j]? with
   | none=>rw[ht]at hy;cases hy
   | some t=>
    rw[ht]at hy
    cases hy
    have tm:=mI ht
    have hj:=(gI ht)
    have htn:t<N.length:=hlt l (mI hl) t tm
    ext
    obtain⟨z,hz⟩:∃z,as[t]? = some z:=⟨_,g8 (by have:=I5.len;omega)⟩
    have hMt:=M6 (show t<M'.length by omega)
    have hMz:=I5.at_ t z _ hz hMt
    specialize a3j ?_
    refine J0 I5.h (a0q (by rw[d4,hz];rfl)) ?_
    exists ⟨O3 hMz,?_⟩
    have hb:=c3 _ (G9 (show t<M'.length by omega))
    refine R6 hMz (J9 (by rw[P8];omega)) ?_
    refine⟨_,M'.set t (M'[t]++[i]),rfl,?_,by rw[T3];exact lM',?_,?_,?_⟩
    ·have:=I5.add (p:=i) hz hMt
     rw[show IL M'[t]++[V.int (i:Int)]=IL (M'[t]++[i]) by simp[IL]]
     exact this
    ·intro p' l' hp' hl' u hu
     obtain⟨l'',q1,q2⟩:=c1 p' l' hp' hl' u hu
     by_cases e:u=t
     ·subst e
      rw[hMt]at q1
      cases q1
      exact⟨_,M8 (by omega),M3 _ q2⟩
     ·exact⟨l'',by rw[O0 (Ne.symm e)];exact q1,q2⟩
    ·intro u hu
     rw[P5,ht]at hu
     by_cases e:u=t
     ·subst e
      exact⟨_,M8 (by omega),by simp⟩
     ·rcases C6.mp hu with q | q
      ·obtain⟨l'',q1,q2⟩:=c2 u q
       exact⟨l'',by rw[O0 (Ne.symm e)];exact q1,q2⟩
      ·exact absurd (by simpa using q) e
    ·intro l' hl'
     obtain⟨u,hu⟩:=V7.mp hl'
     rcases c1o hu with ⟨_,rfl⟩ | ⟨_,q⟩
     ·refine⟨by rw[t5,C9];omega,fun p' hp'=>?_⟩
      rcases C6.mp hp' with q | q
      ·exact hb.2 p' q
      ·rw[v9.mp q];exact hi
     ·obtain⟨r1,r2⟩:=c3 l' (mI q)
      exact⟨by omega,r2⟩
  ·rintro _ H5 ⟨x4,M',rfl,I5,lM',c1,c2,c3⟩
   rw[P8,X9]at c2
   refine⟨_,_,x4,M',rfl,I5,lM',fun p' l' hp' hl' t ht=>?_,fun l' hl'=>?_⟩
   ·by_cases e:p'=i
    ·subst e
     rw[hl]at hl'
     cases hl'
     exact c2 t ht
    ·exact c1 p' l' (by omega) hl' t ht
   ·obtain⟨r1,r2⟩:=c3 l' hl'
    rw[P8]at r1
    exact⟨by omega,r2⟩
theorem a8C{K:Fg}{ba la:Addr}{bs:List Nat}{B:Nat}{E:XK}(hb:H ba=some (.lst (IL bs)))(hm:G7 H la M)(h400:M.length<=400)(hB:B<=800)(hl:∀l∈M,l.length<=B/\∀t∈l,t<M.length)(hbs:∀x∈bs,x<M.length)(lb:bs.length<=400)
  (k:∀d S H',H' d=some (.dK (KS S))->S.Nodup->(∀x∈S,x<M.length)->(∀x∈bs,x∈S)->a5q M S->A0 H H'->Q (.ref d) H'):a1W K [.ref ba,.ref la] H Q E:=by
 refine⟨rfl,?_⟩
 unfold a9U
 nofun
 exists b4l fun d H1 hd e1 s1=>?_
 nofun
 exists a1F (s1 _ _ hb) fun w H2 hw e2 s2=>?_
 have s02:=s1.trans s2
 have hw0:H w=none:=s1.free hw
 have ndw:d≠w:=d3 e1 hw
 exact_mod_cast W2 ?_
 exact_mod_cast b5J ?_
 refine⟨fun m σ H3=>∃x4 ws S,σ=[some (.ref ba),some (.ref la),some (.ref d),some (.ref w),x4]/\H3 w=some (.lst (IL ws))/\H3 d=some (.dK (KS S))/\A0 H H3/\S.Nodup/\(∀x∈S,x<M.length)/\(∀x∈ws,x<M.length) /\
  (∀x∈bs,x∈S\/x∈ws)/\(∀k∈S,∀l,M[k]? = some l->∀t∈l,t∈S\/t∈ws)/\ws.length<=400+S.length * B/\m=(M.length - S.length) * (B+1)+ws.length,?_,?_⟩
 ·exact⟨_,_,bs,[],rfl,e2,s2 _ _ e1,s02,by simp,by simp,hbs,fun x hx=>.inr hx,by simp,by omega,rfl⟩
 rintro m _ H3 ⟨x4,ws,S,rfl,hw3,hd3,s3,nd,hS,hws,c1,c2,c3,rfl⟩
 ext
 exists O8 hw3 ?_
 have hSl:=a8Q _ _ nd hS
 rcases a8s ws with rfl | ⟨r,p,rfl⟩
 ·exists C4 (c9r (by rw[P8];simp)) ?_
  refine k d S H3 hd3 nd hS (fun x hx=>(c1 x hx).elim id fun z=>by simp at z) (fun a ha l hl' t ht=>(c2 a ha l hl' t ht).elim id fun z=>by simp at z) s3
 refine J1 (c9s (by rw[P8,t5,C9];omega)) ?_
 have hp:p<M.length:=hws p (by simp)
 have eIL:IL (r++[p])=IL r++[V.int (p:Int)]:=by simp[IL]
 rw[eIL]at hw3
 refine⟨fun σ H4=>∃m' x4 ws S',σ=[some (.ref ba),some (.ref la),some (.ref d),some (.ref w),x4]/\H4 w=some (.lst (IL ws))/\H4 d=some (.dK (KS S'))/\A0 H H4/\S'.Nodup/\(∀x∈S',x<M.length)/\(∀x∈ws,x<M.length) /\
  (∀x∈bs,x∈S'\/x∈ws)/\(∀k∈S',∀l,M[k]? = some l->∀t∈l,t∈S'\/t∈ws)/\ws.length<=400+S'.length * B/\m'=(M.length - S'.length) * (B+1)+ws.length/\m'<(M.length - S.length) * (B+1)+(r++[p]).length,?_,?_⟩
 ·rintro σ' H4 ⟨m',x4,ws,S',e,r1,r2,r3,r4,r5,r6,r7,r8,r9,r10,r11⟩
  exact⟨m',r11,x4,ws,S',e,r1,r2,r3,r4,r5,r6,r7,r8,r9,r10⟩
 nofun
 specialize b5M ?_
 exists ⟨O3 hw3,c3v hw3 ?_⟩
 have sW:A0 H (upd H3 w (.lst (IL r))):=fun b o e=>by rw[d6 (d3 e hw0)];exact s3 b o e
 have hdW:(upd H3 w (.lst (IL r))) d=some (.dK (KS S)):=by rw[d6 ndw];exact hd3
 have hwW:(upd H3 w (.lst (IL r))) w=some (.lst (IL r)):=f6
 obtain⟨H4,hH4⟩:∃H4,H4=upd H3 w (.lst (IL r)):=⟨_,rfl⟩
 rw[<-hH4]at sW hdW hwW ⊢
 rw[t5,C9]at c3 ⊢
 specialize a8B ?_
 obtain⟨o,g1,g2⟩:=a4E hdW p
 refine⟨d,o,rfl,g1,?_⟩
 rw[g2]
 ext
 by_cases hps:p∈S
 ·exists C4 (by rw[c9s hps];rfl) ?_
  refine⟨_,_,r,S,rfl,hwW,hdW,sW,nd,hS,fun x hx=>hws x (M3 _ hx),fun x hx=>?_,fun a ha l hl' t ht=>?_,by omega,rfl,by omega⟩
  ·rcases c1 x hx with z | z
   ·exact .inl z
   ·rcases C6.mp z with q | q
    ·exact .inr q
    ·exact .inl (v9.mp q ▸ hps)
  ·rcases c2 a ha l hl' t ht with z | z
   ·exact .inl z
   ·rcases C6.mp z with q | q
    ·exact .inr q
    ·exact .inl (v9.mp q ▸ hps)
 refine J1 (by rw[c9r hps];rfl) ?_
 obtain⟨xs,y,f1,f2,f3,_⟩:=(hm.same sW).at (M6 hp)
 obtain⟨l,hle⟩:∃l,l=M[p]:=⟨_,rfl⟩
 have hlp:M[p]? = some l:=by rw[hle];exact M6 hp
 rw[<-hle]at f3
 obtain⟨b1,b2⟩:=hl l (mI hlp)
 have hput:a4b S p=S++[p]:=by unfold a4b;rw[if_neg hps]
 have hS1:S.length<M.length:=by
  have:=a8Q _ _ (a7G (k:=p) nd) fun x hx=>(Z5.mp hx).elim (hS x) fun z=>z ▸ hp
  rw[hput,t5,C9]at this
  omega
 exact_mod_cast W2 ?_
 specialize a3g ?_
 refine⟨d,_,rfl,b1M hdW (by omega) p,?_⟩
 rw[hput]
 obtain⟨H5,hH5⟩:∃H5,H5=upd H4 d (.dK (KS (S++[p]))):=⟨_,rfl⟩
 have hd5:H5 d=some (.dK (KS (S++[p]))):=hH5 ▸ f6
 have oth:∀b o,H4 b=some o->b≠d->H5 b=some o:=fun b o e n=>by rw[hH5,d6 n];exact e
 have s5:A0 H H5:=fun b o e=>oth b o (sW b o e) (d3 e hd)
 rw[<-hH5]
 have hw5:=oth w _ hwW (Ne.symm ndw)
 have fx5:=oth _ _ f1 (F6 f1 hdW (by intro z;cases z))
 have fy5:=oth _ _ f3 (F6 f3 hdW (by intro z;cases z))
 ext
 specialize a3j ?_
 exists ⟨O3 hw5,?_⟩
 refine J0 fx5 f2 ?_
 have hSB:S.length * B<=400 * 800:=Nat.mul_le_mul (by omega) hB
 ext
 refine b2P hw5 fy5 (big (by rw[P8,P8];omega)) ?_
 have e6:IL r++IL l=IL (r++l):=by simp[IL]
 rw[e6]
 ext
 have key:(M.length - (S.length+1)) * (B+1)+(B+1)=(M.length - S.length) * (B+1):=by
  rw[<-b7O]
  congr 1
  omega
 refine⟨_,_,r++l,S++[p],rfl,f6,by rw[d6 ndw];exact hd5,fun b o e=>by rw[d6 (d3 e hw0)];exact s5 b o e,hput ▸ a7G nd,fun x hx=>?_,fun x hx=>?_,fun x hx=>?_,fun a ha l' hl' t ht=>?_,?_,rfl,?_⟩
 ·rcases C6.mp hx with q | q
  ·exact hS x q
  ·rw[v9.mp q];exact hp
 ·rcases C6.mp hx with q | q
  ·exact hws x (M3 _ q)
  ·exact b2 x q
 ·rcases c1 x hx with z | z
  ·exact .inl (M3 _ z)
  ·rcases C6.mp z with q | q
   ·exact .inr (M3 _ q)
   ·exact .inl (C2 _ q)
 ·rcases C6.mp ha with q | q
  ·rcases c2 a q l' hl' t ht with z | z
   ·exact .inl (M3 _ z)
   ·rcases C6.mp z with u | u
    ·exact .inr (M3 _ u)
    ·exact .inl (C2 _ u)
  ·rw[v9.mp q,hlp]at hl'
   cases hl'
   exact .inr (C2 _ ht)
 ·rw[t5,t5,C9,b7O]
  omega
 ·rw[t5,t5,C9]
  omega
theorem a9G{K:Fg}{E:XK}(hn:G7 H na N)(hv:a2u N)(k:∀H',A0 H H'->Q .non H'):a0Z K [.ref na] H Q E:=by
 refine⟨rfl,?_⟩
 unfold a5D
 nofun
 exists E6 (by simp) fun p1 H1 hp1 e1 s1=>?_
 exists a8C (bs:=[0]) (B:=2) e1 (hn.same s1) hv.le (by decide) (fun l hl=>⟨hv.two l hl,hv.lt l hl⟩) (by simpa using hv.pos) (by simp) fun d1 S1 H2 hd1 nd1 hS1 hb1 cl1 s2=>?_
 have in1:∀x,Rc N x->x∈S1:=by
  intro x h
  induction h with
  | zero=>exact hb1 0 (by simp)
  | @step a t l _ hl ht ih=>exact cl1 a ih l hl t ht
 nofun
 exists b2E ((hn.same s1).same s2) hv.le fun sa H3 _ e3 s3=>?_
 exists b6z (((hn.same s1).same s2).same s3) hv.le hv.two hv.lt fun ta M H4 m4 lM hM1 hM2 s4=>?_
 have lst:(b0K N).length<=N.length:=by
  have:=a1w (a4k N) (M0 N.length)
  rwa [a7S]at this
 have hle:=hv.le
 refine a8C (bs:=b0K N) (B:=2 * N.length) (s4 _ _ e3) m4 (by omega) (by omega) (fun l hl=>⟨(hM2 l hl).1,by rw[lM];exact(hM2 l hl).2⟩) (fun x hx=>by
  rw[lM]
  exact a2E.mp (a2e.mp hx).1) (by omega) fun d2 S2 H5 hd2 nd2 hS2 hb2 cl2 s5=>?_
 have in2:∀x,Gd N x->x∈S2:=by
  intro x h
  induction h with
  | @stop a h=>exact hb2 a (b7i h)
  | @step a t l h ht _ ih=>
   obtain⟨l',q1,q2⟩:=hM1 a l h t ht
   exact cl2 t ih l' q1 a q2
 have s05:=(((s1.trans s2).trans s3).trans s4).trans s5
 have hd1':H5 d1=_:=s5 _ _ (s4 _ _ (s3 _ _ hd1))
 obtain⟨ys,hy,ly⟩:=(hn.same s05).len
 ext
 specialize a0b (a0G ?_)
 refine O8 hy ?_
 refine⟨N.length,by rw[ly],by omega,by omega,?_⟩
 rw[A7]
 refine Z8 (fun i σ H6=>∃x3,σ=[some (.ref na),some (.ref d1),some (.ref d2),x3]/\H6=H5) ⟨_,rfl,rfl⟩ ?_ ?_
 ·rintro i _ H6 hi ⟨x3,rfl,rfl⟩
  ext
  rw[a0u]
  specialize a8B ?_
  obtain⟨o,g1,g2⟩:=a4E hd1' i
  refine⟨d1,o,rfl,g1,?_⟩
  rw[g2,c9s (in1 i (hv.rc i hi))]
  ext
  exists C4 rfl ?_
  specialize a8B ?_
  obtain⟨o',g1',g2'⟩:=a4E hd2 i
  refine⟨d2,o',rfl,g1',?_⟩
  rw[g2',c9s (in2 i (hv.gd i hi))]
  ext
  exists C4 rfl ?_
  exact⟨_,rfl,rfl⟩
 ·rintro _ H6 ⟨x3,rfl,rfl⟩
  exact k _ s05
abbrev Stp:=Int×Int
variable{s:Stp}
def FST:Stp:=(-1,0)
def a2Z(N:Nt)(p:Nat):List Stp:=(M0 (N.getD p []).length).map fun(a:Nat)=>((p:Int),(a:Int))
def a4Z(N:Nt)(i:Nat):List Stp:=FST::(M0 i).flatMap (a2Z N)
def a1T(N:Nt):List Stp:=a4Z N N.length
def R1(N:Nt)(s:Stp):Nat:=if s=FST then 0 else (N.getD s.1.toNat []).getD s.2.toNat 0
theorem a7f(N:Nt)(i:Nat):a4Z N (i+1)=a4Z N i++a2Z N i:=by
 unfold a4Z
 rw[b0u,List.flatMap_append]
 simp
def a0L(N:Nt)(s:Stp):Prop:=s=FST\/∃(p q:Nat) (l:List Nat) (t:Nat),s=((p:Int),(q:Int))/\N[p]? = some l/\l[q]? = some t
theorem b7q(h:s∈a1T N):a0L N s:=by
 rcases p8.mp h with z | z
 ·exact .inl z
 ·obtain⟨p,hp,q⟩:=List.mem_flatMap.mp z
  have hp:=a2E.mp hp
  obtain⟨a,ha,rfl⟩:=E3.mp q
  have ha:=a2E.mp ha
  have e:N.getD p []=N[p]:=by simp[Q5,hp]
  rw[e]at ha
  exact .inr ⟨p,a,N[p],N[p][a],rfl,M6 hp,by simp⟩
theorem a7H(hv:a2u N)(h:a0L N s):R1 N s<N.length:=by
 unfold R1
 rcases h with rfl | ⟨p,q,l,t,rfl,h1,h2⟩
 ·rw[if_pos rfl];exact hv.pos
 ·split
  ·exact hv.pos
  ·have:(N.getD ((p:Int),(q:Int)).1.toNat []).getD ((p:Int),(q:Int)).2.toNat 0=t:=by
    show(N.getD (p:Int).toNat []).getD (q:Int).toNat 0=t
    rw[A7,A7]
    simp[Q5,h1,h2]
   rw[this]
   exact hv.lt l (mI h1) t (mI h2)
def a0K(K:Fg)(H:Hp)(a:Addr)(s:Stp):Prop:=H a=some (.tup [.int s.1,.int s.2])\/(s=FST/\∀H,SqT K H a [.int (-1),.int 0])
theorem a0K.ts{K:Fg}(h:a0K K H a s)(t:L4 H H'):a0K K H' a s:=by
 rcases h with h | h
 ·exact .inl (t _ _ h)
 ·exact .inr h
theorem a0K.sq{K:Fg}(h:a0K K H a s):SqT K H a [.int s.1,.int s.2]:=by
 rcases h with h | ⟨e,h⟩
 ·exact SqT.of h
 ·subst e;exact h H
structure G5(K:Fg)(H:Hp)(l:Addr)(S:List Stp):Prop where
 ex:∃vs:List Addr,H l=some (.lst (vs.map V.ref))/\vs.length=S.length/\∀(i:Nat) x s,vs[i]? = some x->S[i]? = some s->a0K K H x s
theorem G5.same{K:Fg}{S:List Stp}(h:G5 K H l S)(s:A0 H H'):G5 K H' l S:=by
 obtain⟨vs,h1,h2,h3⟩:=h.ex
 exact⟨vs,s _ _ h1,h2,fun i x t e1 e2=>(h3 i x t e1 e2).ts (A0.ts s)⟩
theorem G5.kept{K:Fg}{S:List Stp}(h:G5 K H l S)(hB:Bag H b c)(k:C8 b H H'):G5 K H' l S:=by
 obtain⟨vs,h1,h2,h3⟩:=h.ex
 exact⟨vs,k.1 _ _ h1 (a1b hB h1),h2,fun i x t e1 e2=>(h3 i x t e1 e2).ts (C8.ts k hB)⟩
theorem G5.put{K:Fg}{y:Addr}{S:List Stp}(h:G5 K H l S)(hy:H y=some (.lst xs))(n:l≠y):G5 K (upd H y (.lst ys)) l S:=by
 obtain⟨vs,h1,h2,h3⟩:=h.ex
 exact⟨vs,by rw[d6 n];exact h1,h2,fun i x t e1 e2=>(h3 i x t e1 e2).ts (L4.put hy)⟩
theorem b2F{K:Fg}{c:Cn}{E:XK}(ck:a9m K c)(hn:G7 H na N)(h400:N.length<=400)(h2:∀l∈N,l.length<=2)
  (k:∀a H',H a=none->G5 K H' a (a1T N)->A0 H H'->Q (.ref a) H'):a2k K c [.ref na] H Q E:=by
 obtain⟨ns,a1,a2,a3⟩:=id hn.ex
 refine⟨rfl,?_⟩
 unfold a8h
 nofun
 exists E6 (by simp) fun D H1 hD e1 s1=>?_
 exact_mod_cast W2 ?_
 specialize a0b (a5P ?_)
 refine⟨na,rfl,⟨_,SqL.of (s1 _ _ a1)⟩,?_⟩
 refine b3j N.length (fun i σ H2=>∃x2 x3 vs,σ=[some (.ref na),some (.ref D),x2,x3]/\H2 D=some (.lst ((vs:List Addr).map V.ref))/\vs.length=(a4Z N i).length/\vs.length<=1+2 * i/\(∀(j:Nat) x s,vs[j]? = some x->(a4Z N i)[j]? = some s->a0K K H2 x s)/\A0 H H2) ?_ ?_ ?_ ?_
 ·refine⟨_,_,[c.a0a],rfl,e1,rfl,by simp,fun j x s f1 f2=>?_,s1⟩
  cases j with
  | zero=>
   cases f1
   cases f2
   exact .inr ⟨rfl,ck.a3y⟩
  | succ j=>simp at f1
 ·rintro _ H2 ⟨x2,x3,vs,rfl,hD2,lv,_,at2,s2⟩
  exists ⟨⟨_,SqL.of (s2 _ _ a1),by rw[c7,a2];exact i9 _⟩,?_⟩
  exact k D H2 hD ⟨vs,hD2,lv,at2⟩ s2
 ·rintro i _ H2 hi ⟨x2,x3,vs,rfl,hD2,lv,_,at2,s2⟩
  exact⟨_,_,SqL.of (s2 _ _ a1),by rw[d4,g8 (show i<ns.length by omega)];rfl⟩
 ·rintro i _ H2 hi ⟨x2,x3,vs,rfl,hD2,lv,lv2,at2,s2⟩ x H3 ⟨p,y,hp,rfl,rfl,gy⟩
  obtain⟨nx,f1⟩:∃nx,ns[i]? = some nx:=⟨_,g8 (by omega)⟩
  have gy:=gy _ (SqL.of (s2 _ _ a1))
  rw[d4,f1]at gy
  cases gy
  refine a7D (SqT.of f6) ?_
  have s3:A0 H2 (upd H2 p (.tup [V.int (i:Int),V.ref nx])):=D7 hp
  obtain⟨H3,hH3⟩:∃H3,H3=upd H2 p (.tup [V.int (i:Int),V.ref nx]):=⟨_,rfl⟩
  rw[<-hH3]at s3 ⊢
  have s03:=s2.trans s3
  have hl:=M6 hi
  obtain⟨l,hle⟩:∃l,l=N[i]:=⟨_,rfl⟩
  rw[<-hle]at hl
  have hll:=h2 l (mI hl)
  have hx:=s03 _ _ (a3 i nx l f1 hl)
  ext
  specialize a3j ?_
  exists ⟨O3 (s3 _ _ hD2),?_⟩
  specialize Z4 (a0G ?_)
  refine O8 hx ?_
  rw[P8]
  refine⟨l.length,rfl,by omega,by omega,fun A hA=>?_⟩
  rw[A7]
  refine a4n (fun j ys H4=>∃ws:List Addr,ys=ws.map V.ref/\ws.length=j/\(∀(q:Nat) x,ws[q]? = some x->H4 x=some (.tup [.int (i:Int),.int (q:Int)]))/\H4 A=some (.lst ys)/\A0 H3 H4) ?_ ?_ ?_ ?_
  ·exact⟨[],rfl,rfl,by simp,f6,D7 hA⟩
  ·rintro j ys H4 ⟨_,_,_,_,h,_⟩
   exact h
  ·rintro j ys H4 hj ⟨ws,rfl,lw,at4,hA4,s4⟩ R hR
   ext
   refine E6 (by simp) fun z H5 hz e5 s5=>?_
   rw[a0u]at e5
   have nzA:z≠A:=(d3 hA4 hz).symm
   refine hR _ _ (s5 _ _ hA4) (J9 (by rw[c7];omega)) ⟨ws++[z],by simp,by simp[lw],fun q x hq=>?_,f6,fun b o e=>?_⟩
   ·rcases U5 hq with ⟨_,g⟩ | ⟨hq',g⟩
    ·have:=s5 _ _ (at4 q x g)
     rw[d6 (F6 this (s5 _ _ hA4) (by intro z;cases z))]
     exact this
    ·subst g
     rw[d6 nzA,e5,hq',lw]
   ·rw[d6 (d3 e hA)];exact s5 _ _ (s4 _ _ e)
  ·rintro ys H4 ⟨ws,rfl,lw,at4,hA4,s4⟩
   ext
   have hD4:H4 D=_:=s4 _ _ (s3 _ _ hD2)
   have s04:=s03.trans s4
   refine b2P hD4 hA4 (big (by rw[c7,c7];omega)) ?_
   rw[<-E2]
   have hon:a2Z N i=(M0 l.length).map fun(a:Nat)=>((i:Int),(a:Int)):=by
    unfold a2Z
    simp[Q5,hl]
   have hU:=a7f N i
   have lon:(a2Z N i).length=l.length:=by rw[hon];simp
   refine⟨_,_,vs++ws,rfl,f6,by rw[hU,t5,t5,lv,lw,lon],by rw[t5];omega,fun j x s g1 g2=>?_,fun b o e=>?_⟩
   ·rw[hU]at g2
    by_cases hj:j<vs.length
    ·rw[W5 hj]at g1
     rw[W5 (by omega)]at g2
     exact((at2 j x s g1 g2).ts (A0.ts (s3.trans s4))).ts (L4.put hD4)
    ·rw[U9 (by omega)]at g1
     rw[U9 (by omega),<-lv,hon,d4]at g2
     have hq:j - vs.length<l.length:=by
      have:=(gI g1)
      omega
     rw[c0V hq]at g2
     cases g2
     have:=at4 _ _ g1
     exact .inl (by rw[d6 (F6 this hD4 (by intro z;cases z))];exact this)
   ·rw[d6 (d3 e hD)];exact s04 _ _ e
def c3B(c:Cn)(H:Hp)(x:Addr)(N:Nt):Prop:=∃dx fs n,H x=some (.ins c.T1 dx fs)/\fs.lookup ("nexts" : Str)=some (V.ref n)/\G7 H n N
theorem eq2(p q:Int):a0X [.int p,.int q] [.int (-1),.int 0]=decide ((p,q)=FST):=by
 unfold a0X
 simp only[C1,a2f,Nat.zero_add,Nat.reduceAdd,Nat.min_self]
 rw[show M0 2=[0,1] from rfl]
 simp only[b3H,c7w,Bool.and_true,Q5,b5n,List.getElem?_cons_succ,a3F,beq_self_eq_true]
 unfold FST
 by_cases h:p = -1
 ·by_cases h':q=0
  ·subst h h';decide
  ·subst h
   simp[eqV,h']
 ·simp[eqV,h]
theorem a7k{K:Fg}{c:Cn}{x:Addr}{E:XK}(ck:a9m K c)(hp:c3B c H x N)(ha:a0K K H a s)(hs:a0L N s)(k:Q (.int (R1 N s:Nat)) H):W9 K c [.ref x,.ref a] H Q E:=by
 refine⟨rfl,?_⟩
 unfold a3B
 nofun
 refine⟨_,_,_,_,rfl,rfl,ha.sq,ck.a3y H,rfl,rfl,?_⟩
 rw[eq2]
 ext
 by_cases e:s=FST
 ·exists J1 (c9s e) ?_
  unfold R1 at k
  rw[if_pos e]at k
  exact k
 ·exists C4 (c9r e) ?_
  rcases hs with z | ⟨p,q,l,t,rfl,h1,h2⟩
  ·exact(e z).elim
  rcases ha with ha | ⟨z,_⟩
  rotate_left
  ·exact(e z).elim
  obtain⟨dx,fs,n,hx,hf,hn⟩:=hp
  specialize b2N ?_
  exists ⟨x,_,dx,fs,_,rfl,hx,ck.a0O,ck.Y4,hf,?_⟩
  refine F0 ha (R4 _ _) ?_
  obtain⟨xs,y,f1,f2,f3,_⟩:=hn.at h1
  exists J0 f1 f2 ?_
  refine F0 ha (a0m _ _ _) ?_
  refine J0 f3 (c3C h2) ?_
  have:R1 N ((p:Int),(q:Int))=t:=by
   unfold R1
   rw[if_neg e]
   show(N.getD (p:Int).toNat []).getD (q:Int).toNat 0=t
   rw[A7,A7]
   simp[Q5,h1,h2]
  rw[this]at k
  exact k
structure c0Q(K:Fg)(H0 H:Hp)(e:Addr)(es:List Addr)(P:List (List Stp)):Prop where
 same:A0 H0 H
 h:H e=some (.lst (es.map V.ref))
 len:es.length=P.length
 nd:es.Nodup
 na:e∉es
 at_:∀(i:Nat) y S,es[i]? = some y->P[i]? = some S->G5 K H y S
 new:H0 e=none/\∀y∈es,H0 y=none
theorem c0Q.add{K:Fg}{e:Addr}{es:List Addr}{P:List (List Stp)}(h:c0Q K H0 H e es P){t:Nat}{y:Addr}{S:List Stp}{vs:List Addr}(e1:es[t]? = some y)(e2:P[t]? = some S)(hy:H y=some (.lst (vs.map V.ref)))
  (lv:vs.length=S.length) (at2:∀(i:Nat) x s,vs[i]? = some x->S[i]? = some s->a0K K H x s) (ha:a0K K H a s):c0Q K H0 (upd H y (.lst ((vs++[a]).map V.ref))) e es (P.set t (S++[s])):=by
 have hm:=mI e1
 have ye:y≠e:=fun z=>h.na (z ▸ hm)
 refine⟨fun b o q=>by rw[d6 (d3 q (h.new.2 y hm))];exact h.same b o q,by rw[d6 ye.symm];exact h.h,by rw[T3];exact h.len,h.nd,h.na,fun i z S' f1 f2=>?_,h.new⟩
 by_cases q:i=t
 ·subst q
  rw[e1]at f1
  cases f1
  rw[M8 (gI e2)]at f2
  cases f2
  refine⟨vs++[a],f6,by simp[lv],fun j x s' g1 g2=>?_⟩
  rcases U5 g1 with ⟨_,k1⟩ | ⟨j1,k1⟩
  ·rcases U5 g2 with ⟨_,k2⟩ | ⟨j2,k2⟩
   ·exact(at2 j x s' k1 k2).ts (L4.put hy)
   ·omega
  ·rcases U5 g2 with ⟨_,k2⟩ | ⟨j2,k2⟩
   ·omega
   ·subst k1 k2
    exact ha.ts (L4.put hy)
 ·rw[O0 (Ne.symm q)]at f2
  have:z≠y:=by
   rintro rfl
   exact q (c3y h.nd f1 e1)
  exact(h.at_ i z S' f1 f2).put hy this
structure c7U(K:Fg)(c:Cn)(H:Hp)(x:Addr)(N:Nt):Prop where
 ex:∃dx r n e es,H x=some (.ins c.T1 dx [("rows",.ref r),("nexts",.ref n),("entries",.ref e)])/\W1 H r N/\G7 H n N/\H e=some (.lst ((es:List Addr).map V.ref))/\es.length=N.length /\
  ∀(t:Nat) y,es[t]? = some y->G5 K H y ((a1T N).filter fun s=>decide (R1 N s=t))
structure a1m(K:Fg)(c:Cn)(Z:Addr->Prop)(rs:List Addr)(H:Hp)(x:Addr)(N:Nt):Prop where
 ex:∃dx r n e es ns,H x=some (.ins c.T1 dx [("rows",.ref r),("nexts",.ref n),("entries",.ref e)])/\(W1 H r N/\H r=some (.lst (rs.map V.ref)))/\H n=some (.lst ((ns:List Addr).map V.ref))/\ns.length=N.length/\(∀(i:Nat) y l,ns[i]? = some y->N[i]? = some l->H y=some (.lst (IL l))) /\
  H e=some (.lst ((es:List Addr).map V.ref))/\es.length=N.length/\(∀(t:Nat) y,es[t]? = some y->G5 K H y ((a1T N).filter fun s=>decide (R1 N s=t)))/\∀z,Z z->z≠r/\z≠n/\z≠e/\z∉ns/\z∉es
theorem a1m.put{K:Fg}{c:Cn}{x z:Addr}(h:a1m K c Z rs H x N)(hz:Z z)(hl:H z=some (.lst xs)):a1m K c Z rs (upd H z (.lst ys)) x N:=by
 obtain⟨dx,r,n,e,es,ns,h1,⟨h2,h2r⟩,h3,h4,h5,h6,h7,h8,h9⟩:=h.ex
 obtain⟨z1,z2,z3,z4,z5⟩:=h9 z hz
 refine⟨dx,r,n,e,es,ns,by rw[d6 (F6 h1 hl (by intro z;cases z))];exact h1,⟨?_,by rw[d6 z1.symm];exact h2r⟩,by rw[d6 z2.symm];exact h3,h4,fun i y l a b=>?_,by rw[d6 z3.symm];exact h6,h7,fun t y q=>(h8 t y q).put hl fun u=>z5 (u ▸ mI q),h9⟩
 ·obtain⟨rs',r1,r2,r3⟩:=h2.ex
  exact⟨rs',by rw[d6 z1.symm];exact r1,r2,fun i y l a b=>(r3 i y l a b).ts (L4.put hl)⟩
 ·rw[d6 (show y≠z from fun u=>z4 (u ▸ mI a))]
  exact h5 i y l a b
theorem a1m.same{K:Fg}{c:Cn}{x:Addr}(h:a1m K c Z rs H x N)(s:A0 H H'):a1m K c Z rs H' x N:=by
 obtain⟨dx,r,n,e,es,ns,h1,⟨h2,h2r⟩,h3,h4,h5,h6,h7,h8,h9⟩:=h.ex
 exact⟨dx,r,n,e,es,ns,s _ _ h1,⟨h2.same s,s _ _ h2r⟩,s _ _ h3,h4,fun i y l a b=>s _ _ (h5 i y l a b),s _ _ h6,h7,fun t y q=>(h8 t y q).same s,h9⟩
theorem a1m.kept{K:Fg}{c:Cn}{x:Addr}(h:a1m K c Z rs H x N)(hB:Bag H b d)(h2':∀l∈N,l.length<=2)(k:C8 b H H'):a1m K c Z rs H' x N:=by
 obtain⟨dx,r,n,e,es,ns,h1,⟨h2,h2r⟩,h3,h4,h5,h6,h7,h8,h9⟩:=h.ex
 obtain⟨bs,hb⟩:=hB.lst
 refine⟨dx,r,n,e,es,ns,k.1 _ _ h1 (F6 h1 hb (by intro z;cases z)),⟨h2.kept hB k,k.1 _ _ h2r (a1b hB h2r)⟩,k.1 _ _ h3 (a1b hB h3),h4,fun i y l a b=>?_,k.1 _ _ h6 (a1b hB h6),h7,fun t y q=>(h8 t y q).kept hB k,h9⟩
 have q:=h5 i y l a b
 exact k.1 _ _ q (a8v hB q (by rw[P8];have:=h2' l (mI b);omega))
theorem G7.ins{H:Hp}{a x C dx:Addr}{N:Nt}{fs:List (Str×V)}{o:HO}(h:G7 H a N)(hx:H x=some (.ins C dx fs)):G7 (upd H x o) a N:=by
 obtain⟨as,q1,q2,q3⟩:=h.ex
 exact⟨as,by rw[d6 (F6 q1 hx (by intro z;cases z))];exact q1,q2,fun j y l e1 e2=>by
  have q:=q3 j y l e1 e2
  rw[d6 (F6 q hx (by intro z;cases z))];exact q⟩
theorem L4.ins{H:Hp}{x C dx:Addr}{fs:List (Str×V)}{o:HO}(hx:H x=some (.ins C dx fs)):L4 H (upd H x o):=fun a xs e=>by
 rw[d6 (F6 e hx (by intro z;cases z))];exact e
theorem W1.ins{H:Hp}{a x C dx:Addr}{N:Nt}{fs:List (Str×V)}{o:HO}(h:W1 H a N)(hx:H x=some (.ins C dx fs)):W1 (upd H x o) a N:=by
 obtain⟨as,q1,q2,q3⟩:=h.ex
 exact⟨as,by rw[d6 (F6 q1 hx (by intro z;cases z))];exact q1,q2,fun j y l e1 e2=>(q3 j y l e1 e2).ts (L4.ins hx)⟩
theorem b6C(h:∀l∈N,l.length<=2):(a1T N).length<=1+2 * N.length:=by
 have go:∀i,i<=N.length->(a4Z N i).length<=1+2 * i:=by
  intro i
  induction i with
  | zero=>intro _;show 1<=1;exact i9 _
  | succ i ih=>
   intro hi
   rw[a7f,t5]
   have:=ih (by omega)
   have h2:(a2Z N i).length<=2:=by
    unfold a2Z
    rw[c7,a7S]
    have e:N.getD i []=N[i]:=by simp[Q5,show i<N.length by omega]
    rw[e]
    exact h _ (G9 _)
   omega
 exact go _ (i9 _)
theorem b4Y{S:List Stp}{f:Stp->Nat}{i t:Nat}(h:S[i]? = some s):(S.take (i+1)).filter (fun s=>decide (f s=t))=(S.take i).filter (fun s=>decide (f s=t))++(if f s=t then [s] else []):=by
 rw[P5,h,a2G]
 congr 1
 by_cases e:f s=t
 ·rw[if_pos e];simp[e]
 ·rw[if_neg e];simp[e]
theorem b1j{K:Fg}{c:Cn}{x:Addr}{E:XK}(ck:a9m K c)(hrs:H ra=some (.lst (rs.map V.ref)))(hr:W1 H ra N)(hn:G7 H na N)(hv:a2u N)(hx:H x=some (.ins c.T1 dx []))
  (k:∀H',a1m K c (fun z=>∃o,H z=some o/\z≠x) rs H' x N->(∀b o,H b=some o->b≠x->H' b=some o)->Q .non H'):a1E K c [.ref x,.ref ra,.ref na] H Q E:=by
 obtain⟨rs',r1,r2,r3⟩:=id hr.ex
 obtain rfl:rs'=rs:=by
  rw[hrs]at r1
  exact(Y7 (f:=V.ref) (fun a b h=>V.ref.inj h) |>.mp (HO.lst.inj (Option.some.inj r1))).symm
 obtain⟨ns,n1,n2,n3⟩:=id hn.ex
 have hpos:=hv.pos
 have h400:=hv.le
 refine⟨rfl,?_⟩
 unfold a7e
 nofun
 exists a7v r1 (by rw[c7];omega) (by rw[c7];omega) ?_
 nofun
 specialize Z4 (X6 ?_)
 refine⟨ra,rfl,⟨_,SqL.of r1⟩,fun D hD=>?_⟩
 refine a0l (xs:=rs'.map V.ref) (fun i ys H2=>ys=u5 i (V.bl true)/\H2 D=some (.lst ys)/\A0 H H2) ⟨rfl,f6,D7 hD⟩ ?_ ?_ ?_ ?_
 ·rintro i ys H2 ⟨_,h,_⟩
  exact h
 ·rintro i ys H2 _ ⟨_,_,s2⟩
  exact SqL.of (s2 _ _ r1)
 ·rintro i y ys H2 hy ⟨rfl,hD2,s2⟩ R hR
  rw[d4]at hy
  cases hrx:rs'[i]? with
  | none=>rw[hrx]at hy;cases hy
  | some rx=>
   rw[hrx]at hy
   cases hy
   have hi:i<N.length:=by rw[<-r2];exact(gI hrx)
   ext
   refine b7p ck ((r3 i rx _ hrx (M6 hi)).ts (A0.ts s2)) fun H3 s3=>?_
   refine hR _ _ (s3 _ _ hD2) (J9 (by rw[J2];omega)) ⟨a8e i,f6,fun b o e=>?_⟩
   rw[d6 (d3 e hD)];exact s3 _ _ (s2 _ _ e)
 rintro ys H2 ⟨rfl,hD2,s2⟩
 ext
 refine a4U hD2 fun H3 s3=>?_
 have s03:=s2.trans s3
 ext
 nofun
 refine a9c (hr.same s03) (hn.same s03) h400 hv.two hv.lt fun H4 s4=>?_
 have s04:=s03.trans s4
 ext
 nofun
 refine a9G (hn.same s04) hv fun H5 s5=>?_
 have s05:=s04.trans s5
 ext
 exact_mod_cast W2 ?_
 specialize b4j ?_
 refine a1F (s05 _ _ r1) fun rp H6 hrp e6 s6=>?_
 have s06:=s05.trans s6
 ext
 refine⟨x,_,dx,[],rfl,s06 _ _ hx,ck.a0O,ck.a1I,by simp,?_⟩
 obtain⟨H7,hH7⟩:∃H7,H7=upd H6 x (.ins c.T1 dx (a2h "rows" (.ref rp) [])):=⟨_,rfl⟩
 have x7:H7 x=some (.ins c.T1 dx [("rows",.ref rp)]):=hH7 ▸ f6
 have f7:∀b o,H6 b=some o->b≠x->H7 b=some o:=fun b o e n=>by rw[hH7,d6 n];exact e
 have rows7:W1 H7 rp N:=by
  have q:W1 H6 rp N:=⟨rs',e6,r2,fun i y l a b=>(r3 i y l a b).ts (A0.ts s06)⟩
  rw[hH7]
  exact q.ins (s06 _ _ hx)
 have net7:G7 H7 na N:=by rw[hH7];exact(hn.same s06).ins (s06 _ _ hx)
 have ra7:H7 ra=some (.lst (rs'.map V.ref)):=f7 _ _ (s06 _ _ r1) (F6 r1 hx (by intro z;cases z))
 rw[<-hH7]
 clear hH7
 exact_mod_cast W2 ?_
 exact_mod_cast b4j ?_
 exact_mod_cast Z4 (X6 ?_)
 obtain⟨ns',m1,m2,m3⟩:=id net7.ex
 ext
 refine⟨na,rfl,⟨_,SqL.of m1⟩,fun np hnp=>?_⟩
 refine a0l (xs:=ns'.map V.ref) (fun i ys H8=>∃as:List Addr,ys=as.map V.ref/\as.length=i/\(∀(j:Nat) y l,as[j]? = some y->N[j]? = some l->H8 y=some (.lst (IL l))/\y≠np)/\H8 np=some (.lst ys)/\A0 H7 H8/\∀y∈as,H7 y=none) ?_ ?_ ?_ ?_ ?_
 ·exact⟨[],rfl,rfl,by simp,f6,D7 hnp,by simp⟩
 ·rintro i ys H8 ⟨_,_,_,_,h,_⟩
  exact h
 ·rintro i ys H8 _ ⟨_,_,_,_,_,s8,_⟩
  exact SqL.of (s8 _ _ m1)
 ·rintro i y ys H8 hy ⟨as,rfl,la,at8,hnp8,s8,fr8⟩ R hR
  rw[d4]at hy
  cases hnx:ns'[i]? with
  | none=>rw[hnx]at hy;cases hy
  | some nx=>
   rw[hnx]at hy
   cases hy
   have hi:i<N.length:=by rw[<-m2];exact(gI hnx)
   ext
   refine a1F (s8 _ _ (m3 i nx _ hnx (M6 hi))) fun q H9 hq e9 s9=>?_
   have nq:q≠np:=(d3 hnp8 hq).symm
   refine hR _ _ (s9 _ _ hnp8) (J9 (by rw[c7];omega)) ⟨as++[q],by simp,by simp[la],fun j y l g1 g2=>?_,f6,fun b o e=>?_,fun y hy=>?_⟩
   ·rcases U5 g1 with ⟨_,f1⟩ | ⟨hj,f1⟩
    ·obtain⟨f2,f3⟩:=at8 j y l f1 g2
     exact⟨by rw[d6 f3];exact s9 _ _ f2,f3⟩
    ·rw[hj,la,M6 hi]at g2
     cases g2
     subst f1
     exact⟨by rw[d6 nq];exact e9,nq⟩
   ·rw[d6 (d3 e hnp)];exact s9 _ _ (s8 _ _ e)
   ·rcases C6.mp hy with z | z
    ·exact fr8 y z
    ·rw[v9.mp z];exact s8.free hq
 rintro ys H8 ⟨as,rfl,la,at8,hnp8,s8,fr8⟩
 rw[c7,m2]at la
 have net8:G7 H8 np N:=⟨as,hnp8,la,fun i y l a b=>(at8 i y l a b).1⟩
 ext
 refine⟨x,_,dx,_,rfl,s8 _ _ x7,ck.a0O,ck.Y4,by simp,?_⟩
 obtain⟨H9,hH9⟩:∃H9,H9=upd H8 x (.ins c.T1 dx (a2h "nexts" (.ref np) [("rows",.ref rp)])):=⟨_,rfl⟩
 have x9:H9 x=some (.ins c.T1 dx [("rows",.ref rp),("nexts",.ref np)]):=by
  rw[hH9,f6]
  simp only[a2h]
  rw[if_neg (by decide)]
 have f9:∀b o,H8 b=some o->b≠x->H9 b=some o:=fun b o e n=>by rw[hH9,d6 n];exact e
 have rows9:W1 H9 rp N:=by rw[hH9];exact(rows7.same s8).ins (s8 _ _ x7)
 have net9:G7 H9 np N:=by rw[hH9];exact net8.ins (s8 _ _ x7)
 have ra9:H9 ra=some (.lst (rs'.map V.ref)):=f9 _ _ (s8 _ _ ra7) (F6 ra7 x7 (by intro z;cases z))
 rw[<-hH9]
 clear hH9
 exact_mod_cast W2 ?_
 exact_mod_cast b4j ?_
 specialize Z4 (X6 ?_)
 refine⟨ra,rfl,⟨_,SqL.of ra9⟩,fun ep hep=>?_⟩
 refine a0l (xs:=rs'.map V.ref) (fun i ys H10=>∃es,ys=es.map V.ref/\a4p H9 H10 ep es (u5 i [])) ?_ ?_ ?_ ?_ ?_
 ·exact⟨[],rfl,.nil hep (D7 hep) f6⟩
 ·rintro i ys H10 ⟨es,rfl,I⟩
  exact I.h
 ·rintro i ys H10 _ ⟨es,rfl,I⟩
  exact SqL.of (I.same _ _ ra9)
 ·rintro i y ys H10 hy ⟨es,rfl,I⟩ R hR
  have hi:i<N.length:=by
   have:=(gI hy)
   rw[c7,r2]at this
   exact this
  ext
  refine E6 (by simp) fun p H11 hp e11 s11=>?_
  have:=I.len
  rw[J2]at this
  refine hR _ _ (s11 _ _ I.h) (J9 (by rw[c7];omega)) ⟨es++[p],by simp,?_⟩
  have q:=I.snoc hp e11 s11
  rw[show u5 i ([]:List Nat)++[[]]=u5 (i+1) [] from by rw[a5s]]at q
  rw[show es.map V.ref++[V.ref p]=(es++[p]).map V.ref by simp]
  exact q
 rintro ys H10 ⟨es,rfl,I10⟩
 rw[c7,r2]at I10
 ext
 have x10:=I10.same _ _ x9
 refine⟨x,_,dx,_,rfl,x10,ck.a0O,ck.a0s,by simp,?_⟩
 obtain⟨F,hF⟩:∃F:List (Str×V),F=([("rows",.ref rp),("nexts",.ref np),("entries",.ref ep)]:List (Str×V)):=⟨_,rfl⟩
 have hput:a2h "entries" (.ref ep) [("rows",.ref rp),("nexts",.ref np)]=F:=by
  rw[hF]
  simp only[a2h]
  rw[if_neg (by decide),if_neg (by decide)]
 rw[hput]
 obtain⟨H11,hH11⟩:∃H11,H11=upd H10 x (.ins c.T1 dx F):=⟨_,rfl⟩
 obtain⟨H0,hH0⟩:∃H0,H0=upd H9 x (.ins c.T1 dx F):=⟨_,rfl⟩
 have x0:H0 x=some (.ins c.T1 dx F):=hH0 ▸ f6
 have f0:∀b o,H9 b=some o->b≠x->H0 b=some o:=fun b o e n=>by rw[hH0,d6 n];exact e
 have rows0:W1 H0 rp N:=by rw[hH0];exact rows9.ins x9
 have net0:G7 H0 np N:=by rw[hH0];exact net9.ins x9
 have np0:H0 np=some (.lst (as.map V.ref)):=by
  have:=f9 _ _ hnp8 (F6 hnp8 (s8 _ _ x7) (by intro z;cases z))
  exact f0 _ _ this (F6 this x9 (by intro z;cases z))
 have rp0:H0 rp=some (.lst (rs'.map V.ref)):=by
  have q:=s8 _ _ (f7 _ _ e6 (F6 e6 (s06 _ _ hx) (by intro z;cases z)))
  have q:=f9 _ _ q (F6 q (s8 _ _ x7) (by intro z;cases z))
  exact f0 _ _ q (F6 q x9 (by intro z;cases z))
 have at0:∀(i:Nat) y l,as[i]? = some y->N[i]? = some l->H0 y=some (.lst (IL l)):=fun i y l a b=>by
  have q:=(at8 i y l a b).1
  have q:=f9 _ _ q (F6 q (s8 _ _ x7) (by intro z;cases z))
  exact f0 _ _ q (F6 q x9 (by intro z;cases z))
 have old9:∀b o,H b=some o->b≠x->H9 b=some o:=fun b o e n=>f9 _ _ (s8 _ _ (f7 _ _ (s06 _ _ e) n)) n
 have ent11:c0Q K H0 H11 ep es (u5 N.length []):=by
  have nxe:x≠ep:=d3 x9 hep
  have nxes:∀y∈es,x≠y:=fun y hy=>d3 x9 (I10.new.2 y hy)
  refine⟨fun b o e=>?_,by rw[hH11,d6 nxe.symm];exact I10.h,by rw[J2];have:=I10.len;rwa [J2]at this,I10.nd,I10.na,fun i y S a b=>?_,by rw[hH0,d6 nxe.symm];exact hep,fun y hy=>by rw[hH0,d6 (nxes y hy).symm];exact I10.new.2 y hy⟩
  ·rw[hH0]at e
   rw[hH11]
   by_cases q:b=x
   ·subst q
    rw[f6]at e ⊢
    exact e
   ·rw[d6 q]at e ⊢
    exact I10.same _ _ e
  ·have hi:=(gI b)
   rw[J2]at hi
   have q:=I10.at_ i y [] a (by rw[L6,if_pos hi])
   rw[L6,if_pos hi]at b
   cases b
   refine⟨[],?_,rfl,by simp⟩
   rw[hH11,d6 (F6 q x10 (by intro z;cases z))]
   exact q
 have old:∀b o,H b=some o->b≠x->H0 b=some o:=fun b o e n=>f0 _ _ (f9 _ _ (s8 _ _ (f7 _ _ (s06 _ _ e) n)) n) n
 rw[<-hH11]
 clear hH11 hH0 I10 x10 f0 f9 x9 ra9 net9 rows9
 specialize a0b (X6 ?_)
 specialize b2N ?_
 exists ⟨x,_,dx,F,.ref np,rfl,ent11.same _ _ x0,ck.a0O,ck.Y4,by rw[hF];rfl,?_⟩
 refine b2F ck (net0.same ent11.same) h400 hv.two fun sl H12 hsl S12 s12=>?_
 obtain⟨vs,v1,v2,v3⟩:=id S12.ex
 have nsl:sl∉es:=fun z=>by
  obtain⟨i,hi⟩:=V7.mp z
  have hil:i<N.length:=by
   have:=ent11.len
   rw[J2]at this
   rw[<-this];exact(gI hi)
  obtain⟨ws,w1,_⟩:=(ent11.at_ i sl [] hi (by rw[L6,if_pos hil])).ex
  rw[hsl]at w1
  cases w1
 refine⟨sl,rfl,⟨_,SqL.of v1⟩,a1l (xs:=vs.map V.ref) (fun i σ H13=>∃x3 P,σ=[some (.ref x),some (.ref ra),some (.ref na),x3]/\c0Q K H0 H13 ep es P/\P.length=N.length/\(∀t,t<N.length->P[t]? = some (((a1T N).take i).filter fun s=>decide (R1 N s=t)))/\G5 K H13 sl (a1T N)/\H13 sl=some (.lst (vs.map V.ref))) ?_ ?_ ?_ ?_⟩
 ·refine⟨_,u5 N.length [],rfl,⟨ent11.same.trans s12,s12 _ _ ent11.h,ent11.len,ent11.nd,ent11.na,fun i y S a b=>(ent11.at_ i y S a b).same s12,ent11.new⟩,by simp,fun t ht=>by rw[L6,if_pos ht];simp,S12,v1⟩
 ·rintro i σ H13 _ ⟨_,_,_,_,_,_,_,h⟩
  exact SqL.of h
 ·rintro i y _ H13 hy ⟨x3,P,rfl,I13,lP,hP,S13,hsl13⟩
  rw[d4]at hy
  cases hvx:vs[i]? with
  | none=>rw[hvx]at hy;cases hy
  | some vx=>
   rw[hvx]at hy
   cases hy
   obtain⟨ws,w1,w2,w3⟩:=S13.ex
   have ews:ws=vs:=by
    rw[hsl13]at w1
    have:=Y7 (f:=V.ref) (fun a b h=>V.ref.inj h) |>.mp (HO.lst.inj (Option.some.inj w1))
    exact this.symm
   subst ews
   have hi:i<(a1T N).length:=by rw[<-w2];exact(gI hvx)
   obtain⟨s,hs⟩:∃s,(a1T N)[i]? = some s:=⟨_,g8 hi⟩
   have hst:=w3 i vx s hvx hs
   have hm:=mI hs
   have his:=b7q hm
   have hlt:=a7H hv his
   have x13:=I13.same _ _ x0
   ext
   specialize a3j ?_
   specialize b2N ?_
   refine⟨x,_,dx,F,.ref ep,rfl,x13,ck.a0O,ck.a0s,by rw[hF];rfl,?_⟩
   specialize b9e ?_
   exists ⟨x,dx,F,rfl,x13,by rw[hF];rfl,?_⟩
   refine a7k ck ⟨dx,F,np,x13,by rw[hF];rfl,net0.same I13.same⟩ hst his ?_
   obtain⟨z,hz⟩:∃z,es[R1 N s]? = some z:=⟨_,g8 (by have:=I13.len;omega)⟩
   refine J0 I13.h (a0q (by rw[d4,hz];rfl)) ?_
   have hPt:=hP _ hlt
   obtain⟨us,u1,u2,u3⟩:=(I13.at_ _ z _ hz hPt).ex
   exists ⟨O3 u1,?_⟩
   have hul:us.length<=i:=by
    rw[u2]
    refine I0 (a1w _ _) ?_
    rw[J4];omega
   have hlen1:(a1T N).length<=1000:=by
    rw[<-w2]
    have:(a1T N).length<=1+2 * N.length:=b6C hv.two
    omega
   refine R6 u1 (J9 (by rw[c7];omega)) ?_
   have add:=I13.add (a:=vx) (s:=s) hz hPt u1 u2 u3 hst
   rw[show us.map V.ref++[V.ref vx]=(us++[vx]).map V.ref by simp]
   have nz:sl≠z:=fun q=>nsl (q ▸ mI hz)
   refine⟨_,_,rfl,add,by rw[T3];exact lP,fun t ht=>?_,S13.put u1 nz,by rw[d6 nz];exact hsl13⟩
   rw[b4Y hs]
   by_cases q:R1 N s=t
   ·subst q
    rw[M8 (by omega),if_pos rfl]
   ·rw[O0 q,if_neg q,b0w]
    exact hP t ht
 ·rintro _ H13 ⟨x3,P,rfl,I13,lP,hP,S13,hsl13⟩
  have f8:∀b o,H b=some o->b≠x->H7 b=some o:=fun b o e n=>f7 _ _ (s06 _ _ e) n
  refine k H13 ⟨dx,rp,np,ep,es,as,hF ▸ I13.same _ _ x0,⟨rows0.same I13.same,I13.same _ _ rp0⟩,I13.same _ _ np0,la,fun i y l a b=>I13.same _ _ (at0 i y l a b),I13.h,by rw[I13.len,lP],fun t y hy=>?_,fun z ⟨o,ho,hzx⟩=>⟨d3 (s05 _ _ ho) hrp,d3 (f8 _ _ ho hzx) hnp,d3 (old9 _ _ ho hzx) hep,fun q=>d3 (f8 _ _ ho hzx) (fr8 z q) rfl,fun q=>d3 (old _ _ ho hzx) (I13.new.2 z q) rfl⟩⟩ fun b o e n=>I13.same _ _ (old b o e n)
  have ht:t<N.length:=by
   have:=(gI hy)
   have:=I13.len
   omega
  have q:=I13.at_ t y _ hy (hP t ht)
  rw[c7,v2,X9]at q
  exact q
structure c7Y(H:Hp)(d:Addr)(ds:List V):Prop where
 h:H d=some (.tup ds)
 ex:∃k v1 v2,ds=[.str k,v1,v2]/\OpN v1/\OpN v2
def b7M(H:Hp)(p:Addr)(xs:List V):Prop:=H p=some (.tup xs)/\a5o H xs
theorem b7M.ts(h:b7M H p xs)(t:L4 H H'):b7M H' p xs:=⟨t _ _ h.1,h.2.ts t⟩
theorem a9l.x{a:Bool}(h:a9l H (.ref p) a):∃xs,b7M H p xs:=by
 obtain⟨q,xs,e,h1,h2,_⟩:=h
 cases e
 exact⟨xs,h1,h2⟩
theorem a5o.head(h:a5o H xs):∃k r,xs=.str k::r:=by cases h <;> exact⟨_,_,rfl⟩
def sbV(xs:List V):Option Str:=match xs with
 | .str k :: .str n::_=>if k=("set" : Str)\/k=("copy" : Str)\/k=("take" : Str)then some n else none
 | _=>none
def nmV(o:Option Str):V:=match o with
 | some s=>.str s
 | none=>.non
section
variable {K:Fg}{E:XK}
theorem b0d(hr:b7M H p xs)(k:∀H',A0 H H'->Q (nmV (sbV xs)) H'):a2N K [.ref p] H Q E:=by
 obtain⟨hp,rS⟩:=id hr
 refine⟨rfl,?_⟩
 unfold b2z
 obtain⟨k0,r,rfl⟩:=rS.head
 ext
 exists F0 hp (R4 _ _) ?_
 refine E6 (by simp) fun l H1 hl e1 s1=>?_
 refine b2O e1 rfl rfl ?_
 refine⟨_,rfl,?_⟩
 have hp1:=s1 _ _ hp
 have k1:=k H1 s1
 cases rS with
 | set n p2 nm d2=>
  exists J1 (by decide +kernel) ?_
  exact F0 hp1 (a0m _ _ _) k1
 | copy n v nm o=>
  exists J1 (by decide +kernel) ?_
  exact F0 hp1 (a0m _ _ _) k1
 | take n nm=>
  exists J1 (by decide +kernel) ?_
  exact F0 hp1 (a0m _ _ _) k1
 | tell v o=>
  exists C4 (by decide +kernel) ?_
  rw[show sbV [.str "tell",v]=none by rcases o with ⟨s,rfl,_⟩ | ⟨i,rfl,_⟩ <;> rfl]at k1
  exact k1
 | ask v o=>
  exists C4 (by decide +kernel) ?_
  rw[show sbV [.str "ask",v]=none by rcases o with ⟨s,rfl,_⟩ | ⟨i,rfl,_⟩ <;> rfl]at k1
  exact k1
 | skip=>
  exists C4 (by decide +kernel) ?_
  exact k1
end
theorem c6A{P:Addr->Prop}(h:ta σ H fun x H1=>∃a kvs,x=.ref a/\H1 a=some (.dK kvs)/\(P a->∀ob,R (Itk ob a kvs) (upd H1 a (.frz ob (.dK kvs))))):b4T P ta σ H R:=h
theorem b5T:∀(l m:List Str),l.Nodup->(∀x∈l,x∈m)->l.length<=m.length
 | [],m,_,_=>K0 _
 | x::l,m,nd,h=>by
  obtain⟨n1,n2⟩:=K6.mp nd
  have hx:=h x (K5 ..)
  have:=b5T l (m.erase x) n2 fun y hy=>(b7W (fun e=>n1 (by rw[<-e];exact hy))).mpr (h y (E1 _ hy))
  rw[a3G hx]at this
  have:=a4I hx
  rw[C1]
  omega
section
def a9k(H:Hp)(rs:List Addr)(RC:Nat->List V):Prop:=∀(i:Nat) p,rs[i]? = some p->b7M H p (RC i)
theorem a9k.ts(h:a9k H rs RC)(t:L4 H H'):a9k H' rs RC:=fun i p e=>(h i p e).ts t
theorem b9k(hR:W1 H ra N)(hra:H ra=some (.lst (rs.map V.ref))):∃RC,a9k H rs RC:=by
 obtain⟨rs',r1,r2,r3⟩:=hR.ex
 obtain rfl:rs'=rs:=by
  rw[hra]at r1
  exact(Y7 (f:=V.ref) (fun a b h=>V.ref.inj h) |>.mp (HO.lst.inj (Option.some.inj r1))).symm
 refine⟨fun i=>match rs'[i]? with
  | some p=>(match H p with
   | some (.tup xs)=>xs
   | _=>[])
  | none=>[],fun i p hp=>?_⟩
 have hi:=(gI hp)
 obtain⟨xs,hx⟩:=(r3 i p _ hp (M6 (by omega))).x
 simp only[hp,hx.1]
 exact hx
theorem c4t{s:Str}(h:H l=some (.lst (ss.map V.str)))(k:Q (.bl (decide (s∈ss))) H):qIn false (.str s) (.ref l) H Q:=by
 have e:inV (.str s) (ss.map V.str)=decide (s∈ss):=by
  unfold inV
  rw[a0N,c3F,decide_eq_true_iff]
  constructor
  ·rintro⟨z,hz,e⟩
   obtain⟨u,hu,rfl⟩:=E3.mp hz
   have:u=s:=by simpa[eqV]using e
   rw[<-this];exact hu
  ·intro h
   exact⟨_,E3.mpr ⟨s,h,rfl⟩,by simp[eqV]⟩
 unfold qIn
 simp only[h]
 refine⟨rfl,?_,?_⟩
 ·rw[O1]
  intro x hx
  obtain⟨u,_,rfl⟩:=E3.mp hx
  rfl
 ·rw[e];exact k
theorem c4s{s:Str}(h:H l=some (.lst (ss.map V.str)))(k:Q (.bl (!decide (s∈ss))) H):qIn true (.str s) (.ref l) H Q:=by
 have z:=c4t (Q:=fun v _=>v=.bl (decide (s∈ss))) (s:=s) h rfl
 unfold qIn at z ⊢
 simp only[h]at z ⊢
 refine⟨z.1,z.2.1,?_⟩
 have e:=V.bl.inj z.2.2
 have e:inV (.str s) (ss.map V.str)=decide (s∈ss):=e
 show Q (.bl (!inV (.str s) (ss.map V.str))) H
 rw[e];exact k
end
theorem c4e{ti:TE}(h:to σ H fun x H1=>ti σ H1 fun y H2=>∃a v,x=.ref a/\a3I H2 a y (some v)/\Q v H2):b5F to ti σ H Q:=h
structure b0s(c:Cn)(H:Hp)(x:Addr)(N:Nt)(rs:List Addr):Prop where
 ex:∃dx fs n r,H x=some (.ins c.T1 dx fs)/\fs.lookup ("nexts" : Str)=some (V.ref n)/\G7 H n N/\fs.lookup ("rows" : Str)=some (V.ref r)/\H r=some (.lst (rs.map V.ref))/\rs.length=N.length
theorem b0s.x{c:Cn}{x:Addr}(h:b0s c H x N rs):c3B c H x N:=by
 obtain⟨dx,fs,n,r,h1,h2,h3,_⟩:=h.ex
 exact⟨dx,fs,n,h1,h2,h3⟩
theorem b0s.same{c:Cn}{x:Addr}(h:b0s c H x N rs)(s:A0 H H'):b0s c H' x N rs:=by
 obtain⟨dx,fs,n,r,h1,h2,h3,h4,h5,h6⟩:=h.ex
 exact⟨dx,fs,n,r,s _ _ h1,h2,h3.same s,h4,s _ _ h5,h6⟩
theorem a1m.r{K:Fg}{c:Cn}{x:Addr}(h:a1m K c Z rs H x N):b0s c H x N rs:=by
 obtain⟨dx,r,n,e,es,ns,h1,⟨h2,h2r⟩,h3,h4,h5,h6,h7,h8,_⟩:=h.ex
 refine⟨dx,_,n,r,h1,rfl,⟨ns,h3,h4,h5⟩,rfl,h2r,?_⟩
 obtain⟨rs',q1,q2,_⟩:=h2.ex
 rw[h2r]at q1
 have:=congrArg a9N (HO.lst.inj (Option.some.inj q1))
 rw[c7,c7]at this
 omega
abbrev Sto:=List (Str×Int)
variable{S0:Sto}
def SD(S:Sto):List (Key×V):=S.map fun p=>(Sum.inr p.1,.int p.2)
def a9D(S:Sto)(s:Str):Int:=match S with
 | []=>0
 | p::r=>if p.1=s then p.2 else a9D r s
def a2a(S:Sto)(n:Str)(i:Int):Sto:=match S with
 | []=>[(n,i)]
 | p::r=>if p.1=n then (p.1,i)::r else p::a2a r n i
def bdS(S:Sto):Prop:=(S.map (·.1)).Nodup/\∀p∈S,0<=p.2/\p.2<1000000000000
def a0C(S:Sto)(v:V):Int:=match v with
 | .str s=>a9D S s
 | .int i=>i
 | _=>0
def wv(kd:Str)(x y:Int):Int:=if kd = "plus" then (x+y) % 1000000000000 else if kd = "minus" then (x - y) % 1000000000000 else if kd = "times" then x * y % 1000000000000 else if kd = "less" then (if x<y then 1 else 0)else (if x=y then 1 else 0)
inductive Rw
 | set (n k:Str) (a b:V) | copy (n:Str) (v:V) | take (n:Str) | tell (v:V) | ask (v:V) | skip
variable{w:Rw}
def RwS(H:Hp)(xs:List V)(w:Rw):Prop:=match w with
 | .set n k a b=>∃q,xs=[.str "set",.str n,.ref q]/\H q=some (.tup [.str k,a,b])/\OpN a/\OpN b/\NmS n
 | .copy n v=>xs=[.str "copy",.str n,v]/\OpN v/\NmS n
 | .take n=>xs=[.str "take",.str n]/\NmS n
 | .tell v=>xs=[.str "tell",v]/\OpN v
 | .ask v=>xs=[.str "ask",v]/\OpN v
 | .skip=>xs=[.str "skip"]
structure Rs where
 S:Sto
 L:List Int
 T:List Int
 W:List Stp
 p:Stp
 e:Bool
def doR(w:Rw)(S:Sto)(L T:List Int):Sto×List Int×List Int:=match w with
 | .set n k a b=>(a2a S n (wv k (a0C S a) (a0C S b)),L,T)
 | .copy n v=>(a2a S n (a0C S v),L,T)
 | .take n=>(a2a S n (L.getLast?.getD 0),L.dropLast,T)
 | .tell v=>(S,L,T++[a0C S v])
 | _=>(S,L,T)
def a1X(w:Rw)(S:Sto):Int:=match w with
 | .ask v=>if a0C S v=0 then 1 else 0
 | _=>0
def st1(N:Nt)(W:Nat->Rw)(r:Rs):Rs:=
 let t:=R1 N r.p
 let d:=doR (W t) r.S r.L r.T
 ⟨d.1,d.2.1,d.2.2,r.W++[r.p],((t:Int),a1X (W t) d.1),decide ((N.getD t []).length=0)⟩
def rn(N:Nt)(W:Nat->Rw):Nat->Rs->Rs
 | 0,r=>r
 | m+1,r=>if r.e=true then r else rn N W m (st1 N W r)
section
variable {S:Sto}{n s:Str}
theorem c0L:a2X (SD S) (Sum.inr s)=none/\a9D S s=0\/a2X (SD S) (Sum.inr s)=some (.int (a9D S s)):=by
 induction S with
 | nil=>exact .inl ⟨rfl,rfl⟩
 | cons p r ih=>
  show a2X ((Sum.inr p.1,.int p.2)::SD r) _=none/\_\/a2X ((Sum.inr p.1,.int p.2)::SD r) _=_
  unfold a9D
  by_cases e:p.1=s
  ·rw[a3V (by rw[e]),if_pos e];exact .inr rfl
  ·rw[a3W (by intro z;exact e (Sum.inr.inj z)),if_neg e];exact ih
theorem b6M{kv:Key×V}{r:List (Key×V)}{k:Key}{x:V}:a2g (kv::r) k x=if kv.1=k then (kv.1,x)::r.map (fun q=>if q.1=k then (q.1,x)else q)else kv::a2g r k x:=by
 unfold a2g
 rw[Z6]
 by_cases e:kv.1=k
 ·rw[if_pos e,if_pos (by rw[c9s e];rfl),F8,if_pos e]
 ·rw[if_neg e,c9r e,c7p]
  by_cases a:(r.any fun kv=>decide (kv.1=k))=true
  ·rw[if_pos a,if_pos a,F8,if_neg e]
  ·rw[if_neg a,if_neg a];rfl
theorem b5i(nd:(S.map (·.1)).Nodup):a2g (SD S) (Sum.inr n) (.int i)=SD (a2a S n i):=by
 induction S with
 | nil=>rfl
 | cons p r ih=>
  obtain⟨n1,n2⟩:=K6.mp nd
  show a2g ((Sum.inr p.1,.int p.2)::SD r) _ _=SD (a2a (p::r) n i)
  rw[b6M]
  unfold a2a
  by_cases e:p.1=n
  ·rw[if_pos (by rw[e]),if_pos e]
   show _=(Sum.inr p.1,V.int i)::SD r
   congr 1
   refine(a6g fun q hq=>?_).trans (b7X _)
   obtain⟨u,hu,rfl⟩:=E3.mp hq
   exact if_neg fun z=>n1 (E3.mpr ⟨u,hu,(Sum.inr.inj z).trans e.symm⟩)
  ·rw[if_neg (by intro z;exact e (Sum.inr.inj z)),if_neg e,ih n2];rfl
theorem a8H:(a2a S n i).length<=S.length+1:=by
 induction S with
 | nil=>exact i9 _
 | cons p r ih=>
  unfold a2a
  split
  ·simp
  ·rw[C1,C1];omega
theorem b6N:∀x,x∈(a2a S n i).map (·.1)↔x∈S.map (·.1)\/x=n:=by
 intro x
 induction S with
 | nil=>simp[a2a]
 | cons p r ih=>
  unfold a2a
  split
  ·rename_i e
   simp only[F8,p8]
   constructor
   ·intro h;exact .inl h
   ·rintro(h | h)
    ·exact h
    ·exact .inl (h.trans e.symm)
  ·simp only[F8,p8,ih]
   constructor
   ·rintro(h | h | h)
    ·exact .inl (.inl h)
    ·exact .inl (.inr h)
    ·exact .inr h
   ·rintro((h | h) | h)
    ·exact .inl h
    ·exact .inr (.inl h)
    ·exact .inr (.inr h)
theorem bdS.put(h:bdS S)(h0:0<=i)(h1:i<1000000000000):bdS (a2a S n i):=by
 induction S with
 | nil=>exact⟨by simp[a2a],fun p hp=>by rw[show a2a [] n i=[(n,i)] from rfl,v9]at hp;rw[hp];exact⟨h0,h1⟩⟩
 | cons p r ih=>
  obtain⟨a,b⟩:=h
  obtain⟨n1,n2⟩:=K6.mp a
  unfold a2a
  by_cases e:p.1=n
  ·rw[if_pos e]
   exact⟨a,fun q hq=>(p8.mp hq).elim (fun z=>by rw[z];exact⟨h0,h1⟩) fun z=>b q (E1 _ z)⟩
  ·rw[if_neg e]
   obtain⟨c,d⟩:=ih ⟨n2,fun q hq=>b q (E1 _ hq)⟩
   refine⟨K6.mpr ⟨fun z=>?_,c⟩,fun q hq=>(p8.mp hq).elim (fun z=>by rw[z];exact b p (K5 ..)) (d q)⟩
   rcases(b6N (S:=r) p.1).mp z with z | z
   ·exact n1 z
   ·exact e z
theorem bdS.get(h:bdS S):0<=a9D S s/\a9D S s<1000000000000:=by
 induction S with
 | nil=>exact⟨(by decide:(0:Int)<=0),(by decide:(0:Int)<1000000000000)⟩
 | cons p r ih=>
  obtain⟨a,b⟩:=h
  unfold a9D
  split
  ·exact b p (K5 ..)
  ·exact ih ⟨(K6.mp a).2,fun q hq=>b q (E1 _ hq)⟩
theorem bdS.wof(h:bdS S)(o:OpN v):0<=a0C S v/\a0C S v<1000000000000:=by
 rcases o with ⟨s,rfl,_⟩ | ⟨i,rfl,h0,h1⟩
 ·exact h.get
 ·exact⟨h0,h1⟩
theorem c6q{k:Str}{x y:Int}:0<=wv k x y/\wv k x y<1000000000000:=by
 unfold wv
 split
 ·omega
 split
 ·omega
 split
 ·exact⟨T6 _ (by decide),Q7 _ (by decide)⟩
 split <;> split <;> omega
theorem RwS.ts(h:RwS H xs w)(t:L4 H H'):RwS H' xs w:=by
 cases w with
 | set n k a b=>obtain⟨q,h1,h2,h3⟩:=h;exact⟨q,h1,t _ _ h2,h3⟩
 | _=>exact h
theorem a5o.rw(h:a5o H xs):∃w,RwS H xs w:=by
 cases h with
 | set n p nm d=>obtain⟨k,a,b,h,o1,o2,_⟩:=d;exact⟨.set n k a b,p,rfl,h,o1,o2,nm⟩
 | copy n v nm o=>exact⟨.copy n v,rfl,o,nm⟩
 | take n nm=>exact⟨.take n,rfl,nm⟩
 | tell v o=>exact⟨.tell v,rfl,o⟩
 | ask v o=>exact⟨.ask v,rfl,o⟩
 | skip=>exact⟨.skip,rfl⟩
end
section
variable {K:Fg}{S:Sto}{v1 v2:V}{kd:Str}{E:XK}
theorem Y5(a b:Str):(decide (V.str a=V.str b)=true)↔a=b:=⟨fun h=>V.str.inj (of_decide_eq_true h),fun h=>c9s (congrArg V.str h)⟩
theorem b9g{td ty tx:TE}(h:td σ H fun x H1=>∃a,x=.ref a/\IsD H1 a/\ty σ H1 fun y H2=>tx σ H2 fun z H3=>∃o,a3I H3 a y o/\Q (o.getD z) H3):a8m td ty tx σ H Q:=h
theorem a0w(hS:H a=some (.dK (SD S)))(o:OpN v)(k:Q (.int (a0C S v)) H):X2 K [v,.ref a] H Q E:=by
 refine⟨rfl,?_⟩
 unfold a8f
 nofun
 rcases o with ⟨x,rfl,_⟩ | ⟨n,rfl,_⟩
 ·refine a0z (s := "str") rfl (by decide) ?_
  refine⟨_,rfl,?_⟩
  exists J1 (by decide) ?_
  specialize b9g ?_
  exists ⟨a,rfl,.inl ⟨_,.inl hS⟩,?_⟩
  refine⟨_,a3I.k (k:=Sum.inr x) hS,?_⟩
  have k:Q (.int (a9D S x)) H:=k
  rcases c0L (S:=S) (s:=x)with ⟨e,z⟩ | e
  ·rw[e];rw[z]at k;exact k
  ·rw[e];exact k
 ·refine a0z (s := "int") rfl (by decide) ?_
  refine⟨_,rfl,?_⟩
  exists C4 (by decide) ?_
  exact k
theorem b8t(hp:H p=some (.tup [.str kd,v1,v2]))(hS:H a=some (.dK (SD S)))(bd:bdS S)(o1:OpN v1)(o2:OpN v2)(k:Q (.int (wv kd (a0C S v1) (a0C S v2))) H):a5G K [.ref p,.ref a] H Q E:=by
 obtain⟨x0,x1⟩:=bd.wof o1
 obtain⟨y0,y1⟩:=bd.wof o2
 refine⟨rfl,?_⟩
 unfold b5u
 nofun
 exists F0 hp (R4 _ _) ?_
 nofun
 exists F0 hp (a0m _ _ _) ?_
 exists a0w hS o1 ?_
 nofun
 exists F0 hp (a6O _ _ _ _) ?_
 refine a0w hS o2 ?_
 generalize a0C S v1=x at *
 generalize a0C S v2=y at *
 unfold wv at k
 ext
 nofun
 refine Y2 (fun e=>?_) (fun e=>?_)
 ·rw[if_pos ((Y5 _ _).mp e)]at k
  ext
  exact W3 (by decide) k
 rw[if_neg (fun z=>e ((Y5 _ _).mpr z))]at k
 ext
 nofun
 refine Y2 (fun e=>?_) (fun e=>?_)
 ·rw[if_pos ((Y5 _ _).mp e)]at k
  ext
  exact W3 (by decide) k
 rw[if_neg (fun z=>e ((Y5 _ _).mpr z))]at k
 ext
 nofun
 refine Y2 (fun e=>?_) (fun e=>?_)
 ·rw[if_pos ((Y5 _ _).mp e)]at k
  ext
  exists W3 (.inl (by omega)) ?_
  exact W3 (by decide) k
 rw[if_neg (fun z=>e ((Y5 _ _).mpr z))]at k
 ext
 nofun
 refine Y2 (fun e=>?_) (fun e=>?_)
 ·rw[if_pos ((Y5 _ _).mp e)]at k
  ext
  refine Y2 (fun e=>?_) (fun e=>?_)
  ·rw[if_pos (by simpa using e)]at k
   ext
   exact k
  ·rw[if_neg (by simpa using e)]at k
   ext
   exact k
 rw[if_neg (fun z=>e ((Y5 _ _).mpr z))]at k
 ext
 refine Y2 (fun e=>?_) (fun e=>?_)
 ·rw[if_pos (by simpa using e)]at k
  ext
  exact k
 ·rw[if_neg (by simpa using e)]at k
  ext
  exact k
def b4a(w:Rw)(S:Sto)(L:List Int):Option (Str×Int):=match w with
 | .set n k a b=>some (n,wv k (a0C S a) (a0C S b))
 | .copy n v=>some (n,a0C S v)
 | .take n=>some (n,L.getLast?.getD 0)
 | _=>none
def c0n(w:Rw)(L:List Int):List Int:=match w with
 | .take _=>L.dropLast
 | _=>L
theorem c3r(h:RwS H xs w):sbV xs=(b4a w S L).map (·.1):=by
 cases w with
 | set n k a b=>obtain⟨q,rfl,_⟩:=h;rfl
 | copy n v=>obtain⟨rfl,_⟩:=h;rfl
 | take n=>obtain⟨rfl,_⟩:=h;rfl
 | tell v=>obtain⟨rfl,o⟩:=h;rcases o with ⟨s,rfl,_⟩ | ⟨i,rfl,_⟩ <;> rfl
 | ask v=>obtain⟨rfl,o⟩:=h;rcases o with ⟨s,rfl,_⟩ | ⟨i,rfl,_⟩ <;> rfl
 | skip=>cases h;rfl
theorem b5I{n:Str}(h:RwS H xs w)(bd:bdS S)(bl:∀x∈L,0<=x/\x<1000000000000)(e:b4a w S L=some (n,i)):0<=i/\i<1000000000000:=by
 cases w with
 | set n k a b=>cases e;exact c6q
 | copy n v=>cases e;exact bd.wof h.2.1
 | take n=>
  cases e
  cases z:L.getLast? with
  | none=>exact⟨by decide,by decide⟩
  | some x=>exact bl x (List.mem_of_getLast? z)
 | _=>cases e
theorem b0F{n:Str}(hp:H p=some (.tup xs))(h:RwS H xs w)(hS:H a=some (.dK (SD S)))(bd:bdS S)(hL:H l=some (.lst (L.map V.int)))(e:b4a w S L=some (n,i))
  (k:∀H',H' l=some (.lst ((c0n w L).map V.int))->(∀b o,b≠l->H b=some o->H' b=some o)->Q (.int i) H'):a1B K [.ref p,.ref a,.ref l] H Q E:=by
 refine⟨rfl,?_⟩
 unfold a7b
 nofun
 cases w with
 | set n k0 a0 b0=>
  obtain⟨q,rfl,hq,o1,o2,nm⟩:=h
  cases e
  exists F0 hp (R4 _ _) ?_
  exists J1 (by decide) ?_
  exists F0 hp (a6O _ _ _ _) ?_
  exact b8t hq hS bd o1 o2 (k H hL fun b o _ e=>e)
 | copy n v=>
  obtain⟨rfl,o,nm⟩:=h
  cases e
  exists F0 hp (R4 _ _) ?_
  exists C4 (by decide) ?_
  nofun
  exists F0 hp (R4 _ _) ?_
  exists J1 (by decide) ?_
  exists F0 hp (a6O _ _ _ _) ?_
  exact a0w hS o (k H hL fun b o _ e=>e)
 | take n=>
  obtain⟨rfl,nm⟩:=h
  cases e
  exists F0 hp (R4 _ _) ?_
  exists C4 (by decide) ?_
  nofun
  exists F0 hp (R4 _ _) ?_
  exists C4 (by decide) ?_
  exists O8 hL ?_
  rcases List.eq_nil_or_concat L with rfl | ⟨L',x,rfl⟩
  ·exists C4 (by decide) ?_
   exact k H hL fun b o _ e=>e
  ·exists J1 (by simp) ?_
   specialize b5M ?_
   rw[a4V,E2]at hL
   refine⟨O3 hL,c3v hL ?_⟩
   have k':=k (upd H l (.lst (L'.map V.int))) (by rw[f6];show _=some (HO.lst (((L'.concat x).dropLast).map V.int));rw[a4V,List.dropLast_concat]) (fun b o nb e=>by rw[d6 nb];exact e)
   rw[a4V,b7Y]at k'
   exact k'
 | _=>cases e
theorem a8q{t:Nat}(hp:H p=some (.tup xs))(h:RwS H xs w)(hS:H a=some (.dK (SD S)))(k:∀q H',H q=none->H' q=some (.tup [.int (t:Int),.int (a1X w S)])->A0 H H'->Q (.ref q) H'):a0E K [.int (t:Int),.ref p,.ref a] H Q E:=by
 refine⟨rfl,?_⟩
 unfold a4Q
 nofun
 cases w with
 | set n k0 a0 b0=>
  obtain⟨q0,rfl,_⟩:=h
  exists F0 hp (R4 _ _) ?_
  refine C4 (by decide) ?_
  exists C4 (by decide) ?_
  refine E6 (by simp) fun q H1 hq e1 s1=>?_
  exact k q H1 hq e1 s1
 | copy n v=>
  obtain⟨rfl,_⟩:=h
  exists F0 hp (R4 _ _) ?_
  refine C4 (by decide) ?_
  exists C4 (by decide) ?_
  refine E6 (by simp) fun q H1 hq e1 s1=>?_
  exact k q H1 hq e1 s1
 | take n=>
  obtain⟨rfl,_⟩:=h
  exists F0 hp (R4 _ _) ?_
  refine C4 (by decide) ?_
  exists C4 (by decide) ?_
  refine E6 (by simp) fun q H1 hq e1 s1=>?_
  exact k q H1 hq e1 s1
 | tell v=>
  obtain⟨rfl,_⟩:=h
  exists F0 hp (R4 _ _) ?_
  refine C4 (by decide) ?_
  exists C4 (by decide) ?_
  refine E6 (by simp) fun q H1 hq e1 s1=>?_
  exact k q H1 hq e1 s1
 | skip=>
  obtain rfl:=h
  exists F0 hp (R4 _ _) ?_
  refine C4 (by decide) ?_
  exists C4 (by decide) ?_
  refine E6 (by simp) fun q H1 hq e1 s1=>?_
  exact k q H1 hq e1 s1
 | ask v=>
  obtain⟨rfl,o⟩:=h
  exists F0 hp (R4 _ _) ?_
  exists J1 (by decide) ?_
  exists F0 hp (a0m _ _ _) ?_
  exists a0w hS o ?_
  have k:∀q H',H q=none->H' q=some (.tup [.int (t:Int),.int (if a0C S v=0 then 1 else 0)])->A0 H H'->Q (.ref q) H':=k
  by_cases z:a0C S v=0
  ·rw[if_pos z]at k
   exists J1 (by rw[z];rfl) ?_
   refine E6 (by simp) fun q H1 hq e1 s1=>?_
   exact k q H1 hq e1 s1
  ·rw[if_neg z]at k
   exists C4 (c9r fun q=>z (V.int.inj q)) ?_
   refine E6 (by simp) fun q H1 hq e1 s1=>?_
   exact k q H1 hq e1 s1
end
theorem c5s(r n e:Addr)(m:Str)(h:m∉(["rows","nexts","entries"]:List Str)):([("rows",.ref r),("nexts",.ref n),("entries",.ref e)]:List (Str×V)).lookup m=none:=by
 rw[List.lookup_eq_none_iff]
 intro p hp
 simp only[p8,E5,or_false]at h hp
 rcases hp with rfl | rfl | rfl
 ·simp;intro z;exact h (.inl z)
 ·simp;intro z;exact h (.inr (.inl z))
 ·simp;intro z;exact h (.inr (.inr z))
def c0N(K:Fg)(H:Hp)(q:Addr)(r:Rs):Prop:=∃tl wl sl,H q=some (.tup [.ref tl,.ref wl,.ref sl,.bl r.e])/\H tl=some (.lst (r.T.map V.int))/\G5 K H wl r.W/\H sl=some (.dK (SD r.S))/\bdS r.S
def a6Q(K:Fg)(H0 H:Hp)(q:Addr)(r:Rs):Prop:=∃tl wl sl,H0 tl=none/\H0 wl=none/\H0 sl=none/\tl≠wl/\H q=some (.tup [.ref tl,.ref wl,.ref sl,.bl r.e])/\H tl=some (.lst (r.T.map V.int))/\G5 K H wl r.W/\H sl=some (.dK (SD r.S))/\bdS r.S
theorem a6Q.t{K:Fg}{q:Addr}{r:Rs}(h:a6Q K H0 H q r):c0N K H q r:=let⟨tl,wl,sl,_,_,_,_,h⟩:=h; ⟨tl,wl,sl,h⟩
def c0R(N:Nt)(W:Nat->Rw):Prop:=∀(i:Nat) l,N[i]? = some l->(l.length=2↔∃v,W i=.ask v)
section
variable {K:Fg}{c:Cn}{x:Addr}{W:Nat->Rw}{S:Sto}{T:List Int}{E:XK}
theorem b1N{n:Str}(e:b4a w S L=some (n,i)):doR w S L T=(a2a S n i,c0n w L,T):=by
 cases w with
 | set n k a b=>cases e;rfl
 | copy n v=>cases e;rfl
 | take n=>cases e;rfl
 | _=>cases e
theorem a8u(S':Sto)(h:a1X w S'≠0):∃v,w=.ask v:=by
 cases w with
 | ask v=>exact⟨v,rfl⟩
 | _=>exact(h rfl).elim
theorem a4B(S':Sto):a1X w S'=0\/a1X w S'=1:=by
 cases w with
 | ask v=>show(if _ then _ else _)=_\/(if _ then _ else _)=_;split;exact .inr rfl;exact .inl rfl
 | _=>exact .inl rfl
theorem G5.snoc{wl:Addr}{Ws:List Stp}{ps:List Addr}(h1:H wl=some (.lst (ps.map V.ref)))(h2:ps.length=Ws.length)(h3:∀(i:Nat) x s,ps[i]? = some x->Ws[i]? = some s->a0K K H x s)(ha:a0K K H a s):G5 K (upd H wl (.lst (ps.map V.ref++[.ref a]))) wl (Ws++[s]):=by
 have tp:L4 H (upd H wl (.lst (ps.map V.ref++[.ref a]))):=L4.put h1
 refine⟨ps++[a],by rw[f6,E2];rfl,by simp[h2],fun i p t f1 f2=>?_⟩
 rcases U5 f1 with ⟨hi,f1⟩ | ⟨hi,f1⟩
 ·rcases U5 f2 with ⟨_,f2⟩ | ⟨hj,_⟩
  ·exact(h3 i p t f1 f2).ts tp
  ·omega
 ·subst f1
  rcases U5 f2 with ⟨hj,_⟩ | ⟨_,f2⟩
  ·omega
  ·subst f2
   exact ha.ts tp
theorem G5.off{wl:Addr}{Ws:List Stp}(h:G5 K H wl Ws)(n:wl≠a)(t:L4 H (upd H a o)):G5 K (upd H a o) wl Ws:=by
 obtain⟨ps,h1,h2,h3⟩:=h.ex
 exact⟨ps,by rw[d6 n];exact h1,h2,fun i p s a c=>(h3 i p s a c).ts t⟩
theorem b9l{r:Rs}(h:r.e=true):∀m,rn N W m r=r
 | 0=>rfl
 | m+1=>by unfold rn;rw[if_pos h]
theorem c4j{st tk:Addr}(ck:a9m K c)(hz:a1m K c Z rs H x N)(hv:a2u N)(hr:a9k H rs RC)(hw:∀(i:Nat) p,rs[i]? = some p->RwS H (RC i) (W i))(ha:c0R N W)
  (hst:H st=some (.dK (SD S0))) (bd:bdS S0) (l0:S0.length<=100) (htk:H tk=some (.lst (L0.map V.int))) (bl:∀x∈L0,0<=x/\x<1000000000000) (hm:m<=1000)
  (k:∀q H',a6Q K H H' q (rn N W m ⟨S0,L0.reverse,[],[],FST,false⟩)->A0 H H'->Q (.ref q) H'):a6p K c [.ref x,.ref st,.ref tk,.int (m:Int)] H Q E:=by
 have h400:=hv.le
 have hp:=hz.r
 have h6:rs.length=N.length:=by obtain⟨_,_,_,_,_,_,_,_,_,q⟩:=id hp.ex;exact q
 obtain⟨dx,r0,n0,e0,es,ns',h1,⟨_,h5⟩,h3a,h3b,h3c,_⟩:=id hz.ex
 have h3:G7 H n0 N:=⟨ns',h3a,h3b,h3c⟩
 refine⟨rfl,?_⟩
 unfold c3k
 nofun
 unfold a4S
 simp only[hst]
 intro sd hsd
 have s1:A0 H (upd H sd (.dK (SD S0))):=D7 hsd
 obtain⟨H1,hH1⟩:∃H1,H1=upd H sd (.dK (SD S0)):=⟨_,rfl⟩
 have d1:H1 sd=some (.dK (SD S0)):=hH1 ▸ f6
 rw[<-hH1]at s1 ⊢
 ext
 exact_mod_cast W2 ?_
 exact_mod_cast c3q ?_
 show b5E _ _ _ _
 refine⟨_,rfl,tk,_,rfl,s1 _ _ htk,fun lf hlf=>?_⟩
 have s2:A0 H1 (upd H1 lf (.lst (L0.map V.int).reverse)):=D7 hlf
 obtain⟨H2,hH2⟩:∃H2,H2=upd H1 lf (.lst (L0.map V.int).reverse):=⟨_,rfl⟩
 have f2:H2 lf=some (.lst (L0.reverse.map V.int)):=by rw[hH2,f6,List.map_reverse]
 rw[<-hH2]at s2 ⊢
 ext
 nofun
 exists E6 (by simp) fun tl H3 htl t3 s3=>?_
 nofun
 exists E6 (by simp) fun wl H4 hwl w4 s4=>?_
 nofun
 nofun
 have s04:=((s1.trans s2).trans s3).trans s4
 have n1:lf≠tl:=d3 f2 htl
 have n2:lf≠wl:=d3 (s3 _ _ f2) hwl
 have n3:tl≠wl:=d3 t3 hwl
 have flf:H lf=none:=s1.free hlf
 have ftl:H tl=none:=(s1.trans s2).free htl
 have fwl:H wl=none:=((s1.trans s2).trans s3).free hwl
 obtain⟨q0,hq0⟩:∃q0:Rs,q0=⟨S0,L0.reverse,[],[],FST,false⟩:=⟨_,rfl⟩
 rw[<-hq0]at k
 exact_mod_cast W2 ?_
 exact_mod_cast b5J ?_
 refine⟨fun μ σ Hi=>∃(q:Rs) (sa:Addr) (y10 y11:Option V),σ=[some (.ref x),some (.ref st),some (.ref tk),some (.int (m:Int)),some (.ref sd),some (.ref lf),some (.ref tl),some (.ref wl),some (.ref sa),some (.bl q.e),y10,y11]/\Hi sd=some (.dK (SD q.S))/\Hi lf=some (.lst (q.L.map V.int))/\Hi tl=some (.lst (q.T.map V.int))/\G5 K Hi wl q.W/\a0K K Hi sa q.p/\A0 H Hi/\bdS q.S/\(∀x∈q.L,0<=x/\x<1000000000000)/\q.S.length<=100+q.W.length/\q.T.length<=q.W.length/\q.W.length<=m/\(q.e=false->a0L N q.p)/\rn N W (m - q.W.length) q=rn N W m q0/\μ=m - q.W.length,?_,?_⟩
 ·subst hq0
  exact⟨_,⟨S0,L0.reverse,[],[],FST,false⟩,_,_,_,rfl,s4 _ _ (s3 _ _ (s2 _ _ d1)),s4 _ _ (s3 _ _ f2),s4 _ _ t3,⟨[],w4,rfl,fun i p s e=>(nomatch e)⟩,.inr ⟨rfl,ck.a3y⟩,s04,bd,fun x hx=>bl x (c3E.mp hx),by simpa using l0,i9 _,K0 _,fun _=>.inl rfl,rfl,rfl⟩
 rintro μ _ Hi ⟨q,sa,y10,y11,rfl,g1,g2,g3,g4,g5,si,b1,b2,b3,b4,b5,is,er,rfl⟩
 obtain⟨ps,p1,p2,p3⟩:=id g4.ex
 ext
 refine O8 p1 ?_
 rw[c7,p2]
 ext
 have fin:rn N W m q0=q->F7 (a1h (b6 (c6 6) (b6 (c6 7) (b6 (c6 4) (b6 (c6 9) (d7)))))) { nx:=fun _ H'=>Q .non H',rt:=Q } [some (.ref x),some (.ref st),some (.ref tk),some (.int (m:Int)),some (.ref sd),some (.ref lf),some (.ref tl),some (.ref wl),some (.ref sa),some (.bl q.e),y10,y11] Hi:=fun e=>by
  ext
  refine E6 (by simp) fun tp H5 htp e5 s5=>?_
  refine k tp H5 ?_ (si.trans s5)
  rw[e]
  exact⟨tl,wl,sd,ftl,fwl,hsd,n3,e5,s5 _ _ g3,g4.same s5,s5 _ _ g1,b1⟩
 by_cases hge:m<=q.W.length
 ·have hz:q.W.length=m:=by omega
  refine C4 (c9r (by omega)) ?_
  refine C4 rfl ?_
  exact fin (by rw[<-er,hz,Nat.sub_self];rfl)
 have hlt:q.W.length<m:=by omega
 exists J1 (c9s (by omega)) ?_
 cases he:q.e with
 | true=>
  refine C4 rfl ?_
  rw[<-he]
  exact fin (by rw[<-er,b9l he])
 | false=>
 refine J1 rfl ?_
 refine⟨fun σ Hj=>∃(q':Rs) (sa:Addr) (y10 y11:Option V),σ=[some (.ref x),some (.ref st),some (.ref tk),some (.int (m:Int)),some (.ref sd),some (.ref lf),some (.ref tl),some (.ref wl),some (.ref sa),some (.bl q'.e),y10,y11]/\Hj sd=some (.dK (SD q'.S))/\Hj lf=some (.lst (q'.L.map V.int))/\Hj tl=some (.lst (q'.T.map V.int))/\G5 K Hj wl q'.W/\a0K K Hj sa q'.p/\A0 H Hj/\bdS q'.S/\(∀x∈q'.L,0<=x/\x<1000000000000)/\q'.S.length<=100+q'.W.length/\q'.T.length<=q'.W.length/\q'.W.length<=m/\(q'.e=false->a0L N q'.p)/\rn N W (m - q'.W.length) q'=rn N W m q0/\q'.W.length=q.W.length+1,?_,?_⟩
 ·rintro σ' Hj ⟨q',sa,y10,y11,a1,a2,a3,a4,a5,a6,a7,a8,a9,a10,a11,a12,a13,a14,a15⟩
  exact⟨_,by omega,q',sa,y10,y11,a1,a2,a3,a4,a5,a6,a7,a8,a9,a10,a11,a12,a13,a14,rfl⟩
 have is:=is he
 obtain⟨t,ht⟩:∃t,t=R1 N q.p:=⟨_,rfl⟩
 have htn:t<N.length:=ht ▸ a7H hv is
 obtain⟨l,hle⟩:∃l,l=N[t]:=⟨_,rfl⟩
 have hl:=M6 htn
 rw[<-hle]at hl
 obtain⟨rx,hrx⟩:∃rx,rs[t]? = some rx:=⟨_,g8 (by omega)⟩
 nofun
 specialize a3j ?_
 exists ⟨O3 p1,?_⟩
 refine R6 p1 (J9 (by rw[c7];omega)) ?_
 have tp:L4 Hi (upd Hi wl (.lst (ps.map V.ref++[.ref sa]))):=L4.put p1
 have w5:=G5.snoc p1 p2 p3 g5
 obtain⟨H5,hH5⟩:∃H5,H5=upd Hi wl (.lst (ps.map V.ref++[.ref sa])):=⟨_,rfl⟩
 have sd5:H5 sd=some (.dK (SD q.S)):=by rw[hH5,d6 (F6 g1 p1 (by intro z;cases z))];exact g1
 have lf5:H5 lf=some (.lst (q.L.map V.int)):=by rw[hH5,d6 n2];exact g2
 have tl5:H5 tl=some (.lst (q.T.map V.int)):=by rw[hH5,d6 n3];exact g3
 have s5:A0 H H5:=fun b o e=>by rw[hH5,d6 (d3 e fwl)];exact si _ _ e
 rw[<-hH5]at tp w5 ⊢
 ext
 nofun
 specialize b9e ?_
 exists ⟨x,dx,_,rfl,s5 _ _ h1,c5s r0 n0 e0 _ (by decide),?_⟩
 refine a7k ck ((hp.same s5).x) (g5.ts tp) is ?_
 rw[<-ht]
 ext
 nofun
 specialize b2N ?_
 exists ⟨x,_,dx,_,.ref r0,rfl,s5 _ _ h1,ck.a0O,ck.a1I,rfl,?_⟩
 exists J0 (s5 _ _ h5) (a0q (by rw[d4,hrx];rfl)) ?_
 have rX:=(hr t rx hrx).ts (A0.ts s5)
 have rW:=(hw t rx hrx).ts (A0.ts s5)
 obtain⟨hx,rS⟩:=id rX
 exact_mod_cast a0x (P:=fun σ Hj=>σ=[some (.ref x),some (.ref st),some (.ref tk),some (.int (m:Int)),some (.ref sd),some (.ref lf),some (.ref tl),some (.ref wl),some (.ref sa),some (.bl false),some (.int (t:Int)),some (.ref rx)]/\Hj sd=some (.dK (SD (doR (W t) q.S q.L q.T).1))/\Hj lf=some (.lst ((doR (W t) q.S q.L q.T).2.1.map V.int))/\Hj tl=some (.lst ((doR (W t) q.S q.L q.T).2.2.map V.int))/\G5 K Hj wl (q.W++[q.p])/\A0 H Hj/\bdS (doR (W t) q.S q.L q.T).1/\(∀x∈(doR (W t) q.S q.L q.T).2.1,0<=x/\x<1000000000000)/\(doR (W t) q.S q.L q.T).1.length<=q.S.length+1/\(doR (W t) q.S q.L q.T).2.2.length<=q.T.length+1) ?_ ?_
 rotate_left
 ·intro nx hnx
  ext
  refine b0d rX fun H6 s6=>?_
  have s56:=s5.trans s6
  cases hs:b4a (W t) q.S q.L with
  | some ni=>
   obtain⟨n,i⟩:=ni
   have esb:sbV (RC t)=some n:=by rw[c3r (S:=q.S) (L:=q.L) rW,hs];rfl
   rw[esb]
   refine⟨rfl,_,rfl,J1 rfl ?_⟩
   specialize a3g ?_
   exists b0F (s6 _ _ hx) (rW.ts (A0.ts s6)) (s6 _ _ sd5) b1 (s6 _ _ lf5) hs fun H7 lf7 o7=>?_
   have ne7:∀ {b:Addr} {o:HO},H6 b=some o->(∀xs,o≠.lst xs)->H7 b=some o:=fun {b o} e z=>o7 b o (fun q=>by rw[q,s6 _ _ lf5]at e;cases e;exact z _ rfl) e
   have t7:L4 H6 H7:=fun b ys e=>ne7 e fun _ z=>nomatch z
   have s07:A0 H H7:=fun b o e=>o7 b o (d3 e flf) (s56 _ _ e)
   refine b0d (rX.ts (L4.trans (A0.ts s6) t7)) fun H8 s8=>?_
   rw[esb]
   have sd8:H8 sd=some (.dK (SD q.S)):=s8 _ _ (ne7 (s6 _ _ sd5) fun _ z=>nomatch z)
   refine⟨sd,_,rfl,a7w.k (k:=Sum.inr n) sd8 (J9 (by unfold SD;rw[c7];omega)),?_⟩
   rw[b5i b1.1]
   have b8:=b5I rW b1 b2 hs
   rw[b1N hs]at hnx
   have t8:L4 H8 (upd H8 sd (.dK (SD (a2a q.S n i)))):=fun b ys e=>(d6 (F6 e sd8 (by intro z;cases z))).trans e
   have up:∀ {a:Addr} {ys:List V},H8 a=some (.lst ys)->upd H8 sd (.dK (SD (a2a q.S n i))) a=some (.lst ys):=fun {a ys} e=>(d6 (F6 e sd8 (by intro z;cases z))).trans e
   refine hnx _ _ ⟨rfl,f6,up (s8 _ _ lf7),up (s8 _ _ (o7 tl _ n1.symm (s6 _ _ tl5))),?_,fun b o e=>by rw[d6 (d3 e hsd)];exact s8 _ _ (s07 _ _ e),b1.put b8.1 b8.2,fun x hx=>b2 x ?_,a8H,U4 _⟩
   ·obtain⟨ps',a1,a2,a3⟩:=(w5.same s6).ex
    have w7:G5 K H7 wl (q.W++[q.p]):=⟨ps',o7 wl _ n2.symm a1,a2,fun i p s e1 e2=>(a3 i p s e1 e2).ts t7⟩
    exact(w7.same s8).off (F6 (s8 _ _ (o7 wl _ n2.symm a1)) sd8 (by intro z;cases z)) t8
   ·have hx:x∈c0n (W t) q.L:=hx
    cases hw':W t with
    | take n=>rw[hw']at hx;exact List.dropLast_subset _ hx
    | _=>rw[hw']at hx;exact hx
  | none=>
   have esb:sbV (RC t)=none:=by rw[c3r (S:=q.S) (L:=q.L) rW,hs];rfl
   rw[esb]
   exists ⟨rfl,_,rfl,C4 rfl ?_⟩
   have hx6:=s6 _ _ hx
   generalize hwt:W t=wt at rW hs hnx
   have stay:doR wt q.S q.L q.T=(q.S,q.L,q.T)->nx [some (.ref x),some (.ref st),some (.ref tk),some (.int (m:Int)),some (.ref sd),some (.ref lf),some (.ref tl),some (.ref wl),some (.ref sa),some (.bl false),some (.int (t:Int)),some (.ref rx)] H6:=fun e=>by
    rw[e]at hnx
    exact hnx _ _ ⟨rfl,s6 _ _ sd5,s6 _ _ lf5,s6 _ _ tl5,w5.same s6,s56,b1,b2,U4 _,U4 _⟩
   cases wt with
   | set n k0 a0 b0=>cases hs
   | copy n v=>cases hs
   | take n=>cases hs
   | tell v=>
    obtain⟨exs,o⟩:=rW
    rw[exs]at hx6
    exists F0 hx6 (R4 _ _) ?_
    exists J1 (by decide) ?_
    specialize a3j ?_
    exists ⟨O3 (s6 _ _ tl5),?_⟩
    exists F0 hx6 (a0m _ _ _) ?_
    exists a0w (s6 _ _ sd5) o ?_
    refine R6 (s6 _ _ tl5) (J9 (by rw[c7];omega)) ?_
    have t7:L4 H6 (upd H6 tl (.lst (q.T.map V.int++[.int (a0C q.S v)]))):=L4.put (s6 _ _ tl5)
    refine hnx _ _ ⟨rfl,by rw[d6 (F6 (s6 _ _ sd5) (s6 _ _ tl5) (by intro z;cases z))];exact s6 _ _ sd5,by rw[d6 n1];exact s6 _ _ lf5,by rw[f6];show _=some (HO.lst ((q.T++[a0C q.S v]).map V.int));rw[E2];rfl,(w5.same s6).off n3.symm t7,fun b o e=>by rw[d6 (d3 e ftl)];exact s56 _ _ e,b1,b2,U4 _,by show(q.T++[_]).length<=_;simp⟩
   | ask v=>
    obtain⟨exs,o⟩:=rW
    rw[exs]at hx6
    exists F0 hx6 (R4 _ _) ?_
    exists C4 (by decide) ?_
    exact stay rfl
   | skip=>
    have exs:RC t=[.str "skip"]:=rW
    rw[exs]at hx6
    exists F0 hx6 (R4 _ _) ?_
    exists C4 (by decide) ?_
    exact stay rfl
 rintro _ Hj ⟨rfl,j1,j2,j3,j4,j5,j6,j7,j8,j9⟩
 obtain⟨us,y,f1,f2',f3,_⟩:=(h3.same j5).at hl
 nofun
 specialize b2N ?_
 exists ⟨x,_,dx,_,.ref n0,rfl,j5 _ _ h1,ck.a0O,ck.Y4,rfl,?_⟩
 exists J0 f1 f2' ?_
 refine O8 f3 ?_
 rw[P8]
 ext
 exists a8q ((hr t rx hrx).ts (A0.ts j5)).1 ((hw t rx hrx).ts (A0.ts j5)) j1 fun sb Hk hsb ek sk=>?_
 have gd:N.getD t []=l:=by rw[a2F,hl];rfl
 have e1:st1 N W q=⟨(doR (W t) q.S q.L q.T).1,(doR (W t) q.S q.L q.T).2.1,(doR (W t) q.S q.L q.T).2.2,q.W++[q.p],((t:Int),a1X (W t) (doR (W t) q.S q.L q.T).1),decide (l.length=0)⟩:=by
  unfold st1
  rw[<-ht]
  show Rs.mk _ _ _ _ _ (decide ((N.getD t []).length=0))=_
  rw[gd]
 refine⟨st1 N W q,sb,some (.int (t:Int)),some (.ref rx),?_,?_⟩
 ·rw[e1]
  show _=[_,_,_,_,_,_,_,_,_,some (V.bl (decide (l.length=0))),_,_]
  rw[show decide (V.int (l.length:Int)=V.int 0)=decide (l.length=0)from decide_eq_decide.mpr ⟨fun z=>by have:=V.int.inj z;omega,fun z=>by rw[z];rfl⟩]
  rfl
 rw[e1]
 refine⟨sk _ _ j1,sk _ _ j2,sk _ _ j3,j4.same sk,.inl ek,j5.trans sk,j6,j7,?_,?_,?_,fun z=>?_,?_,?_⟩
 ·show(doR (W t) q.S q.L q.T).1.length<=100+(q.W++[q.p]).length
  rw[t5,C9];omega
 ·show(doR (W t) q.S q.L q.T).2.2.length<=(q.W++[q.p]).length
  rw[t5,C9];omega
 ·show(q.W++[q.p]).length<=m
  rw[t5,C9];omega
 ·have z:¬l.length=0:=of_decide_eq_false z
  have l2:=hv.two l (mI hl)
  refine .inr ⟨t,(a1X (W t) (doR (W t) q.S q.L q.T).1).toNat,l,_,?_,hl,g8 ?_⟩
  ·rcases a4B (w:=W t) (doR (W t) q.S q.L q.T).1 with u | u <;> rw[u] <;> rfl
  ·rcases a4B (w:=W t) (doR (W t) q.S q.L q.T).1 with u | u
   ·rw[u];show 0<l.length;omega
   ·have:=(ha t l hl).mpr (a8u (doR (W t) q.S q.L q.T).1 (by rw[u];decide))
    rw[u];show 1<l.length;omega
 ·rw[<-e1,<-er]
  show rn N W (m - (q.W++[q.p]).length) _=_
  rw[t5,C9,show m - q.W.length=(m - (q.W.length+1))+1 by omega]
  show _=if q.e=true then q else rn N W _ (st1 N W q)
  rw[if_neg (by rw[he];decide)]
 ·show(q.W++[q.p]).length=_
  rw[t5,C9]
end
theorem b6D(n:Nat){K:Fg}{S:List Stp}(ha:G5 K H a S)(hb:G5 K H b S):Dq K H (n+2) (.ref a) (.ref b):=by
 obtain⟨vs,v1,v2,v3⟩:=ha.ex
 obtain⟨us,u1,u2,u3⟩:=hb.ex
 refine .lst (SqL.of v1) (SqL.of u1) (by simp[v2,u2]) fun j x y f1 f2=>?_
 rw[d4]at f1 f2
 cases e1:vs[j]? with
 | none=>rw[e1]at f1;cases f1
 | some v=>
  cases e2:us[j]? with
  | none=>rw[e2]at f2;cases f2
  | some u=>
   rw[e1]at f1
   rw[e2]at f2
   cases f1
   cases f2
   obtain⟨s,hs⟩:∃s,S[j]? = some s:=⟨_,g8 (by have:=(gI e1);omega)⟩
   refine .tup (v3 j v s e1 hs).sq (u3 j u s e2 hs).sq rfl fun i x y g1 g2=>?_
   rw[g1]at g2
   cases g2
   rcases i with _ | _ | i
   ·cases g1;exact .flat rfl
   ·cases g1;exact .flat rfl
   ·simp at g1
section
variable {K:Fg}{r:Rs}
theorem c0M{S:Sto}(h:bdS S):((SD S).map (·.1)).Nodup:=by
 unfold SD
 rw[W7]
 show(List.map (fun p:Str×Int=>(Sum.inr p.1:Key)) S).Nodup
 rw[show(fun p:Str×Int=>(Sum.inr p.1:Key))=(fun s=>(Sum.inr s:Key)) ∘ (fun p:Str×Int=>p.1)from rfl,<-W7]
 exact c3d.mpr (List.Pairwise.imp (fun ne e=>ne (Sum.inr.inj e)) h.1)
theorem b6h{S:Sto}:(SD S).all (fun p=>Q0 p.2)=true:=by
 rw[O1]
 intro z hz
 obtain⟨u,_,rfl⟩:=E3.mp hz
 rfl
theorem c0N.dd{q:Addr}(h1:c0N K H p r)(h2:c0N K H q r):∃xs ys,H p=some (.tup xs)/\H q=some (.tup ys)/\xs.length=4/\ys.length=4/\ys[3]? = some (.bl r.e)/\∀(j:Nat) u v,xs[j]? = some u->ys[j]? = some v->Dd K H u v:=by
 obtain⟨t1,w1,s1,a1,a2,a3,a4,a5⟩:=h1
 obtain⟨t2,w2,s2,b1,b2,b3,b4,b5⟩:=h2
 refine⟨_,_,a1,b1,rfl,rfl,rfl,fun j u v e1 e2=>?_⟩
 match j with
 | 0=>
  cases e1;cases e2
  refine .inl (.lst (SqL.of a2) (SqL.of b2) rfl fun i x y f1 f2=>?_)
  rw[f1]at f2
  cases f2
  rw[d4]at f1
  obtain⟨z,_,rfl⟩:=G8.mp f1
  exact .flat rfl
 | 1=>
  cases e1;cases e2
  exact .inl (b6D 1 a3 b3)
 | 2=>
  cases e1;cases e2
  refine .inr ⟨s1,s2,_,rfl,rfl,a4,b4,c0M a5,b6h⟩
 | 3=>
  cases e1;cases e2
  exact .inl (.flat rfl)
 | j+4=>cases e1
end
structure PlK(K:Fg)(c:Cn)(H:Hp)(x:Addr)(N:Nt)(rs:List Addr)(RC:Nat->List V)(W:Nat->Rw):Prop where
 pz:∃Z:Addr->Prop,a1m K c Z rs H x N
 rc:a9k H rs RC
 rw:∀(i:Nat) p,rs[i]? = some p->RwS H (RC i) (W i)
 ask:c0R N W
section
variable {K:Fg}{c:Cn}{x:Addr}{W:Nat->Rw}{E:XK}
theorem PlK.same(h:PlK K c H x N rs RC W)(s:A0 H H'):PlK K c H' x N rs RC W:=let⟨Z,p⟩:=h.pz; ⟨⟨Z,p.same s⟩,h.rc.ts (A0.ts s),fun i p e=>(h.rw i p e).ts (A0.ts s),h.ask⟩
theorem PlK.kept(h:PlK K c H x N rs RC W)(hB:Bag H b d)(hv:a2u N)(k:C8 b H H'):PlK K c H' x N rs RC W:=let⟨Z,p⟩:=h.pz; ⟨⟨Z,p.kept hB hv.two k⟩,h.rc.ts (k.ts hB),fun i p e=>(h.rw i p e).ts (k.ts hB),h.ask⟩
theorem PlK.len(h:PlK K c H x N rs RC W):rs.length=N.length:=by
 obtain⟨Z,p⟩:=h.pz
 obtain⟨_,_,_,_,_,_,_,_,_,q⟩:=p.r.ex
 exact q
theorem c5S{q:Bool}(h:RwS H xs w)(hq:∃k r,xs=.str k::r/\decide ((k:Str) = "ask")=q):q=true↔∃v,w=.ask v:=by
 obtain⟨k,r,e,rfl⟩:=hq
 cases w with
 | set n k0 a0 b0=>
  obtain⟨_,rfl,_⟩:=h
  cases e
  exact⟨fun z=>absurd z (by decide),fun⟨v,z⟩=>nomatch z⟩
 | copy n v=>
  obtain⟨rfl,_⟩:=h
  cases e
  exact⟨fun z=>absurd z (by decide),fun⟨v,z⟩=>nomatch z⟩
 | take n=>
  obtain⟨rfl,_⟩:=h
  cases e
  exact⟨fun z=>absurd z (by decide),fun⟨v,z⟩=>nomatch z⟩
 | tell v=>
  obtain⟨rfl,_⟩:=h
  cases e
  exact⟨fun z=>absurd z (by decide),fun⟨v,z⟩=>nomatch z⟩
 | ask v=>
  obtain⟨rfl,_⟩:=h
  cases e
  exact⟨fun _=>⟨v,rfl⟩,fun _=>by decide⟩
 | skip=>
  cases h
  cases e
  exact⟨fun z=>absurd z (by decide),fun⟨v,z⟩=>nomatch z⟩
theorem c4F(hz:a1m K c Z rs H x N):∃RC W,PlK K c H x N rs RC W:=by
 obtain⟨dx,r,n,e,es,ns,h1,⟨hR,hra⟩,_⟩:=id hz.ex
 obtain⟨RC,hr⟩:=b9k hR hra
 have ex:∀i:Nat,∃w:Rw,∀p,rs[i]? = some p->RwS H (RC i) w:=fun i=>by
  cases e:rs[i]? with
  | none=>exact⟨.skip,fun p z=>nomatch z⟩
  | some p=>
   obtain⟨w,hw⟩:=(hr i p e).2.rw
   exact⟨w,fun _ _=>hw⟩
 obtain⟨W,hW⟩:=Classical.axiomOfChoice ex
 refine⟨RC,W,⟨Z,hz⟩,hr,hW,fun i l hl=>?_⟩
 obtain⟨rs',r1,r2,r3⟩:=hR.ex
 obtain rfl:rs'=rs:=by
  rw[hra]at r1
  exact(Y7 (f:=V.ref) (fun a b h=>V.ref.inj h) |>.mp (HO.lst.inj (Option.some.inj r1))).symm
 have hi:=(gI hl)
 obtain⟨p,hp⟩:∃p,rs'[i]? = some p:=⟨_,g8 (by omega)⟩
 obtain⟨p',xs,ep,hx,_,hq⟩:=r3 i p l hp hl
 cases ep
 rw[(hr i p hp).1]at hx
 cases hx
 rw[<-c5S (hW i p hp) hq]
 simp
theorem b5O{st tk:Addr}(ck:a9m K c)(h:PlK K c H x N rs RC W)(hv:a2u N)
  (hst:H st=some (.dK (SD S0))) (bd:bdS S0) (l0:S0.length<=100) (htk:H tk=some (.lst (L0.map V.int))) (bl:∀x∈L0,0<=x/\x<1000000000000) (hm:m<=1000)
  (k:∀q H',a6Q K H H' q (rn N W m ⟨S0,L0.reverse,[],[],FST,false⟩)->A0 H H'->Q (.ref q) H'):a6p K c [.ref x,.ref st,.ref tk,.int (m:Int)] H Q E:=by
 obtain⟨Z,pz⟩:=h.pz
 exact c4j ck pz hv h.rc h.rw h.ask hst bd l0 htk bl hm k
end
inductive Fw(N:Nt):Stp->List Stp->Nat->Prop
 | one {s:Stp}:a0L N s->Fw N s [] (R1 N s)
 | cons {s s':Stp} {r:List Stp} {t:Nat}:a0L N s->s'.1=(R1 N s:Int)->Fw N s' r t->Fw N s (s'::r) t
theorem c5M{p q:Nat}:¬(((p:Int),(q:Int)):Stp)=FST:=by
 unfold FST
 intro z
 have:=congrArg Prod.fst z
 simp at this
theorem c2B{p q:Nat}{l:List Nat}{t:Nat}(h1:N[p]? = some l)(h2:l[q]? = some t):R1 N ((p:Int),(q:Int))=t:=by
 unfold R1
 rw[if_neg (by
  unfold FST
  intro z
  have:=congrArg Prod.fst z
  simp at this)]
 show(N.getD (p:Int).toNat []).getD (q:Int).toNat 0=t
 rw[A7,A7]
 simp[Q5,h1,h2]
theorem a8T{K:Fg}{E:XK}(hn:G7 H na N)(ha:a0K K H a s)(hs:a0L N s)(k:Q (.int (R1 N s:Nat)) H):a3Y K [.ref na,.ref a] H Q E:=by
 have sq:=ha.sq
 refine⟨rfl,?_⟩
 unfold b5B
 nofun
 exists ⟨a,0,_,_,rfl,rfl,sq,R4 _ _,?_⟩
 rcases hs with rfl | ⟨p,q,l,t,rfl,h1,h2⟩
 ·exists J1 (by decide) ?_
  exact k
 ·exists C4 (c9r (by show ¬((p:Int)<0);omega)) ?_
  obtain⟨xs,y,f1,f2,f3,_⟩:=hn.at h1
  refine⟨a,0,_,_,rfl,rfl,sq,R4 _ _,?_⟩
  exists J0 f1 f2 ?_
  refine⟨a,1,_,_,rfl,rfl,sq,a0m _ _ _,?_⟩
  refine J0 f3 (c3C h2) ?_
  rw[c2B h1 h2]at k
  exact k
theorem a1A{K:Fg}{n:Int}{E:XK}(k:Q (.bl true) H):a1U K [.int n] H Q E:=by
 refine⟨rfl,?_⟩
 unfold b5v
 ext
 exists a0z rfl (by decide) ?_
 exists J1 rfl ?_
 exists a0z rfl (by decide) ?_
 exact k
theorem b4Q{K:Fg}{E:XK}(hn:G7 H na N)(ha:a0K K H a s)(hs:a0L N s)(k:∀H',A0 H H'->Q (.bl true) H'):a3b K [.ref na,.ref a] H Q E:=by
 have sq:=ha.sq
 refine⟨rfl,?_⟩
 unfold a9X
 nofun
 exists ⟨a,_,rfl,sq,?_⟩
 exists C4 rfl ?_
 exists ⟨a,_,rfl,sq,?_⟩
 exists C4 rfl ?_
 exists ⟨a,0,_,_,rfl,rfl,sq,R4 _ _,?_⟩
 exists a1A ?_
 exists C4 rfl ?_
 exists ⟨a,1,_,_,rfl,rfl,sq,a0m _ _ _,?_⟩
 exists a1A ?_
 exists C4 rfl ?_
 nofun
 refine E6 (by simp) fun z H1 hz e1 s1=>?_
 have sq1:=(ha.ts (A0.ts s1)).sq
 refine⟨_,_,_,_,rfl,rfl,sq1,SqT.of e1,rfl,rfl,?_⟩
 rw[eq2]
 ext
 rcases hs with rfl | ⟨p,q,l,t,rfl,h1,h2⟩
 ·exists J1 (by decide) ?_
  exact k H1 s1
 ·refine C4 (by
   have:decide ((((p:Int),(q:Int)).1,((p:Int),(q:Int)).2)=FST)=false:=c9r c5M
   rw[this]) ?_
  obtain⟨xs,y,f1,f2,f3,f4⟩:=hn.at h1
  ext
  exists ⟨a,0,_,_,rfl,rfl,sq1,R4 _ _,?_⟩
  exists J1 (c9s (by show(0:Int)<=(p:Int);omega)) ?_
  exists O8 (s1 _ _ f1) ?_
  have hp:=(gI h1)
  have hq:=(gI h2)
  exists J1 (c9s (by show(p:Int)<(xs.length:Int);omega)) ?_
  exists ⟨a,1,_,_,rfl,rfl,sq1,a0m _ _ _,?_⟩
  exists J1 (c9s (by show(0:Int)<=(q:Int);omega)) ?_
  refine⟨a,0,_,_,rfl,rfl,sq1,R4 _ _,?_⟩
  exists J0 (s1 _ _ f1) f2 ?_
  refine O8 (s1 _ _ f3) ?_
  rw[P8]
  ext
  have:=k H1 s1
  rw[show decide (((p:Int),(q:Int)).2<(l.length:Int))=true from c9s (by show(q:Int)<(l.length:Int);omega)]
  exact this
theorem b5k(a b:List Nat):IL (a++b)=IL a++IL b:=by unfold IL;rw[E2]
theorem b1k{K:Fg}{w:Addr}{S:List Stp}{E:XK}(hn:G7 H na N)(hw:G5 K H w S)(his:∀x∈S,a0L N x)(hlk:∀(i:Nat) a b,S[i]? = some a->S[i+1]? = some b->b.1=(R1 N a:Int))(lS:S.length<=1000)
  (k:∀D H',H D=none->H' D=some (.lst (IL (S.map (R1 N))))->A0 H H'->Q (.ref D) H'):a4y K [.ref na,.ref w] H Q E:=by
 obtain⟨vs,v1,v2,v3⟩:=hw.ex
 refine⟨rfl,?_⟩
 unfold b2A
 nofun
 exists a0z (s := "list") (by simp only[a0D,v1]) (by decide) ?_
 exists C4 (by decide) ?_
 nofun
 exists E6 (by simp) fun D H1 hD e1 s1=>?_
 exact_mod_cast W2 ?_
 specialize a0b (a5P ?_)
 refine⟨w,rfl,⟨_,SqL.of (s1 _ _ v1)⟩,?_⟩
 refine b3j S.length (fun i σ H2=>∃x3 x4,σ=[some (.ref na),some (.ref w),some (.ref D),x3,x4]/\H2 D=some (.lst (IL ((S.take i).map (R1 N))))/\A0 H H2) ⟨_,_,rfl,e1,s1⟩ ?_ ?_ ?_
 ·rintro _ H2 ⟨x3,x4,rfl,hD2,s2⟩
  exists ⟨⟨_,SqL.of (s2 _ _ v1),by rw[c7,v2];exact i9 _⟩,?_⟩
  rw[X9]at hD2
  exact k D H2 hD hD2 s2
 ·rintro i _ H2 hi ⟨x3,x4,rfl,hD2,s2⟩
  exact⟨_,_,SqL.of (s2 _ _ v1),by rw[d4,g8 (show i<vs.length by omega)];rfl⟩
 ·rintro i _ H2 hi ⟨x3,x4,rfl,hD2,s2⟩ x H3 ⟨p,y,hp,rfl,rfl,gy⟩
  obtain⟨va,f1⟩:∃va,vs[i]? = some va:=⟨_,g8 (by omega)⟩
  have gy:=gy _ (SqL.of (s2 _ _ v1))
  rw[d4,f1]at gy
  cases gy
  obtain⟨s,hs⟩:∃s,S[i]? = some s:=⟨_,g8 hi⟩
  refine a7D (SqT.of f6) ?_
  have s3:A0 H2 (upd H2 p (.tup [V.int (i:Int),V.ref va])):=D7 hp
  obtain⟨H3,hH3⟩:∃H3,H3=upd H2 p (.tup [V.int (i:Int),V.ref va]):=⟨_,rfl⟩
  rw[<-hH3]at s3 ⊢
  have s03:=s2.trans s3
  have st3:a0K K H3 va s:=(v3 i va s f1 hs).ts (A0.ts s03)
  have iss:=his s (mI hs)
  have tk:(S.take (i+1)).map (R1 N)=(S.take i).map (R1 N)++[R1 N s]:=by
   rw[P5,hs,E2];rfl
  nofun
  exists b4Q (hn.same s03) st3 iss fun H4 s4=>?_
  refine C4 rfl ?_
  have hD4:=s4 _ _ (s3 _ _ hD2)
  have st4:=st3.ts (A0.ts s4)
  ext
  cases i with
  | zero=>
   refine C4 (c9r (by omega)) ?_
   exists C4 rfl ?_
   specialize a3j ?_
   exists ⟨O3 hD4,?_⟩
   exists a8T (hn.same (s03.trans s4)) st4 iss ?_
   refine R6 hD4 (J9 (by rw[P8,c7,J4];omega)) ?_
   refine⟨_,_,rfl,?_,fun b o e=>?_⟩
   ·rw[f6,tk,b5k]
    rfl
   ·rw[d6 (d3 e hD)];exact s4 _ _ (s03 _ _ e)
  | succ j=>
   exists J1 (c9s (by omega)) ?_
   exists ⟨va,0,_,_,rfl,rfl,st4.sq,R4 _ _,?_⟩
   obtain⟨s',hs'⟩:∃s',S[j]? = some s':=⟨_,g8 (by omega)⟩
   have tk':(S.take (j+1)).map (R1 N)=(S.take j).map (R1 N)++[R1 N s']:=by
    rw[P5,hs',E2];rfl
   have hD4':=hD4
   rw[tk',b5k]at hD4'
   exists J0 hD4' a9j ?_
   refine C4 (by
    have:=hlk j s' s hs' hs
    rw[this]
    simp) ?_
   ext
   specialize a3j ?_
   exists ⟨O3 hD4,?_⟩
   exists a8T (hn.same (s03.trans s4)) st4 iss ?_
   refine R6 hD4 (J9 (by rw[P8,c7,J4];omega)) ?_
   refine⟨_,_,rfl,?_,fun b o e=>?_⟩
   ·rw[f6,tk,b5k]
    rfl
   ·rw[d6 (d3 e hD)];exact s4 _ _ (s03 _ _ e)
def R7(w:Rw):Str:=match w with
 | .set .. => "set"
 | .copy .. => "copy"
 | .take .. => "take"
 | .tell .. => "tell"
 | .ask .. => "ask"
 | .skip => "skip"
section
variable {K:Fg}{S:Sto}{v1 v2:V}{T:List Int}{kd:Str}{E:XK}
theorem c1w(h:RwS H xs w):∃r,xs=.str (R7 w)::r:=by
 cases w with
 | set n k a b=>obtain⟨q,rfl,_⟩:=h;exact⟨_,rfl⟩
 | copy n v=>obtain⟨rfl,_⟩:=h;exact⟨_,rfl⟩
 | take n=>obtain⟨rfl,_⟩:=h;exact⟨_,rfl⟩
 | tell v=>obtain⟨rfl,_⟩:=h;exact⟨_,rfl⟩
 | ask v=>obtain⟨rfl,_⟩:=h;exact⟨_,rfl⟩
 | skip=>cases h;exact⟨_,rfl⟩
theorem c5z(h:R7 w=("set" : Str)):∃n k a b,w=.set n k a b:=by
 cases w with
 | set n k a b=>exact⟨n,k,a,b,rfl⟩
 | _=>dsimp only[R7]at h;exact absurd h (by decide)
theorem c2F(h:R7 w=("copy" : Str)):∃n v,w=.copy n v:=by
 cases w with
 | copy n v=>exact⟨n,v,rfl⟩
 | _=>dsimp only[R7]at h;exact absurd h (by decide)
theorem c2E(h:R7 w=("take" : Str)):∃n,w=.take n:=by
 cases w with
 | take n=>exact⟨n,rfl⟩
 | _=>dsimp only[R7]at h;exact absurd h (by decide)
theorem c2D(h:R7 w=("tell" : Str)):∃v,w=.tell v:=by
 cases w with
 | tell v=>exact⟨v,rfl⟩
 | _=>dsimp only[R7]at h;exact absurd h (by decide)
theorem c5A(h:R7 w=("ask" : Str)):∃v,w=.ask v:=by
 cases w with
 | ask v=>exact⟨v,rfl⟩
 | _=>dsimp only[R7]at h;exact absurd h (by decide)
theorem b2Y(hS:H a=some (.dK (SD S)))(o:OpN v)(k:Q (.int (a0C S v)) H):a7g K [v,.ref a] H Q E:=by
 obtain⟨_,h⟩:=a0w (K:=K) (E:=E) hS o k
 exact⟨rfl,h⟩
theorem a8D{b:Bool}(h:Q (.int (if b then 1 else 0)) H):b2Q [.bl b] H Q:=h
theorem b1F(hp:H p=some (.tup [.str kd,v1,v2]))(hS:H a=some (.dK (SD S)))(bd:bdS S)(o1:OpN v1)(o2:OpN v2)(k:Q (.int (wv kd (a0C S v1) (a0C S v2))) H):a1C K [.ref p,.ref a] H Q E:=by
 obtain⟨x0,x1⟩:=bd.wof o1
 obtain⟨y0,y1⟩:=bd.wof o2
 refine⟨rfl,?_⟩
 unfold a7c
 nofun
 exists F0 hp (a0m _ _ _) ?_
 exists b2Y hS o1 ?_
 nofun
 exists F0 hp (a6O _ _ _ _) ?_
 refine b2Y hS o2 ?_
 generalize a0C S v1=x at *
 generalize a0C S v2=y at *
 unfold wv at k
 ext
 nofun
 exists F0 hp (R4 _ _) ?_
 refine Y2 (fun e=>?_) (fun e=>?_)
 ·rw[if_pos ((Y5 _ _).mp e)]at k
  ext
  exact W3 (by decide) k
 rw[if_neg (fun z=>e ((Y5 _ _).mpr z))]at k
 ext
 nofun
 exists F0 hp (R4 _ _) ?_
 refine Y2 (fun e=>?_) (fun e=>?_)
 ·rw[if_pos ((Y5 _ _).mp e)]at k
  ext
  exact W3 (by decide) k
 rw[if_neg (fun z=>e ((Y5 _ _).mpr z))]at k
 ext
 nofun
 exists F0 hp (R4 _ _) ?_
 refine Y2 (fun e=>?_) (fun e=>?_)
 ·rw[if_pos ((Y5 _ _).mp e)]at k
  ext
  exists W3 (.inl (by omega)) ?_
  exact W3 (by decide) k
 rw[if_neg (fun z=>e ((Y5 _ _).mpr z))]at k
 ext
 nofun
 exists F0 hp (R4 _ _) ?_
 refine Y2 (fun e=>?_) (fun e=>?_)
 ·rw[if_pos ((Y5 _ _).mp e)]at k
  ext
  refine a8D ?_
  rw[show(if decide (x<y)=true then (1:Int)else 0)=if x<y then 1 else 0 by simp]
  exact k
 rw[if_neg (fun z=>e ((Y5 _ _).mpr z))]at k
 ext
 refine a8D ?_
 rw[show(if decide (V.int x=V.int y)=true then (1:Int)else 0)=if x=y then 1 else 0 by simp]
 exact k
theorem b1I{k0 kk:Str}{r:List V}{body:TS}(e12:σ[12]? = some (some (.ref p)))(hx:H p=some (.tup (.str k0::r)))(h1:k0=kk->body D σ H)(h2:k0≠kk->D.nx σ H) :
  K9 (D5 (tOp qEq (tOp qIx (c6 12) (tC (.int 0))) (tC (.str kk)))) body E4 D σ H:=by
 refine c1u (b0W (b9b (b9b (a7h e12 (s_c (F0 hx (R4 _ _) (s_c (c6M rfl ?_))))))))
 refine⟨_,rfl,?_⟩
 refine Y2 (fun e=>?_) (fun e=>?_)
 ·exact h1 ((Y5 _ _).mp e)
 ·exact b0Y (h2 fun z=>e ((Y5 _ _).mpr z))
theorem c7F(n:Nat):(u5 n [V.int 0]).flatten=(u5 n (0:Int)).map V.int:=by
 induction n with
 | zero=>rfl
 | succ n ih=>rw[T8,a1f,ih,T8];rfl
theorem c1h(L:List Int)(u:Nat):(L++u5 (u+1) 0)[u]? = some (((L.drop u).reverse).getLast?.getD 0):=by
 rw[List.getLast?_reverse]
 by_cases h:u<L.length
 ·rw[W5 h,g8 h,a2S h];rfl
 ·rw[U9 (by omega),List.drop_eq_nil_of_le (by omega),L6,if_pos (by omega)];rfl
theorem b7u(L:List Int)(u:Nat):((L.drop u).reverse).dropLast=(L.drop (u+1)).reverse:=by
 rw[List.dropLast_reverse,List.tail_drop]
end
section
variable {K:Fg}{st tk:Addr}{W:Nat->Rw}{E:XK}
theorem b4O(hra:H ra=some (.lst (rs.map V.ref)))(lrs:rs.length=N.length)(hn:G7 H na N)(hv:a2u N)(hr:a9k H rs RC)(hw:∀(i:Nat) p,rs[i]? = some p->RwS H (RC i) (W i))(ha:c0R N W)
  (hst:H st=some (.dK (SD S0))) (bd:bdS S0) (l0:S0.length<=100) (htk:H tk=some (.lst (L0.map V.int))) (bl:∀x∈L0,0<=x/\x<1000000000000) (lL:L0.length<=100) (hm:m<=1000)
  (k:∀q H',a6Q K H H' q (rn N W m ⟨S0,L0.reverse,[],[],FST,false⟩)->A0 H H'->Q (.ref q) H'):a3a K [.ref ra,.ref na,.ref st,.ref tk,.int (m:Int)] H Q E:=by
 have h400:=hv.le
 refine⟨rfl,?_⟩
 unfold a9W
 nofun
 unfold a4S
 simp only[hst]
 intro sd hsd
 have s1:A0 H (upd H sd (.dK (SD S0))):=D7 hsd
 obtain⟨H1,hH1⟩:∃H1,H1=upd H sd (.dK (SD S0)):=⟨_,rfl⟩
 have d1:H1 sd=some (.dK (SD S0)):=hH1 ▸ f6
 rw[<-hH1]at s1 ⊢
 ext
 nofun
 exists E6 (by simp) fun tl H3 htl t3 s3=>?_
 nofun
 exists E6 (by simp) fun wl H4 hwl w4 s4=>?_
 nofun
 nofun
 exists E6 (by simp) fun fs H5 hfs f5 s5=>?_
 have s05:=((s1.trans s3).trans s4).trans s5
 have n3:tl≠wl:=d3 t3 hwl
 have ftl:H tl=none:=s1.free htl
 have fwl:H wl=none:=(s1.trans s3).free hwl
 obtain⟨q0,hq0⟩:∃q0:Rs,q0=⟨S0,L0.reverse,[],[],FST,false⟩:=⟨_,rfl⟩
 rw[<-hq0]at k
 exact_mod_cast W2 ?_
 specialize a0b (a0G ?_)
 refine⟨m,rfl,by omega,by omega,?_⟩
 rw[A7]
 refine Z8 (fun i σ Hi=>∃(q:Rs) (sa:Addr) (u:Nat) (y10 y11 y12:Option V),σ=[some (.ref ra),some (.ref na),some (.ref st),some (.ref tk),some (.int (m:Int)),some (.ref sd),some (.ref tl),some (.ref wl),some (.int (u:Int)),some (.ref sa),y10,y11,y12]/\Hi sd=some (.dK (SD q.S))/\q.L=(L0.drop u).reverse/\Hi tl=some (.lst (q.T.map V.int))/\G5 K Hi wl q.W/\a0K K Hi sa q.p/\A0 H Hi/\bdS q.S/\q.S.length<=100+i/\q.T.length<=i/\q.W.length=i/\u<=i/\q.e=false/\a0L N q.p/\rn N W (m - i) q=rn N W m q0) ?_ ?_ ?_
 ·subst hq0
  exact⟨⟨S0,L0.reverse,[],[],FST,false⟩,_,0,_,_,_,rfl,s5 _ _ (s4 _ _ (s3 _ _ d1)),by simp,s5 _ _ (s4 _ _ t3),⟨[],s5 _ _ w4,rfl,fun i p s e=>(nomatch e)⟩,.inl f5,s05,bd,by simpa using l0,i9 _,rfl,i9 _,rfl,.inl rfl,rfl⟩
 ·rintro i _ Hi hi ⟨q,sa,u,y10,y11,y12,rfl,g1,g2,g3,g4,g5,si,b1,b3,b4,b5,bu,he,is,er⟩
  rw[a0u]
  have b2:∀x∈q.L,0<=x/\x<1000000000000:=fun x hx=>by
   rw[g2]at hx
   exact bl x (List.mem_of_mem_drop (c3E.mp hx))
  obtain⟨ps,p1,p2,p3⟩:=id g4.ex
  obtain⟨t,ht⟩:∃t,t=R1 N q.p:=⟨_,rfl⟩
  have htn:t<N.length:=ht ▸ a7H hv is
  obtain⟨l,hle⟩:∃l,l=N[t]:=⟨_,rfl⟩
  have hl:=M6 htn
  rw[<-hle]at hl
  obtain⟨rx,hrx⟩:∃rx,rs[t]? = some rx:=⟨_,g8 (by omega)⟩
  ext
  nofun
  refine a8T (hn.same si) g5 is ?_
  rw[<-ht]
  ext
  nofun
  exists J0 (si _ _ hra) (a0q (by rw[d4,hrx];rfl)) ?_
  nofun
  specialize a3j ?_
  exists ⟨O3 p1,?_⟩
  refine R6 p1 (J9 (by rw[c7];omega)) ?_
  have w5:=G5.snoc p1 p2 p3 g5
  obtain⟨H6,hH6⟩:∃H6,H6=upd Hi wl (.lst (ps.map V.ref++[.ref sa])):=⟨_,rfl⟩
  have sd6:H6 sd=some (.dK (SD q.S)):=by rw[hH6,d6 (F6 g1 p1 (by intro z;cases z))];exact g1
  have tl6:H6 tl=some (.lst (q.T.map V.int)):=by rw[hH6,d6 n3];exact g3
  have s6:A0 H H6:=fun b o e=>by rw[hH6,d6 (d3 e fwl)];exact si _ _ e
  rw[<-hH6]at w5 ⊢
  ext
  obtain⟨w,hwd⟩:∃w,w=W t:=⟨_,rfl⟩
  have rwH:=hw t rx hrx
  rw[<-hwd]at rwH
  obtain⟨r0,exs⟩:=c1w rwH
  have hxH:H rx=some (.tup (.str (R7 w)::r0)):=exs ▸ (hr t rx hrx).1
  have row:∀ {Hj:Hp},A0 H Hj->RwS Hj (.str (R7 w)::r0) w:=fun sj=>exs ▸ rwH.ts (A0.ts sj)
  obtain⟨dS,hdS⟩:∃dS,dS=(doR w q.S q.L q.T).1:=⟨_,rfl⟩
  obtain⟨dT,hdT⟩:∃dT,dT=(doR w q.S q.L q.T).2.2:=⟨_,rfl⟩
  obtain⟨du,hdu⟩:∃du,du=if R7 w=("take" : Str)then u+1 else u:=⟨_,rfl⟩
  obtain⟨P,hP⟩:∃P:List Str->St->Hp->Prop,P=fun dn σ Hj=>σ=[some (.ref ra),some (.ref na),some (.ref st),some (.ref tk),some (.int (m:Int)),some (.ref sd),some (.ref tl),some (.ref wl),some (.int ((if R7 w∈dn then du else u:Nat):Int)),some (.ref sa),some (.int (i:Int)),some (.int (t:Int)),some (.ref rx)]/\Hj sd=some (.dK (SD (if R7 w∈dn then dS else q.S)))/\Hj tl=some (.lst ((if R7 w∈dn then dT else q.T).map V.int))/\G5 K Hj wl (q.W++[q.p])/\A0 H Hj:=⟨_,rfl⟩
  have put:∀ {Hj:Hp} {n:Str} {j:Int} {D:a5p} {σ:St},Hj sd=some (.dK (SD q.S))->Hj tl=some (.lst (q.T.map V.int))->G5 K Hj wl (q.W++[q.p])->A0 H Hj->(∀Hk,Hk sd=some (.dK (SD (a2a q.S n j)))->Hk tl=some (.lst (q.T.map V.int))->G5 K Hk wl (q.W++[q.p])->A0 H Hk->D.nx σ Hk)->∃a H4,V.ref sd=.ref a/\a7w Hj a (.str n) (.int j) H4/\D.nx σ H4:=fun {Hj n j D σ} e1 e2 e3 e4 kk=>by
   refine⟨sd,_,rfl,a7w.k (k:=Sum.inr n) e1 (J9 (by unfold SD;rw[c7];omega)),?_⟩
   rw[b5i b1.1]
   have t8:L4 Hj (upd Hj sd (.dK (SD (a2a q.S n j)))):=fun b ys e=>(d6 (F6 e e1 (by intro z;cases z))).trans e
   obtain⟨ps',a1,_⟩:=id e3.ex
   exact kk _ f6 ((d6 (F6 e2 e1 (by intro z;cases z))).trans e2) (e3.off (F6 a1 e1 (by intro z;cases z)) t8) fun b o e=>by rw[d6 (d3 e hsd)];exact e4 _ _ e
  have skip:∀ {dn dn':List Str} {σ:St} {Hj:Hp},(R7 w∈dn'↔R7 w∈dn)->P dn σ Hj->P dn' σ Hj:=fun {dn dn' σ Hj} e h=>by
   rw[hP]at h ⊢
   by_cases z:R7 w∈dn
   ·simp only[if_pos z]at h
    simp only[if_pos (e.mpr z)]
    exact h
   ·simp only[if_neg z]at h
    simp only[if_neg (fun y=>z (e.mp y))]
    exact h
  have P0:P [] [some (.ref ra),some (.ref na),some (.ref st),some (.ref tk),some (.int (m:Int)),some (.ref sd),some (.ref tl),some (.ref wl),some (.int (u:Int)),some (.ref sa),some (.int (i:Int)),some (.int (t:Int)),some (.ref rx)] H6:=by
   rw[hP]
   simp only[if_neg (fun z:R7 w∈([]:List Str)=>nomatch z)]
   exact⟨by first | trivial | rfl,sd6,tl6,w5,s6⟩
  exact_mod_cast a0x (P:=P ["set"]) ?_ ?_
  rotate_left
  ·intro nx hnx
   refine b1I rfl (s6 _ _ hxH) (fun e=>?_) (fun e=>hnx _ _ (skip (by simp[e]) P0))
   have hW:=row s6
   have hx:=s6 _ _ hxH
   obtain⟨n,k0,a0,b0,rfl⟩:=c5z e
   obtain⟨q2,er0,hq2,o1,o2,nm⟩:=hW
   cases er0
   specialize a3g ?_
   exists F0 hx (a6O _ _ _ _) ?_
   exists b1F hq2 sd6 b1 o1 o2 ?_
   refine F0 hx (a0m _ _ _) ?_
   refine put sd6 tl6 w5 s6 fun Hk k1 k2 k3 k4=>hnx _ _ ?_
   rw[hP]
   simp only[if_pos (show R7 (Rw.set n k0 a0 b0)∈(["set"]:List Str)from v9.mpr rfl)]
   rw[hdS,hdT,hdu]
   exact⟨rfl,k1,k2,k3,k4⟩
  rintro σ1 H7 P1
  exact_mod_cast a0x (P:=P ["set","copy"]) ?_ ?_
  rotate_left
  ·intro nx hnx
   have P1':=P1
   rw[hP]at P1
   obtain⟨rfl,k1,k2,k3,s7⟩:=P1
   refine b1I rfl (s7 _ _ hxH) (fun e=>?_) (fun e=>hnx _ _ (skip (by simp[e]) P1'))
   have hW:=row s7
   have hx:=s7 _ _ hxH
   have nd:R7 w∉(["set"]:List Str):=by rw[e];decide
   simp only[if_neg nd]at k1 k2
   obtain⟨n,v,rfl⟩:=c2F e
   obtain⟨er0,o,nm⟩:=hW
   cases er0
   specialize a3g ?_
   exists F0 hx (a6O _ _ _ _) ?_
   exists b2Y k1 o ?_
   refine F0 hx (a0m _ _ _) ?_
   refine put k1 k2 k3 s7 fun Hk j1 j2 j3 j4=>hnx _ _ ?_
   rw[hP]
   simp only[if_pos (show R7 (Rw.copy n v)∈(["set","copy"]:List Str)from(show("copy" : Str)∈(["set","copy"]:List Str) by decide))]
   rw[hdS,hdT,hdu]
   exact⟨rfl,j1,j2,j3,j4⟩
  rintro σ2 H8 P2
  exact_mod_cast a0x (P:=P ["set","copy","take"]) ?_ ?_
  rotate_left
  ·intro nx hnx
   have P2':=P2
   rw[hP]at P2
   obtain⟨rfl,k1,k2,k3,s8⟩:=P2
   refine b1I rfl (s8 _ _ hxH) (fun e=>?_) (fun e=>hnx _ _ (skip (by simp[e]) P2'))
   have hW:=row s8
   have hx:=s8 _ _ hxH
   have nd:R7 w∉(["set","copy"]:List Str):=by rw[e];decide
   simp only[if_neg nd]at k1 k2 ⊢
   obtain⟨n,rfl⟩:=c2E e
   obtain⟨er0,nm⟩:=hW
   cases er0
   exact_mod_cast W2 ?_
   specialize a3g ?_
   exists E6 (by simp) fun z0 Ha hz0 ea sa'=>?_
   refine⟨z0,_,_,rfl,rfl,ea,by omega,by omega,?_,fun z1 hz1=>?_⟩
   ·rw[sizeLine_eq];simp;omega
   have sb:A0 Ha (upd Ha z1 (.lst (u5 ((u:Int)+1).toNat [V.int 0]).flatten)):=D7 hz1
   obtain⟨Hb,hHb⟩:∃Hb,Hb=upd Ha z1 (.lst (u5 ((u:Int)+1).toNat [V.int 0]).flatten):=⟨_,rfl⟩
   have eb:Hb z1=some (.lst ((u5 (u+1) (0:Int)).map V.int)):=by
    rw[hHb,f6,show((u:Int)+1).toNat=u+1 by omega,c7F]
   rw[<-hHb]at sb ⊢
   have s8b:=sa'.trans sb
   refine b4p (s8b _ _ (s8 _ _ htk)) eb ?_
   refine E6 (by simp;omega) fun z2 Hc hz2 ec sc=>?_
   have s8c:=s8b.trans sc
   have ta:=c1h L0 u
   ext
   exists J0 ec (a0q (j:=u) (v:=.int (((L0.drop u).reverse).getLast?.getD 0)) (by rw[<-E2,d4,ta];rfl)) ?_
   refine F0 (s8c _ _ hx) (a0m _ _ _) ?_
   exists put (s8c _ _ k1) (s8c _ _ k2) (k3.same s8c) (s8.trans s8c) fun Hk j1 j2 j3 j4=>?_
   refine hnx _ _ ?_
   rw[hP]
   simp only[if_pos (show R7 (Rw.take n)∈(["set","copy","take"]:List Str)from(show("take" : Str)∈(["set","copy","take"]:List Str) by decide))]
   rw[hdS,hdT,hdu]
   refine⟨rfl,?_,j2,j3,j4⟩
   show Hk sd=some (.dK (SD (a2a q.S n (q.L.getLast?.getD 0))))
   rw[g2]
   exact j1
  rintro σ3 H9 P3
  exact_mod_cast a0x (P:=P ["set","copy","take","tell"]) ?_ ?_
  rotate_left
  ·intro nx hnx
   have P3':=P3
   rw[hP]at P3
   obtain⟨rfl,k1,k2,k3,s9⟩:=P3
   refine b1I rfl (s9 _ _ hxH) (fun e=>?_) (fun e=>hnx _ _ (skip (by simp[e]) P3'))
   have hW:=row s9
   have hx:=s9 _ _ hxH
   have nd:R7 w∉(["set","copy","take"]:List Str):=by rw[e];decide
   simp only[if_neg nd]at k1 k2 ⊢
   obtain⟨v,rfl⟩:=c2D e
   obtain⟨er0,o⟩:=hW
   cases er0
   ext
   specialize a3j ?_
   exists ⟨O3 k2,?_⟩
   exists F0 hx (a0m _ _ _) ?_
   exists b2Y k1 o ?_
   refine R6 k2 (J9 (by rw[c7];omega)) ?_
   have t10:L4 H9 (upd H9 tl (.lst (q.T.map V.int++[.int (a0C q.S v)]))):=L4.put k2
   refine hnx _ _ ?_
   rw[hP]
   simp only[if_pos (show R7 (Rw.tell v)∈(["set","copy","take","tell"]:List Str)from(show("tell" : Str)∈(["set","copy","take","tell"]:List Str) by decide))]
   rw[hdS,hdT,hdu]
   refine⟨rfl,(d6 (F6 k1 k2 (by intro z;cases z))).trans k1,?_,k3.off n3.symm t10,fun b o e=>by rw[d6 (d3 e ftl)];exact s9 _ _ e⟩
   rw[f6]
   show _=some (HO.lst ((q.T++[a0C q.S v]).map V.int))
   rw[E2];rfl
  rintro σ4 H10 P4
  have fin:(if R7 w∈(["set","copy","take","tell"]:List Str)then du else u)=du/\(if R7 w∈(["set","copy","take","tell"]:List Str)then dS else q.S)=dS/\(if R7 w∈(["set","copy","take","tell"]:List Str)then dT else q.T)=dT:=by
   rw[hdS,hdT,hdu]
   cases w with
   | ask v=>exact⟨rfl,rfl,rfl⟩
   | skip=>exact⟨rfl,rfl,rfl⟩
   | set n k a b=>exact⟨if_pos (show("set" : Str)∈_ by decide),if_pos (show("set" : Str)∈_ by decide),if_pos (show("set" : Str)∈_ by decide)⟩
   | copy n v=>exact⟨if_pos (show("copy" : Str)∈_ by decide),if_pos (show("copy" : Str)∈_ by decide),if_pos (show("copy" : Str)∈_ by decide)⟩
   | take n=>exact⟨if_pos (show("take" : Str)∈_ by decide),if_pos (show("take" : Str)∈_ by decide),if_pos (show("take" : Str)∈_ by decide)⟩
   | tell v=>exact⟨if_pos (show("tell" : Str)∈_ by decide),if_pos (show("tell" : Str)∈_ by decide),if_pos (show("tell" : Str)∈_ by decide)⟩
  rw[hP]at P4
  simp only[fin.1,fin.2.1,fin.2.2]at P4
  obtain⟨rfl,k1,k2,k3,s10⟩:=P4
  have gd:N.getD t []=l:=by rw[a2F,hl];rfl
  have eL:(doR w q.S q.L q.T).2.1=(L0.drop du).reverse:=by
   rw[hdu]
   cases w with
   | take n=>show q.L.dropLast=_;rw[g2,b7u];rfl
   | _=>exact g2
  have e1:st1 N W q=⟨dS,(L0.drop du).reverse,dT,q.W++[q.p],((t:Int),a1X w dS),decide (l.length=0)⟩:=by
   unfold st1
   rw[<-ht]
   show Rs.mk (doR (W t) q.S q.L q.T).1 (doR (W t) q.S q.L q.T).2.1 (doR (W t) q.S q.L q.T).2.2 (q.W++[q.p]) ((t:Int),a1X (W t) (doR (W t) q.S q.L q.T).1) (decide ((N.getD t []).length=0))=_
   rw[<-hwd,gd,eL,<-hdS,<-hdT]
  have er1:rn N W (m - (i+1)) (st1 N W q)=rn N W m q0:=by
   rw[<-er,show m - i=(m - (i+1))+1 by omega]
   show _=if q.e=true then q else rn N W _ (st1 N W q)
   rw[if_neg (by rw[he];decide)]
  have bS:bdS dS/\dS.length<=q.S.length+1/\dT.length<=q.T.length+1/\du<=u+1:=by
   refine⟨?_,?_,?_,by rw[hdu];split <;> omega⟩
   ·rw[hdS]
    cases hs:b4a w q.S q.L with
    | some ni=>rw[b1N hs];have:=b5I rwH b1 b2 hs;exact b1.put this.1 this.2
    | none=>
     cases w with
     | set n k a b=>cases hs
     | copy n v=>cases hs
     | take n=>cases hs
     | _=>exact b1
   ·rw[hdS]
    cases hs:b4a w q.S q.L with
    | some ni=>rw[b1N hs];exact a8H
    | none=>
     cases w with
     | set n k a b=>cases hs
     | copy n v=>cases hs
     | take n=>cases hs
     | _=>exact U4 _
   ·rw[hdT]
    cases w with
    | tell v=>show(q.T++[_]).length<=_;simp
    | _=>exact U4 _
  obtain⟨us,y,f1,f2',f3,_⟩:=(hn.same s10).at hl
  nofun
  exists J0 f1 f2' ?_
  refine E6 (by simp) fun z0 H11 hz0 e11 s11=>?_
  refine⟨_,b5Y (s11 _ _ f3) e11 (b6j l) rfl,?_⟩
  refine⟨_,rfl,?_⟩
  have s011:=s10.trans s11
  by_cases hz:l.length=0
  ·have hz':l=[]:=b5m.mp hz
   exists J1 (by rw[hz'];rfl) ?_
   refine E6 (by simp) fun tp H12 htp e12 s12=>?_
   refine k tp H12 ?_ (s011.trans s12)
   rw[<-er1,b9l (by rw[e1];exact c9s hz),e1]
   have s1012:=s11.trans s12
   refine⟨tl,wl,sd,ftl,fwl,hsd,n3,?_,s1012 _ _ k2,k3.same s1012,s1012 _ _ k1,bS.1⟩
   rw[e12]
   show _=some (HO.tup [_,_,_,V.bl (decide (l.length=0))])
   rw[c9s hz]
  ·have hz':l≠[]:=fun z=>hz (by rw[z];rfl)
   exists C4 (by cases l with | nil=>exact(hz' rfl).elim | cons a r=>rfl) ?_
   have hx:=s011 _ _ hxH
   exists F0 hx (R4 _ _) ?_
   have l2:=hv.two l (mI hl)
   have nxt:∀ {Hz:Hp} {sb:Addr},A0 H11 Hz->Hz sb=some (.tup [.int (t:Int),.int (a1X w dS)])->∃(q:Rs) (sa:Addr) (u:Nat) (y10 y11 y12:Option V),[some (.ref ra),some (.ref na),some (.ref st),some (.ref tk),some (.int (m:Int)),some (.ref sd),some (.ref tl),some (.ref wl),some (.int (du:Int)),some (.ref sb),some (.int (i:Int)),some (.int (t:Int)),some (.ref rx)]=[some (.ref ra),some (.ref na),some (.ref st),some (.ref tk),some (.int (m:Int)),some (.ref sd),some (.ref tl),some (.ref wl),some (.int (u:Int)),some (.ref sa),y10,y11,y12]/\Hz sd=some (.dK (SD q.S))/\q.L=(L0.drop u).reverse/\Hz tl=some (.lst (q.T.map V.int))/\G5 K Hz wl q.W/\a0K K Hz sa q.p/\A0 H Hz/\bdS q.S/\q.S.length<=100+(i+1)/\q.T.length<=i+1/\q.W.length=i+1/\u<=i+1/\q.e=false/\a0L N q.p/\rn N W (m - (i+1)) q=rn N W m q0:=fun {Hz sb} sz ez=>by
    have s10z:=s11.trans sz
    refine⟨⟨dS,(L0.drop du).reverse,dT,q.W++[q.p],((t:Int),a1X w dS),decide (l.length=0)⟩,sb,du,_,_,_,rfl,s10z _ _ k1,rfl,s10z _ _ k2,k3.same s10z,.inl ez,s10.trans s10z,bS.1,by have:=bS.2.1;show dS.length<=_;omega,by have:=bS.2.2.1;show dT.length<=_;omega,by show(q.W++[q.p]).length=_;rw[t5,b5];rfl,by have:=bS.2.2.2;omega,c9r hz,?_,by rw[<-e1];exact er1⟩
    refine .inr ⟨t,(a1X w dS).toNat,l,_,?_,hl,g8 ?_⟩
    ·rcases a4B (w:=w) dS with u | u <;> rw[u] <;> rfl
    ·rcases a4B (w:=w) dS with u | u
     ·rw[u];show 0<l.length;omega
     ·have:=(ha t l hl).mpr (hwd ▸ a8u dS (by rw[u];decide))
      rw[u];show 1<l.length;omega
   have plain:R7 w≠("ask" : Str)->a1X w dS=0:=fun z=>by
    cases w with
    | ask v=>exact(z rfl).elim
    | _=>rfl
   by_cases ek:R7 w=("ask" : Str)
   ·refine J1 (by rw[ek];decide) ?_
    have hW:=row s011
    obtain⟨v,rfl⟩:=c5A ek
    obtain⟨er0,o⟩:=hW
    cases er0
    ext
    exists F0 hx (a0m _ _ _) ?_
    exists b2Y (s11 _ _ k1) o ?_
    exists a8D ?_
    exists E6 (by simp) fun sb Hz hsb ez sz=>?_
    refine nxt sz ?_
    rw[ez]
    show _=some (HO.tup [_,V.int (if a0C dS v=0 then 1 else 0)])
    rw[show(if decide (V.int (a0C dS v)=V.int 0)=true then (1:Int)else 0)=if a0C dS v=0 then 1 else 0 by simp]
   ·exists C4 (c9r fun z=>ek (V.str.inj z)) ?_
    exists a8D ?_
    exists E6 (by simp) fun sb Hz hsb ez sz=>?_
    refine nxt sz ?_
    rw[ez,plain ek];rfl
 ·rintro _ Hi ⟨q,sa,u,y10,y11,y12,rfl,g1,g2,g3,g4,g5,si,b1,b3,b4,b5,bu,he,is,er⟩
  rw[Nat.sub_self]at er
  have er:q=rn N W m q0:=er
  ext
  refine E6 (by simp) fun tp H12 htp e12 s12=>?_
  refine k tp H12 ?_ (si.trans s12)
  rw[<-er]
  exact⟨tl,wl,sd,ftl,fwl,hsd,n3,by rw[e12,he],s12 _ _ g3,g4.same s12,s12 _ _ g1,b1⟩
end
structure b0t(N:Nt)(r:Rs):Prop where
 is:∀s∈r.W,a0L N s
 lk:∀(i:Nat) a b,r.W[i]? = some a->r.W[i+1]? = some b->b.1=(R1 N a:Int)
 nx:r.e=false->a0L N r.p/\∀a,r.W.getLast? = some a->r.p.1=(R1 N a:Int)
section
variable {K:Fg}{W:Nat->Rw}{r:Rs}{E:XK}
theorem c1Z(hv:a2u N)(ha:c0R N W)(h:b0t N r)(he:r.e=false):b0t N (st1 N W r):=by
 obtain⟨is,lk⟩:=h.nx he
 obtain⟨t,ht⟩:∃t,t=R1 N r.p:=⟨_,rfl⟩
 have htn:t<N.length:=ht ▸ a7H hv is
 obtain⟨l,hle⟩:∃l,l=N[t]:=⟨_,rfl⟩
 have hl:=M6 htn
 rw[<-hle]at hl
 have gd:N.getD t []=l:=by rw[a2F,hl];rfl
 obtain⟨dS,hdS⟩:∃dS,dS=(doR (W t) r.S r.L r.T).1:=⟨_,rfl⟩
 have e1:st1 N W r=⟨dS,(doR (W t) r.S r.L r.T).2.1,(doR (W t) r.S r.L r.T).2.2,r.W++[r.p],((t:Int),a1X (W t) dS),decide (l.length=0)⟩:=by
  unfold st1
  rw[<-ht,hdS]
  show Rs.mk _ _ _ _ _ (decide ((N.getD t []).length=0))=_
  rw[gd]
 rw[e1]
 refine⟨fun s hs=>?_,fun i a b f1 f2=>?_,fun z=>⟨?_,fun a e=>?_⟩⟩
 ·rcases C6.mp hs with q | q
  ·exact h.is s q
  ·rw[v9.mp q];exact is
 ·rcases U5 f2 with ⟨h2,f2⟩ | ⟨h2,f2⟩
  ·rcases U5 f1 with ⟨_,f1⟩ | ⟨h1,_⟩
   ·exact h.lk i a b f1 f2
   ·omega
  ·rcases U5 f1 with ⟨h1,f1⟩ | ⟨h1,_⟩
   ·rw[f2]
    refine lk a ?_
    rw[List.getLast?_eq_getElem?,show r.W.length - 1=i by omega]
    exact f1
   ·omega
 ·have z:¬l.length=0:=of_decide_eq_false z
  have l2:=hv.two l (mI hl)
  refine .inr ⟨t,(a1X (W t) dS).toNat,l,_,?_,hl,g8 ?_⟩
  ·rcases a4B (w:=W t) dS with u | u <;> rw[u] <;> rfl
  ·rcases a4B (w:=W t) dS with u | u
   ·rw[u];show 0<l.length;omega
   ·have:=(ha t l hl).mpr (a8u dS (by rw[u];decide))
    rw[u];show 1<l.length;omega
 ·have e:(r.W++[r.p]).getLast? = some a:=e
  rw[b7Y]at e
  cases e
  rw[<-ht]
theorem b5P(hv:a2u N)(ha:c0R N W):∀(m:Nat) (r:Rs),b0t N r->b0t N (rn N W m r)/\(rn N W m r).W.length<=r.W.length+m
 | 0,r,h=>⟨h,i9 _⟩
 | m+1,r,h=>by
  unfold rn
  cases he:r.e with
  | true=>rw[if_pos rfl];exact⟨h,by omega⟩
  | false=>
   rw[if_neg (by decide)]
   obtain⟨a,b⟩:=b5P hv ha m _ (c1Z (W:=W) hv ha h he)
   refine⟨a,I0 b ?_⟩
   show(r.W++[r.p]).length+m<=_
   rw[t5,C9];omega
theorem c6D:∀(m:Nat) (r:Rs),(rn N W m r).T.length<=r.T.length+m
 | 0,r=>i9 _
 | m+1,r=>by
  unfold rn
  split
  ·omega
  ·refine I0 (c6D m _) ?_
   have:(doR (W (R1 N r.p)) r.S r.L r.T).2.2.length<=r.T.length+1:=by
    cases W (R1 N r.p)with
    | tell v=>show(r.T++[_]).length<=_;simp
    | _=>exact U4 _
   show(doR (W (R1 N r.p)) r.S r.L r.T).2.2.length+m<=_
   omega
theorem b6T:b0t N ⟨S0,L0,[],[],FST,false⟩:=⟨(fun s h=>nomatch h),(fun i a b h=>nomatch h),fun _=>⟨.inl rfl,fun a h=>nomatch h⟩⟩
theorem c0r(hn:G7 H na N)(hp:c0N K H p r)(hr:b0t N r)(lW:r.W.length<=1000)(k:∀H',A0 H H'->Q (.bl true) H'):a5L K [.ref p,.ref na] H Q E:=by
 obtain⟨tl,wl,sl,h1,h2,h3,h4,bd⟩:=hp
 obtain⟨ps,w1,_⟩:=id h3.ex
 refine⟨rfl,?_⟩
 unfold b5C
 nofun
 refine a0z (s := "tuple") (by simp only[a0D,h1]) (by decide) ?_
 refine⟨_,rfl,?_⟩
 exists C4 (by decide) ?_
 exists a3k h1 ?_
 exists C4 (show(!decide (V.int ((4:Nat):Int)=V.int 4))=false by decide) ?_
 exists F0 h1 (c5R _ _ _ _ _) ?_
 refine a0z (s := "bool") rfl (by decide) ?_
 refine⟨_,rfl,?_⟩
 exists C4 (by decide) ?_
 nofun
 exists F0 h1 (R4 _ _) ?_
 refine a0z (s := "list") (by simp only[a0D,h2]) (by decide) ?_
 refine⟨_,rfl,?_⟩
 exists C4 (by decide) ?_
 exists F0 h1 (a0m _ _ _) ?_
 refine a0z (s := "list") (by simp only[a0D,w1]) (by decide) ?_
 refine⟨_,rfl,?_⟩
 exists C4 (by decide) ?_
 exists F0 h1 (a6O _ _ _ _) ?_
 refine a0z (s := "dict") (by simp only[a0D,h4]) (by decide) ?_
 refine⟨_,rfl,?_⟩
 exists C4 (by decide) ?_
 exact_mod_cast W2 ?_
 specialize a0b (X6 ?_)
 refine F0 h1 (R4 _ _) ?_
 refine⟨tl,rfl,⟨_,SqL.of h2⟩,a1l (xs:=r.T.map V.int) (fun j σ Hi=>∃y2,σ=[some (.ref p),some (.ref na),y2,none]/\H=Hi) ⟨_,rfl,rfl⟩ ?_ ?_ ?_⟩
 ·rintro j σ Hi _ ⟨_,_,rfl⟩
  exact SqL.of h2
 ·rintro j v _ Hi hv ⟨y2,rfl,rfl⟩
  rw[d4]at hv
  obtain⟨n,_,rfl⟩:=G8.mp hv
  ext
  refine a1A ?_
  refine⟨_,rfl,?_⟩
  exists C4 rfl ?_
  exact⟨_,rfl,rfl⟩
 rintro _ _ ⟨y2,rfl,rfl⟩
 ext
 exact_mod_cast W2 ?_
 intro PP
 specialize a0b (c6A ?_)
 refine F0 h1 (a6O _ _ _ _) ?_
 refine⟨sl,SD r.S,rfl,h4,fun hP ob=>?_⟩
 obtain⟨Hf,hHf⟩:∃Hf,Hf=upd H sl (.frz ob (.dK (SD r.S))):=⟨_,rfl⟩
 have hf:Hf sl=some (.frz ob (.dK (SD r.S))):=hHf ▸ f6
 have of_:∀ {b:Addr} {o:HO},H b=some o->b≠sl->Hf b=some o:=fun e n=>by rw[hHf,d6 n];exact e
 rw[<-hHf]
 have pn:p≠sl:=F6 h1 h4 (by intro z;cases z)
 have lS:(SD r.S).length=r.S.length:=by unfold SD;rw[c7]
 refine b3j (J:=Itk ob sl (SD r.S)) r.S.length (fun i σ Hi=>∃y3,σ=[some (.ref p),some (.ref na),y2,y3]/\Hf=Hi) ⟨_,rfl,rfl⟩ ?_ ?_ ?_
 ·rintro _ _ ⟨y3,rfl,rfl⟩
  refine⟨⟨by rw[lS];exact i9 _,hf⟩,sl,ob,SD r.S,hf,hP,?_⟩
  have sm:A0 H (upd Hf sl (.dK (SD r.S))):=fun b o e=>by
   by_cases z:b=sl
   ·rw[z,h4]at e
    cases e
    rw[z];exact f6
   ·rw[d6 z];exact of_ e z
  obtain⟨Hg,hHg⟩:∃Hg,Hg=upd Hf sl (.dK (SD r.S)):=⟨_,rfl⟩
  rw[<-hHg]at sm ⊢
  ext
  exists F0 (sm _ _ h1) (a0m _ _ _) ?_
  refine b1k (hn.same sm) (h3.same sm) hr.is hr.lk lW fun D Hd hD eD sD=>?_
  refine⟨rfl,?_⟩
  exact k Hd (sm.trans sD)
 ·rintro i _ _ hi ⟨y3,rfl,rfl⟩
  exact⟨by rw[lS];exact hi,hf⟩
 ·rintro i _ _ hi ⟨y3,rfl,rfl⟩ v Hi ⟨rfl,kk,hk,rfl⟩
  unfold SD at hk
  rw[d4]at hk
  obtain⟨⟨n,j⟩,hq,rfl⟩:=G8.mp hk
  ext
  refine a0z (s := "str") rfl (by decide) ?_
  refine⟨_,rfl,?_⟩
  exists C4 (by decide) ?_
  specialize c4e ?_
  exists F0 (of_ h1 pn) (a6O _ _ _ _) ?_
  have gv:a2X (SD r.S) (Sum.inr n)=some (.int (a9D r.S n)):=by
   rcases c0L (S:=r.S) (s:=n)with ⟨z,_⟩ | z
   ·have nd:=c0M bd
    have m:(Sum.inr n,V.int j)∈SD r.S:=E3.mpr ⟨(n,j),mI hq,rfl⟩
    rw[a8c nd m]at z
    cases z
   ·exact z
  exists ⟨sl,_,rfl,.inl ⟨SD r.S,Sum.inr n,.inr ⟨ob,hf⟩,rfl,gv.symm⟩,?_⟩
  refine a1A ?_
  refine⟨_,rfl,?_⟩
  exists C4 rfl ?_
  exact⟨_,rfl,rfl⟩
end
section
variable {K:Fg}{E:XK}
theorem b8J(l5:ss.length<=5):((["spare","k9","x1","y2","z3","w4"]:List Str).filter fun s => !decide (s∈ss))≠[]:=by
 intro z
 have:=b5T (["spare","k9","x1","y2","z3","w4"]:List Str) ss (by decide) fun x hx=>by
  by_cases h:x∈ss
  ·exact h
  ·have m:x∈(["spare","k9","x1","y2","z3","w4"]:List Str).filter fun s => !decide (s∈ss):=a2e.mpr ⟨hx,by simp[h]⟩
   rw[z]at m
   cases m
 have l6:(["spare","k9","x1","y2","z3","w4"]:List Str).length=6:=rfl
 omega
theorem b8I{nl:Addr}(hB:Bag H b d)(hn:H nl=some (.lst (ss.map V.str)))(nb:nl≠b)(l5:ss.length<=5)
  (k:∀sd S H',H sd=none->H' sd=some (.dK (SD S))->bdS S->S.length<=100->Bag H' b d->C8 b H H'->Q (.ref sd) H'):a5I K [.ref b,.ref nl] H Q E:=by
 refine⟨rfl,?_⟩
 unfold b5y
 nofun
 exists b4l fun sd H1 hsd e1 s1=>?_
 have B1:=hB.same s1
 have nsd:=(hB.nb hsd).1
 have nsc:=(hB.nb hsd).2
 have put:∀ {Hi:Hp} {S:Sto} {n:Str} {i:Int} {m:Nat} {D:a5p} {σ:St},Hi sd=some (.dK (SD S))->bdS S->S.length<=m->m<=99->Bag Hi b d->C8 b H Hi->(∀H',(∃S,H' sd=some (.dK (SD S))/\bdS S/\S.length<=m+1/\Bag H' b d/\C8 b H H')->D.nx σ H')->0<=i->i<1000000000000->∃a H4,V.ref sd=.ref a/\a7w Hi a (.str n) (.int i) H4/\D.nx σ H4:=fun {Hi S n i m D σ} g1 g2 g3 g4 g5 g6 kk i0 i1=>by
  refine⟨sd,_,rfl,a7w.k (k:=Sum.inr n) g1 (J9 (by unfold SD;rw[c7];omega)),?_⟩
  rw[b5i g2.1]
  exact kk _ ⟨a2a S n i,f6,g2.put i0 i1,by have:=a8H (S:=S) (n:=n) (i:=i);omega,g5.put nsd nsc,g6.put hsd⟩
 exact_mod_cast W2 ?_
 specialize a0b (X6 ?_)
 refine⟨nl,rfl,⟨_,SqL.of (s1 _ _ hn)⟩,a1l (xs:=ss.map V.str) (fun j σ H2=>∃y3 S,σ=[some (.ref b),some (.ref nl),some (.ref sd),y3,none]/\H2 sd=some (.dK (SD S))/\bdS S/\S.length<=j/\Bag H2 b d/\C8 b H H2) ⟨_,[],rfl,e1,⟨List.nodup_nil,fun p hp=>nomatch hp⟩,i9 _,B1,C8.of_same s1⟩ ?_ ?_ ?_⟩
 ·rintro j σ H2 _ ⟨_,_,_,_,_,_,_,k2⟩
  exact SqL.of (k2.1 _ _ hn nb)
 ·rintro j v _ H2 hv ⟨y3,S,rfl,g1,g2,g3,B2,k2⟩
  rw[d4]at hv
  obtain⟨s,hs,rfl⟩:=G8.mp hv
  have hj:=(gI hs)
  ext
  refine G0 B2 (by decide) (by decide) fun n3 H3 c0 c1 B3 k3=>?_
  have g13:=k3.1 _ _ g1 nsd
  ext
  refine Y2 (fun _=>?_) (fun _=>?_)
  ·specialize a3g ?_
   exists a5B B3 fun i H4 i0 i1 B4 k4=>?_
   exact put (k4.1 _ _ g13 nsd) g2 g3 (by omega) B4 ((k2.trans k3).trans k4) (fun H' ⟨S',q⟩=>⟨_,S',rfl,q⟩) i0 i1
  ·ext
   exact⟨_,S,rfl,g13,g2,by omega,B3,k2.trans k3⟩
 rintro _ H2 ⟨y3,S,rfl,g1,g2,g3,B2,k2⟩
 rw[c7]at g3
 ext
 exact_mod_cast W2 ?_
 refine c3U ?_
 specialize Z4 (X6 ?_)
 refine E6 (by simp) fun l0 H3 hl0 e3 s3=>?_
 obtain⟨sp,hsp⟩:∃sp:List Str,sp=(["spare","k9","x1","y2","z3","w4"]:List Str):=⟨_,rfl⟩
 have e3:H3 l0=some (.lst (sp.map V.str)):=by rw[hsp];exact e3
 have ne:=b8J l5
 rw[<-hsp]at ne
 have hn3:=s3 _ _ (k2.1 _ _ hn nb)
 refine⟨l0,rfl,⟨_,SqL.of e3⟩,fun D hD=>?_⟩
 refine c5O (J:=Itl K l0) sp.length (fun i ys H9=>ys=((sp.take i).filter fun s => !decide (s∈ss)).map V.str/\H9 D=some (.lst ys)/\A0 H3 H9) ⟨rfl,f6,D7 hD⟩ ?_ ?_ ?_ ?_
 ·rintro i ys H9 ⟨_,h,_⟩
  exact h
 ·rintro ys H9 ⟨rfl,hD9,s9⟩
  refine⟨⟨_,SqL.of (s9 _ _ e3),by rw[c7];exact i9 _⟩,?_⟩
  rw[X9]at hD9
  have s29:=s3.trans s9
  have B9:=B2.same s29
  have k9:=k2.trans (C8.of_same s29)
  obtain⟨s,r,hf⟩:=List.exists_cons_of_ne_nil ne
  rw[hf]at hD9
  ext
  exact_mod_cast W2 ?_
  specialize a3g ?_
  exists a5B B9 fun i H10 i0 i1 B10 k10=>?_
  refine J0 (k10.1 _ _ hD9 ((B2.same s3).nb hD).1) (R4 _ _) ?_
  refine put (m:=5) (k10.1 _ _ (s29 _ _ g1) nsd) g2 (by omega) (by omega) B10 (k9.trans k10) ?_ i0 i1
  rintro H' ⟨S',q1,q2,q3,q4,q5⟩
  ext
  exact k sd S' H' hsd q1 q2 (by omega) q4 q5
 ·rintro i ys H9 hi ⟨_,_,s9⟩
  exact⟨_,.str (sp[i]'hi),SqL.of (s9 _ _ e3),by rw[d4,g8 hi];rfl⟩
 ·rintro i ys H9 hi ⟨rfl,hD9,s9⟩ v H10 ⟨rfl,gv⟩ R S' hR hS'
  have gv:=gv _ (SqL.of (s9 _ _ e3))
  rw[d4,g8 hi]at gv
  cases gv
  have tk:(sp.take (i+1)).filter (fun s => !decide (s∈ss))=(sp.take i).filter (fun s => !decide (s∈ss))++if(!decide (sp[i]∈ss))=true then [sp[i]] else []:=by
   rw[P5,g8 hi,a2G]
   congr 1
   simp only[Option.toList_some,List.filter_cons,List.filter_nil]
  ext
  refine c4s (s9 _ _ hn3) ?_
  refine⟨_,rfl,?_⟩
  cases hb : !decide (sp[i]∈ss)with
  | false=>
   rw[hb,if_neg (by decide),b0w]at tk
   exact C4 rfl (hS' _ ⟨by rw[tk],hD9,s9⟩)
  | true=>
   rw[hb,if_pos rfl]at tk
   exists J1 rfl ?_
   have l6:sp.length=6:=by rw[hsp];rfl
   have lle:((sp.take i).filter fun s => !decide (s∈ss)).length<=i:=by
    refine I0 (a1w _ _) ?_
    rw[J4];omega
   exact hR _ _ hD9 (J9 (by rw[c7];omega)) ⟨by rw[tk,E2];rfl,f6,fun b o e=>by rw[d6 (d3 e hD)];exact s9 _ _ e⟩
theorem b8z(hB:Bag H b d)(k:∀tl L H',H tl=none->H' tl=some (.lst ((L:List Int).map V.int))->(∀x∈L,0<=x/\x<1000000000000)->L.length<=100->Bag H' b d->C8 b H H'->Q (.ref tl) H'):a5H K [.ref b] H Q E:=by
 refine⟨rfl,?_⟩
 unfold b5x
 exact_mod_cast b9a ?_
 specialize Z4 (a0G ?_)
 exists G0 hB (by decide) (by decide) fun n1 H1 a0 a1 B1 k1=>?_
 refine a8D ?_
 exists W3 (.inl (by decide)) ?_
 obtain⟨mm,hmm,m7⟩:∃mm:Int,mm=7+54 * (if decide (V.int n1=V.int 7)=true then 1 else 0)/\0<mm/\mm<=61:=⟨_,rfl,by split <;> omega,by split <;> omega⟩
 rw[<-hmm]
 refine G0 B1 m7.1 (by omega) fun n2 H2 b0 b1 B2 k2=>?_
 obtain⟨n,rfl⟩:=C7 b0
 ext
 refine⟨(n:Int),rfl,by omega,by omega,fun tl htl=>?_⟩
 obtain⟨ntl,ntc⟩:=B2.nb htl
 have k02:=k1.trans k2
 rw[A7]
 refine a4n (fun i ys H10=>∃L:List Int,ys=L.map V.int/\L.length=i/\(∀x∈L,0<=x/\x<1000000000000)/\H10 tl=some (.lst ys)/\Bag H10 b d/\C8 b H2 H10) ⟨[],rfl,rfl,by simp,f6,B2.new htl,C8.new htl⟩ ?_ ?_ ?_
 ·rintro i ys H10 ⟨_,_,_,_,h,_⟩
  exact h
 ·rintro i ys H10 hi ⟨L,rfl,rfl,bl,hd,B10,k10⟩ R hR
  ext
  refine a5B B10 fun v H11 v0 v1 B11 k11=>?_
  refine hR _ _ (k11.1 _ _ hd ntl) (J9 (by rw[c7];omega)) ⟨L++[v],by simp,by simp,fun x hx=>?_,f6,B11.put ntl ntc,(k10.trans k11).put htl⟩
  rcases C6.mp hx with q | q
  ·exact bl x q
  ·rw[v9.mp q];exact⟨v0,v1⟩
 rintro ys H10 ⟨L,rfl,lL,bl,htl10,B10,k10⟩
 exact k tl L H10 (k02.none htl) htl10 bl (by omega) B10 (k02.trans k10)
theorem c2u(hB:Bag H b d)(k:∀(m:Nat) H',m<=120->Bag H' b d->C8 b H H'->Q (.int (m:Int)) H'):a7y K [.ref b] H Q E:=by
 refine⟨rfl,?_⟩
 unfold b8C
 ext
 exists G0 hB (by decide) (by decide) fun n1 H1 a0 a1 B1 k1=>?_
 exists E6 (by simp) fun p G hp e s=>?_
 refine G0 (B1.same s) (by decide) (by decide) fun n3 H3 c0 c1 B3 k3=>?_
 have hp3:=k3.1 p _ e (B1.nb hp).1
 obtain⟨v,hv,hv2⟩:=a1u (xs:=[V.int n1,.int 120,.int 0,.int 1,.int 120]) c0 (by simpa using c1)
 refine J0 hp3 hv ?_
 have kk:=(k1.trans (C8.of_same s)).trans k3
 have m:=mI hv2
 simp only[p8,E5,or_false]at m
 obtain⟨n,rfl⟩:=C7 a0
 rcases m with rfl | rfl | rfl | rfl | rfl
 ·exact k n _ (by omega) B3 kk
 ·exact k 120 _ (by decide) B3 kk
 ·exact k 0 _ (by decide) B3 kk
 ·exact k 1 _ (by decide) B3 kk
 ·exact k 120 _ (by decide) B3 kk
end
structure a6S(H:Hp)(al p:Addr):Prop where
 ex:∃(sd tl:Addr) (S:Sto) (L:List Int) (m:Nat),H p=some (.tup [.ref sd,.ref tl,.int (m:Int)])/\H sd=some (.dK (SD S))/\bdS S/\S.length<=100/\H tl=some (.lst (L.map V.int))/\(∀x∈L,0<=x/\x<1000000000000)/\L.length<=100/\m<=120/\tl≠al
section
variable {K:Fg}{c:Cn}{x q z:Addr}{W:Nat->Rw}{r:Rs}{E:XK}
theorem c2I{tl:Addr}(hB:Bag H b d)(h:H tl=some (.lst (L.map V.int))):tl≠b:=by
 obtain⟨i0,i1,i2,ns,hb,_⟩:=hB.ex
 refine F6 h hb fun e=>?_
 have e:=HO.lst.inj e
 have:=congrArg (fun l=>l[3]?) e
 simp only[d4]at this
 cases z:L[3]? with
 | none=>rw[z]at this;cases this
 | some j=>rw[z]at this;cases this
theorem a6S.same{al:Addr}(h:a6S H al p)(s:A0 H H'):a6S H' al p:=let⟨sd,tl,S,L,m,a,b,c,d,e,f⟩:=h.ex; ⟨sd,tl,S,L,m,s _ _ a,s _ _ b,c,d,s _ _ e,f⟩
theorem a6S.kept{al:Addr}(h:a6S H al p)(hB:Bag H b d)(k:C8 b H H'):a6S H' al p:=by
 obtain⟨sd,tl,S,L,m,h1,h2,h3,h4,h5,h6⟩:=h.ex
 obtain⟨xs,hb⟩:=hB.lst
 exact⟨sd,tl,S,L,m,k.1 _ _ h1 (F6 h1 hb (by intro z;cases z)),k.1 _ _ h2 (F6 h2 hb (by intro z;cases z)),h3,h4,k.1 _ _ h5 (c2I hB h5),h6⟩
theorem a6Q.same(h:a6Q K H0 H q r)(s:A0 H H'):a6Q K H0 H' q r:=let⟨tl,wl,sl,a,b,c,d,e,f,g,i,j⟩:=h; ⟨tl,wl,sl,a,b,c,d,s _ _ e,s _ _ f,g.same s,s _ _ i,j⟩
theorem a6Q.put{o0 o':HO}(h:a6Q K H0 H q r)(h0:H0 z=some o0)(ho:H z=some o)(nt:∀xs,o≠.tup xs):a6Q K H0 (upd H z o') q r:=by
 obtain⟨tl,wl,sl,a,b,c,d,e,f,g,i,j⟩:=h
 have t:L4 H (upd H z o'):=fun b ys e=>(d6 (F6 e ho fun z=>nt _ z.symm)).trans e
 exact⟨tl,wl,sl,a,b,c,d,t _ _ e,(d6 (d3 h0 a).symm).trans f,g.off (d3 h0 b).symm t,(d6 (d3 h0 c).symm).trans i,j⟩
theorem b9h(h:to σ H fun x H1=>tyV K "dict" x H1/\f x [] H1 Q):a9u K "dict" f to σ H Q:=h
theorem b5t{kvs:List (Key×V)}(h:H p=some (.dK kvs)):tyV K "dict" (.ref p) H:=.inr (.inr (.inl ⟨rfl,.inl ⟨kvs,h⟩⟩))
theorem c0J{al:Addr}(ck:a9m K c)(pk:PlK K c H x N rs RC W)(hv:a2u N)(hra:H ra=some (.lst (rs.map V.ref)))(hn:G7 H na N)(hA:a6S H al p)(k:∀H',A0 H H'->Q (.bl true) H'):a5N K c [.ref x,.ref ra,.ref na,.ref p] H Q E:=by
 obtain⟨sd,tk,S,L,m,hp,hsd,bd,lS,htk,bl,lL,hm,_⟩:=hA.ex
 obtain⟨r,hr⟩:∃r,r=rn N W m ⟨S,L.reverse,[],[],FST,false⟩:=⟨_,rfl⟩
 obtain⟨pr,lW⟩:=b5P (W:=W) hv pk.ask m _ (b6T (N:=N) (S0:=S) (L0:=L.reverse))
 rw[<-hr]at pr lW
 have lW:r.W.length<=0+m:=lW
 have lT:r.T.length<=0+m:=hr ▸ c6D (N:=N) (W:=W) m ⟨S,L.reverse,[],[],FST,false⟩
 have lW:r.W.length<=1000:=by omega
 refine⟨rfl,?_⟩
 unfold b5D
 nofun
 refine⟨p,_,rfl,SqT.of hp,rfl,_,_,rfl,_,_,rfl,_,_,rfl,rfl,?_⟩
 nofun
 unfold a4S
 simp only[hsd]
 intro h0 hh0
 have s1:A0 H (upd H h0 (.dK (SD S))):=D7 hh0
 obtain⟨H1,hH1⟩:∃H1,H1=upd H h0 (.dK (SD S)):=⟨_,rfl⟩
 have e01:H1 h0=some (.dK (SD S)):=hH1 ▸ f6
 rw[<-hH1]at s1 ⊢
 ext
 exists a1F (s1 _ _ htk) fun h1 H2 hh1 e12 s2=>?_
 exists E6 (by simp) fun hd H3 hhd e33 s3=>?_
 have s03:=(s1.trans s2).trans s3
 have fh1:H h1=none:=s1.free hh1
 have e03:=s3 _ _ (s2 _ _ e01)
 have e13:=s3 _ _ e12
 nofun
 have pk3:=pk.same s03
 refine b4O (s03 _ _ hra) pk.len (hn.same s03) hv pk3.rc pk3.rw pk3.ask (s03 _ _ hsd) bd lS (s03 _ _ htk) bl lL (by omega) fun q1 H4 r4 s4=>?_
 rw[<-hr]at r4
 ext
 have s04:=s03.trans s4
 have e04:=s4 _ _ e03
 have e14:=s4 _ _ e13
 have e34:=s4 _ _ e33
 nofun
 exists J0 e34 (R4 _ _) ?_
 exists J0 e34 (a0m _ _ _) ?_
 refine b5O ck (pk.same s04) hv e04 bd lS e14 bl (by omega) fun q2 H5 r5 s5=>?_
 rw[<-hr]at r5
 ext
 have s05:=s04.trans s5
 have ne_:∀ {Hi:Hp} {sg:St} {R:Bool->Hp->Prop},sg[7]? = some (some (.ref hd))->sg[4]? = some (some (.ref sd))->sg[5]? = some (some (.ref tk))->A0 H4 Hi->(∀Hj,A0 Hi Hj->R false Hj)->D5 (tOp (b9s K) (c6 7) (V9 (b6 (c6 4) (b6 (c6 5) d7)))) sg Hi R:=fun {Hi sg R} g7 g4 g5 si kk=>by
  refine b0W (b9b (a7h g7 (c3p (b4n (a7h g4 (b4n (a7h g5 (c3o ?_))))))))
  refine E6 (by simp) fun nl Hj hnl ej sj=>?_
  have s4j:=si.trans sj
  have s0j:=s04.trans s4j
  refine⟨hd,nl,_,_,rfl,rfl,SqL.of (s4j _ _ e34),SqL.of ej,rfl,fun j u v f1 f2=>?_,?_⟩
  ·match j with
   | 0=>
    cases f1;cases f2
    exact .inr ⟨h0,sd,_,rfl,rfl,s4j _ _ e04,s0j _ _ hsd,c0M bd,b6h⟩
   | 1=>
    cases f1;cases f2
    refine .inl (.lst (SqL.of (s4j _ _ e14)) (SqL.of (s0j _ _ htk)) rfl fun i x y f1 f2=>?_)
    rw[f1]at f2
    cases f2
    rw[d4]at f1
    obtain⟨z,_,rfl⟩:=G8.mp f1
    exact .flat rfl
   | j+2=>cases f1
  ·exact⟨_,rfl,kk Hj sj⟩
 exact_mod_cast W2 ?_
 exact_mod_cast c1u ?_
 specialize c3W ?_
 refine c0r (hn.same s05) r5.t pr lW fun H6 s6=>?_
 refine⟨_,rfl,?_⟩
 refine C4 rfl ?_
 exact_mod_cast c3W ?_
 have s46:=s5.trans s6
 obtain⟨xs,ys,a1,b1,l1,l2,_,dd⟩:=(r5.same s6).t.dd (r4.same s46).t
 refine b0W (b9b (a7h rfl (a7h rfl ?_)))
 refine⟨q2,q1,_,_,rfl,rfl,SqT.of a1,SqT.of b1,by rw[l1,l2],dd,?_⟩
 refine⟨_,rfl,?_⟩
 refine C4 rfl ?_
 refine ne_ rfl rfl rfl s46 fun H7 s7=>?_
 refine C4 rfl ?_
 exact_mod_cast b0Y ?_
 have s47:=s46.trans s7
 obtain⟨tl,wl,sl,ft,fw,fs,ntw,c1,c2,c3,c4,c5⟩:=r5.same (s6.trans s7)
 obtain⟨ps,w1,_⟩:=id c3.ex
 nofun
 specialize a3j ?_
 refine F0 c1 (R4 _ _) ?_
 exists ⟨O3 c2,?_⟩
 refine R6 c2 (J9 (by rw[c7];omega)) ?_
 have t8:L4 H7 (upd H7 tl (.lst (r.T.map V.int++[.int 7]))):=L4.put c2
 obtain⟨H8,hH8⟩:∃H8,H8=upd H7 tl (.lst (r.T.map V.int++[.int 7])):=⟨_,rfl⟩
 have w8:H8 wl=some (.lst (ps.map V.ref)):=by rw[hH8,d6 ntw.symm];exact w1
 have d8:H8 sl=some (.dK (SD r.S)):=by rw[hH8,d6 (F6 c4 c2 (by intro z;cases z))];exact c4
 have s48:A0 H4 H8:=fun b o e=>by rw[hH8,d6 (d3 e ft)];exact s47 _ _ e
 rw[<-hH8]at t8 ⊢
 have c18:=t8 _ _ c1
 ext
 nofun
 specialize b5M ?_
 refine F0 c18 (a0m _ _ _) ?_
 refine⟨O3 w8,b5R w8 ?_⟩
 have t9:L4 H8 (upd H8 wl (.lst [])):=L4.put w8
 obtain⟨H9,hH9⟩:∃H9,H9=upd H8 wl (.lst []):=⟨_,rfl⟩
 have d9:H9 sl=some (.dK (SD r.S)):=by rw[hH9,d6 (F6 d8 w8 (by intro z;cases z))];exact d8
 have s49:A0 H4 H9:=fun b o e=>by rw[hH9,d6 (d3 e fw)];exact s48 _ _ e
 rw[<-hH9]at t9 ⊢
 ext
 nofun
 specialize b9h ?_
 refine F0 (t9 _ _ c18) (a6O _ _ _ _) ?_
 refine⟨b5t d9,sl,_,rfl,rfl,d9,?_⟩
 obtain⟨H10,hH10⟩:∃H10,H10=upd H9 sl (.dK []):=⟨_,rfl⟩
 have s410:A0 H4 H10:=fun b o e=>by rw[hH10,d6 (d3 e fs)];exact s49 _ _ e
 rw[<-hH10]
 ext
 exact_mod_cast W2 ?_
 exact_mod_cast c1u ?_
 refine ne_ rfl rfl rfl s410 fun H11 s11=>?_
 refine C4 rfl ?_
 exact_mod_cast b0Y ?_
 have s411:=s410.trans s11
 nofun
 specialize b9h ?_
 refine J0 (s411 _ _ e34) (R4 _ _) ?_
 have e011:=s411 _ _ e04
 refine⟨b5t e011,h0,_,rfl,rfl,e011,?_⟩
 have r11:=r4.same s411
 have r12:a6Q K H3 (upd H11 h0 (.dK [])) q1 r:=r11.put e03 e011 fun _ z=>nomatch z
 obtain⟨H12,hH12⟩:∃H12,H12=upd H11 h0 (.dK []):=⟨_,rfl⟩
 have n01:h1≠h0:=(d3 e01 hh1).symm
 have n0d:hd≠h0:=(d3 (s2 _ _ e01) hhd).symm
 have e112:H12 h1=some (.lst (L.map V.int)):=by rw[hH12,d6 n01];exact s411 _ _ e14
 have e312:H12 hd=some (.lst [.ref h0,.ref h1]):=by rw[hH12,d6 n0d];exact s411 _ _ e34
 have s012:A0 H H12:=fun b o e=>by rw[hH12,d6 (d3 e hh0)];exact s411 _ _ (s04 _ _ e)
 rw[<-hH12]at r12 ⊢
 ext
 nofun
 specialize a3j ?_
 refine J0 e312 (a0m _ _ _) ?_
 exists ⟨O3 e112,?_⟩
 refine R6 e112 (J9 (by rw[c7];omega)) ?_
 have r13:a6Q K H3 (upd H12 h1 (.lst (L.map V.int++[.int 5]))) q1 r:=r12.put e13 e112 fun _ z=>nomatch z
 obtain⟨H13,hH13⟩:∃H13,H13=upd H12 h1 (.lst (L.map V.int++[.int 5])):=⟨_,rfl⟩
 have s013:A0 H H13:=fun b o e=>by rw[hH13,d6 (d3 e fh1)];exact s012 _ _ e
 rw[<-hH13]at r13 ⊢
 ext
 simp only[s013 _ _ hsd]
 intro g0 hg0
 have s14:A0 H13 (upd H13 g0 (.dK (SD S))):=D7 hg0
 obtain⟨H14,hH14⟩:∃H14,H14=upd H13 g0 (.dK (SD S)):=⟨_,rfl⟩
 have e14':H14 g0=some (.dK (SD S)):=hH14 ▸ f6
 rw[<-hH14]at s14 ⊢
 ext
 have s014:=s013.trans s14
 exists a1F (s014 _ _ htk) fun g1 H15 hg1 e15 s15=>?_
 have s015:=s014.trans s15
 refine b5O ck (pk.same s015) hv (s15 _ _ e14') bd lS e15 bl (by omega) fun q3 H16 r16 s16=>?_
 rw[<-hr]at r16
 ext
 obtain⟨xs',ys',a1',b1',l1',l2',_,dd'⟩:=r16.t.dd (r13.same ((s14.trans s15).trans s16)).t
 exact⟨q3,q1,_,_,rfl,rfl,SqT.of a1',SqT.of b1',by rw[l1',l2'],dd',k H16 (s015.trans s16)⟩
end
theorem law_reading(K:Fg)(hl:ns.length<=63)(hO:c2Y H)(hS:SqL K H a (ns.map V.int)):a8r K [.ref a] H (fun v _=>v=.bl true) (fun _ _ _=>False):=by
 have p64:(2:Int) ^ 64=18446744073709551616:=by decide
 refine⟨rfl,fun c ck=>?_⟩
 unfold b8D
 nofun
 exists c5Q hS hl fun b d H1 B1 s1 _=>?_
 nofun
 refine b6P B1 fun p1 ra na sa da N H2 e2 R T M2 ⟨ss,hss,ss2,ss5⟩ P2 hv l24 nra nna B2 k2=>?_
 refine⟨p1,_,rfl,SqT.of e2,rfl,_,_,rfl,_,_,rfl,_,_,rfl,_,_,rfl,rfl,?_⟩
 obtain⟨rs,hrs,lrs,_⟩:=id R.ex
 have nsa:sa≠b:=(M2.kept B2 (C8.of_same (A0.refl _))).2
 nofun
 exists a1F hrs fun ra' H3 hra' e3 s3=>?_
 exists b7k (T.same s3) hv.le fun na' ms H4 hna' e4 f4 T4 s4=>?_
 exists E6 (by simp) fun hd H5 hhd e5 s5=>?_
 nofun
 specialize c3Z ?_
 exists J0 e5 (R4 _ _) ?_
 exists J0 e5 (a0m _ _ _) ?_
 intro x dx hx hdx hne
 have sm:A0 H5 (upd (upd H5 dx (.own x)) x (.ins c.T1 dx [])):=fun b o e=>by
  rw[d6 (d3 e hx),d6 (d3 e hdx)];exact e
 obtain⟨H6,hH6⟩:∃H6,H6=upd (upd H5 dx (.own x)) x (.ins c.T1 dx []):=⟨_,rfl⟩
 have x6:H6 x=some (.ins c.T1 dx []):=hH6 ▸ f6
 rw[<-hH6]at sm ⊢
 have s34:=s3.trans s4
 have s35:=s34.trans s5
 have s36:=s35.trans sm
 have r5:H5 ra'=some (.lst (rs.map V.ref)):=s5 _ _ (s4 _ _ e3)
 have n5:=s5 _ _ e4
 have R5:W1 H5 ra' N:=by
  obtain⟨rs',q1,q2,q3⟩:=id (R.same s35).ex
  rw[s35 _ _ hrs]at q1
  obtain rfl:rs'=rs:=(Y7 (f:=V.ref) (fun a b h=>V.ref.inj h) |>.mp (HO.lst.inj (Option.some.inj q1))).symm
  exact⟨rs',r5,q2,q3⟩
 refine b1j (E:=E0) ck (sm _ _ r5) (R5.same sm) ((T4.same s5).same sm) hv x6 fun H7 pz old=>⟨rfl,?_⟩
 have s57:A0 H5 H7:=fun b o e=>old b o (sm _ _ e) (d3 e hx)
 have s37:=s35.trans s57
 ext
 nofun
 specialize b5M ?_
 refine J0 (s57 _ _ e5) (R4 _ _) ?_
 have r7:=s57 _ _ r5
 refine⟨O3 r7,b5R r7 ?_⟩
 have nar:na'≠ra':=(d3 e3 hna').symm
 have hdr:hd≠ra':=(d3 (s4 _ _ e3) hhd).symm
 have pz8:a1m K c _ rs _ x N:=pz.put (ys:=[]) ⟨_,sm _ _ r5,d3 r5 hx⟩ r7
 obtain⟨H8,hH8⟩:∃H8,H8=upd H7 ra' (.lst []):=⟨_,rfl⟩
 rw[<-hH8]at pz8 ⊢
 have old8:∀b o,b≠ra'->H7 b=some o->H8 b=some o:=fun b o n e=>by rw[hH8,d6 n];exact e
 have s38:A0 H2 H8:=fun b o e=>old8 b o (d3 e hra') (s37 _ _ e)
 ext
 exact_mod_cast W2 ?_
 specialize a0b (X6 ?_)
 refine J0 (old8 _ _ hdr (s57 _ _ e5)) (a0m _ _ _) ?_
 have n8:H8 na'=some (.lst (ms.map V.ref)):=old8 _ _ nar (s57 _ _ n5)
 have l8:∀y∈ms,∃xs,H8 y=some (.lst xs)/\xs.length<=900:=fun y hy=>by
  obtain⟨q1,q2,xs,q3⟩:=f4 y hy
  refine⟨xs,old8 _ _ (d3 e3 q1).symm (s57 _ _ (s5 _ _ q3)),?_⟩
  obtain⟨as,t1,t2,t3⟩:=T4.ex
  rw[e4]at t1
  obtain rfl:as=ms:=(Y7 (f:=V.ref) (fun a b h=>V.ref.inj h) |>.mp (HO.lst.inj (Option.some.inj t1))).symm
  obtain⟨i,hi⟩:=V7.mp hy
  have hi':=(gI hi)
  have:=t3 i y _ hi (M6 (by omega))
  rw[q3]at this
  cases this
  rw[P8]
  have:=hv.two _ (G9 (show i<N.length by omega))
  omega
 refine⟨na',rfl,⟨_,SqL.of n8⟩,a1l (xs:=ms.map V.ref) (fun i σ H9=>∃y8,σ=[some (.ref a),some (.ref b),some (.ref ra),some (.ref na),some (.ref sa),some (.ref da),some (.ref hd),some (.ref x),y8,none,none,none]/\a1m K c (fun z=>∃o,H6 z=some o/\z≠x) rs H9 x N/\A0 H2 H9/\H9 na'=some (.lst (ms.map V.ref))/\∀y∈ms,∃xs,H9 y=some (.lst xs)/\xs.length<=900+i) ⟨_,rfl,pz8,s38,n8,l8⟩ ?_ ?_ ?_⟩
 ·rintro i σ H9 _ ⟨_,_,_,_,h,_⟩
  exact SqL.of h
 ·rintro i y _ H9 hy ⟨y4,rfl,pz9,s9,n9,f9⟩
  rw[d4]at hy
  obtain⟨w,hw,rfl⟩:=G8.mp hy
  have hm:=mI hw
  have hi:=(gI hw)
  have lms:ms.length<=400:=by
   obtain⟨as,t1,t2,_⟩:=T4.ex
   rw[e4]at t1
   have:=congrArg a9N (HO.lst.inj (Option.some.inj t1))
   rw[c7,c7]at this
   have:=hv.le
   omega
  obtain⟨q1,q2,xs0,q3⟩:=f4 w hm
  obtain⟨xs,hxs,lxs⟩:=f9 w hm
  ext
  specialize a3j ?_
  exists ⟨O3 hxs,?_⟩
  refine R6 hxs (J9 (by omega)) ?_
  have w5:=s5 _ _ q3
  refine⟨_,rfl,pz9.put ⟨_,sm _ _ w5,d3 w5 hx⟩ hxs,fun b o e=>?_,by rw[d6 q2.symm];exact n9,fun y hy=>?_⟩
  ·rw[d6 (d3 (s3 _ _ e) q1)];exact s9 _ _ e
  ·by_cases q:y=w
   ·subst q
    exact⟨_,f6,by rw[t5];simp;omega⟩
   ·obtain⟨xs',h',l'⟩:=f9 y hy
    exact⟨xs',by rw[d6 q];exact h',by omega⟩
 rintro _ H9 ⟨y8,rfl,pz9,s9,n9,f9⟩
 ext
 obtain⟨RC,W,pk⟩:=c4F pz9
 have B9:=B2.same s9
 have ss9:=s9 _ _ hss
 have hra9:=s9 _ _ hrs
 have T9:=T.same s9
 nofun
 exists E6 (by simp) fun al H10 hal e10 s10=>?_
 have nal:=(B9.nb hal).1
 have nac:=(B9.nb hal).2
 have B10:=B9.same s10
 exact_mod_cast W2 ?_
 specialize a0b (a0G ?_)
 refine G0 B10 (by decide) (by decide) fun n1 H11 a0 a1 B11 k11=>?_
 obtain⟨n,rfl⟩:=C7 a0
 ext
 refine⟨2+(n:Int),rfl,by omega,by omega,?_⟩
 rw[show(2+(n:Int)).toNat=2+n by omega]
 have k911:C8 b H9 H11:=(C8.of_same s10).trans k11
 refine Z8 (fun i σ Hi=>∃(y10 y11:Option V) (qs:List Addr),σ=[some (.ref a),some (.ref b),some (.ref ra),some (.ref na),some (.ref sa),some (.ref da),some (.ref hd),some (.ref x),y8,some (.ref al),y10,y11]/\Hi al=some (.lst (qs.map V.ref))/\qs.length=i/\(∀q∈qs,a6S Hi al q)/\Bag Hi b d/\C8 b H9 Hi) ⟨_,_,[],rfl,k11.1 _ _ e10 nal,rfl,by simp,B11,k911⟩ ?_ ?_
 ·rintro i _ Hi hi ⟨y10,y11,qs,rfl,ea,lq,aq,Bi,ki⟩
  ext
  nofun
  specialize a3j ?_
  exists ⟨O3 ea,?_⟩
  exists b8I Bi (ki.1 _ _ ss9 nsa) nsa ss5 fun sd S Hj hsd ej bd lS Bj kj=>?_
  exists b8z Bj fun tl L Hk htl ek bl lL Bk kk=>?_
  exists c2u Bk fun m Hl hm Bl kl=>?_
  exists E6 (by simp) fun tp Hm htp em sm=>?_
  have nsd:=(Bi.nb hsd).1
  have kil:C8 b Hi Hm:=((kj.trans kk).trans kl).trans (C8.of_same sm)
  have Bm:=Bl.same sm
  have eaj:=kj.1 _ _ ea nal
  have ask:a6S Hm al tp:=⟨sd,tl,S,L,m,em,sm _ _ (kl.1 _ _ (kk.1 _ _ ej nsd) nsd),bd,lS,sm _ _ (kl.1 _ _ ek (Bj.nb htl).1),bl,lL,hm,(d3 eaj htl).symm⟩
  have eam:=kil.1 _ _ ea nal
  refine R6 eam (J9 (by rw[c7];omega)) ?_
  have ea':qs.map V.ref++[V.ref tp]=(qs++[tp]).map V.ref:=by rw[E2];rfl
  rw[ea']
  have put:∀ {q:Addr},a6S Hm al q->a6S (upd Hm al (.lst ((qs++[tp]).map V.ref))) al q:=fun {q} h=>by
   obtain⟨sd,tl,S,L,m,h1,h2,h3,h4,h5,h6,h7,h8,h9⟩:=h.ex
   exact⟨sd,tl,S,L,m,(d6 (F6 h1 eam (by intro z;cases z))).trans h1,(d6 (F6 h2 eam (by intro z;cases z))).trans h2,h3,h4,(d6 h9).trans h5,h6,h7,h8,h9⟩
  have all:∀q∈qs++[tp],a6S (upd Hm al (.lst ((qs++[tp]).map V.ref))) al q:=fun q hq=>put ((C6.mp hq).elim (fun z=>(aq q z).kept Bi kil) fun z=>by rw[v9.mp z];exact ask)
  have Bn:Bag (upd Hm al (.lst ((qs++[tp]).map V.ref))) b d:=Bm.put nal nac
  have kn:C8 b H9 (upd Hm al (.lst ((qs++[tp]).map V.ref))):=(ki.trans kil).put hal
  obtain⟨Hn,hHn⟩:∃Hn,Hn=upd Hm al (.lst ((qs++[tp]).map V.ref)):=⟨_,rfl⟩
  have en:Hn al=some (.lst ((qs++[tp]).map V.ref)):=hHn ▸ f6
  rw[<-hHn]at all Bn kn ⊢
  obtain⟨us,hus⟩:∃us,us=qs++[tp]:=⟨_,rfl⟩
  have lus:us.length=i+1:=by rw[hus,t5,lq];rfl
  rw[<-hus]at all en
  ext
  specialize a0b (X6 ?_)
  refine O8 en ?_
  rw[c7]
  ext
  refine G0 Bn (by omega) (by omega) fun j Ho j0 j1 Bo ko=>?_
  have eo:=ko.1 _ _ en nal
  obtain⟨v,hv1,hv2⟩:=a1u (xs:=us.map V.ref) j0 (by rw[c7];exact j1)
  obtain⟨u1,m1,rfl⟩:=E3.mp (mI hv2)
  exists J0 eo hv1 ?_
  have hl1:atI (us.map V.ref) (-1)=some (V.ref tp):=by
   rw[hus,E2]
   exact a9j
  exists J0 eo hl1 ?_
  refine E6 (by simp) fun wl Hp hwl ep sp=>?_
  have allp:∀q∈us,a6S Hp al q:=fun q hq=>((all q hq).kept Bn ko).same sp
  have Bp:=Bo.same sp
  have kp:C8 b H9 Hp:=(kn.trans ko).trans (C8.of_same sp)
  have pk':=pk.kept B9 hv kp
  have hra':=kp.1 _ _ hra9 (a1b B9 hra9)
  have T':=T9.kept B9 hv.two kp
  refine⟨wl,rfl,⟨_,SqL.of ep⟩,a1l (xs:=[V.ref u1,.ref tp]) (fun j σ Hq=>∃y11,σ=[some (.ref a),some (.ref b),some (.ref ra),some (.ref na),some (.ref sa),some (.ref da),some (.ref hd),some (.ref x),y8,some (.ref al),some (.int (0+(i:Int))),y11]/\A0 Hp Hq) ⟨_,rfl,A0.refl _⟩ ?_ ?_ ?_⟩
  ·rintro j σ Hq _ ⟨_,_,sq⟩
   exact SqL.of (sq _ _ ep)
  ·rintro j w _ Hq hw ⟨y11,rfl,sq⟩
   obtain⟨u,mu,rfl⟩:∃u∈us,w=.ref u:=by
    have:=mI hw
    simp only[p8,E5,or_false]at this
    rcases this with rfl | rfl
    ·exact⟨u1,m1,rfl⟩
    ·exact⟨tp,by rw[hus];simp,rfl⟩
   ext
   refine c0J ck (pk'.same sq) hv (sq _ _ hra') (T'.same sq) ((allp u mu).same sq) fun Hr sr=>?_
   refine⟨_,rfl,?_⟩
   exists C4 rfl ?_
   exact⟨_,rfl,sq.trans sr⟩
  ·rintro _ Hq ⟨y11,rfl,sq⟩
   exact⟨_,_,us,rfl,sq _ _ (sp _ _ eo),lus,fun q hq=>(allp q hq).same sq,Bp.same sq,kp.trans (C8.of_same sq)⟩
 rintro _ Hi ⟨y10,y11,qs,rfl,ea,lq,aq,Bi,ki⟩
 ext
 rfl
end RD
set_option maxHeartbeats 0
namespace PR
open PySem L2 RD Y
abbrev c7Z:Str:="__init__"
abbrev c8a:Str:="_law_script"
abbrev c8b:Str:="_law_bag"
abbrev c8c:Str:="_law_bag_here"
abbrev c8d:Str:="_law_many"
abbrev c8e:Str:="_law_take"
abbrev c8f:Str:="_law_nexts"
abbrev c8g:Str:="_law_k"
abbrev c8h:Str:="_law_way"
abbrev c8i:Str:="_law_net"
abbrev c8j:Str:="_law_good"
abbrev c8k:Str:="_law_turn"
abbrev c8l:Str:="_law_reached"
abbrev c8m:Str:="_law_one"
abbrev c8n:Str:="_law_order"
abbrev c8o:Str:="_law_mended"
abbrev c8p:Str:="_law_size"
abbrev c8q:Str:="_law_letters"
abbrev c8r:Str:="_law_signs"
abbrev c8s:Str:="_law_base"
abbrev c8t:Str:="_law_names_here"
abbrev c8u:Str:="_law_names"
abbrev c8v:Str:="_law_value"
abbrev c8w:Str:="_law_operand"
abbrev c8x:Str:="_law_deed"
abbrev c8y:Str:="_law_few"
abbrev c8z:Str:="_law_deeds"
abbrev c8A:Str:="_law_name"
abbrev c8B:Str:="_law_row"
abbrev c8C:Str:="_law_rows"
abbrev c8D:Str:="_law_after"
abbrev c8E:Str:="_law_plan"
abbrev c8F:Str:="_law_lists"
abbrev c8G:Str:="_law_most"
abbrev c8H:Str:="_law_taken"
abbrev c8I:Str:="_law_start_here"
abbrev c8J:Str:="_law_start"
abbrev c8K:Str:="_law_step"
abbrev c8L:Str:="_law_leads"
abbrev c8M:Str:="_law_store"
abbrev c8N:Str:="_law_worth"
abbrev c8O:Str:="_law_taken_here"
abbrev c8P:Str:="_law_most_here"
abbrev c8Q:Str:="_law_run"
abbrev c8R:Str:="store"
abbrev c8S:Str:="worth_of"
abbrev c8T:Str:="worth_set"
abbrev c8U:Str:="place"
abbrev c8V:Str:="step_behind"
abbrev c8W:Str:="_law_whole"
abbrev c8X:Str:="_law_is_step"
abbrev c8Y:Str:="_law_places"
abbrev c8Z:Str:="_law_kinds"
abbrev c9a:Str:="_law_plan_here"
abbrev c9b:Str:="_law_asked"
abbrev c9c:Str:="check_length"
abbrev c9d:Str:="thing"
abbrev c9e:Str:="is_whole"
abbrev c9f:Str:="is_value"
abbrev c9g:Str:="is_operand"
abbrev c9h:Str:="check_each"
abbrev c9i:Str:="is_below"
abbrev c9j:Str:="following"
abbrev c9k:Str:="are_nexts"
abbrev c9l:Str:="rows"
abbrev c9m:Str:="nexts"
abbrev c9n:Str:="check_nexts"
abbrev c9o:Str:="stops_of"
abbrev c9p:Str:="check_ways"
abbrev c9q:Str:="steps_of"
section
def top(i:Nat):Stmt:=PySem.Challenge.pw_oncedone_k31_rows_done.main.body.getD i (.Pass ⟨0,0,0,0⟩)
abbrev b5N:Stmt:=top 43
abbrev b4i:Stmt:=top 44
abbrev b9d:Stmt:=top 45
abbrev a2O:Stmt:=top 46
abbrev b1d:Stmt:=top 47
abbrev b0Z:Stmt:=top 48
abbrev b0V:Stmt:=top 49
abbrev a6t:Stmt:=top 50
abbrev b4m:Stmt:=top 51
abbrev b8Z:Stmt:=top 52
abbrev b0X:Stmt:=top 53
abbrev a7C:Stmt:=top 54
abbrev b4k:Stmt:=top 67
abbrev a7A:Stmt:=top 65
abbrev a7B:Stmt:=top 64
abbrev b1a:Stmt:=top 58
abbrev c3X:Stmt:=top 61
abbrev a4a:Stmt:=top 62
abbrev a6u:Stmt:=top 63
abbrev a8y:Stmt:=top 16
abbrev a5a:Stmt:=top 14
abbrev b0T:Stmt:=top 15
abbrev a3Z:Stmt:=top 39
abbrev a2z:Stmt:=top 40
abbrev a1q:Stmt:=V4 (top 37) 2
abbrev b8Y:Stmt:=top 41
abbrev b0U:Stmt:=top 55
abbrev a6v:Stmt:=top 59
abbrev a8z:Stmt:=top 60
abbrev b1b:Stmt:=top 66
abbrev b1e:Stmt:=top 68
abbrev a1Y:Stmt:=top 26
abbrev a4C:Stmt:=top 9
abbrev a5b:Stmt:=top 7
abbrev a5c:Stmt:=top 8
abbrev a3f:Stmt:=top 10
abbrev a6w:Stmt:=top 11
abbrev a8A:Stmt:=top 12
abbrev a3i:Stmt:=top 27
abbrev a5d:Stmt:=top 25
abbrev a2n:Stmt:=top 30
abbrev a1a:Stmt:=top 31
abbrev a6s:Stmt:=top 34
abbrev a5O:Stmt:=top 33
abbrev a3d:Stmt:=top 32
abbrev a3h:Stmt:=top 35
abbrev a3e:Stmt:=top 36
abbrev a0y:Stmt:=V4 (top 37) 0
abbrev b5K:Stmt:=top 69
structure Txt(K:Fg)(mg:Str->Option Value)(c:Cn):Prop where
 c7t:mg "abs" = none
 c3G:mg "all" = none
 c7s:mg "any" = none
 b5p:mg "bool" = none
 a9q:mg "dict" = none
 a1o:mg "enumerate" = none
 b0y:mg "int" = none
 E8:mg "isinstance" = none
 O7:mg "len" = none
 a0e:mg "list" = none
 c7r:mg "min" = none
 Y8:mg "range" = none
 b5o:mg "reversed" = none
 c0W:mg "sorted" = none
 b6n:mg "str" = none
 a7U:mg "tuple" = none
 c7q:mg "zip" = none
 a7T:∃u,mg "BOUND" = some u/\F1 (.int 1000000000000) u
 b2h:∃u,mg "DEED_KINDS" = some u/\F1 (.ref c.a3z) u
 b7R:∃u,mg "FIGURES" = some u/\F1 (.str "0123456789") u
 a3A:∃u,mg "FIRST_STEP" = some u/\F1 (.ref c.a0a) u
 b0x:∃u,mg "LETTERS" = some u/\F1 (.str "abcdefghijklmnopqrstuvwxyz") u
 a9p:∃u,mg "LONGEST_NAME" = some u/\F1 (.int 8) u
 c6f:∃u,mg "MOST" = some u/\F1 (.int 400) u
abbrev scF(ns:List (Str×a4P)):Scope:={ kind:=.function,names:=ns,isGenerator:=false,isCoroutine:=false,more:=[] }
local macro_rules | `(tactic| walk_at "c0") => `(tactic| exact ⟨rfl, by decide +kernel, by decide +kernel, rfl, by decide +kernel, by decide +kernel, rfl, by decide +kernel⟩)
local macro_rules | `(tactic| walk_at "c1") => `(tactic| exact ⟨rfl, by decide +kernel, by decide +kernel, rfl, b5X (by decide +kernel), by decide +kernel, rfl, by decide +kernel⟩)
local macro_rules | `(tactic| walk_at "c2") => `(tactic| exact ⟨rfl, by decide +kernel, by decide +kernel, rfl, rfl, by decide +kernel, by decide +kernel, rfl, rfl, by decide +kernel⟩)
local macro_rules | `(tactic| walk_at "c3") => `(tactic| exact ⟨rfl, by decide +kernel, by decide +kernel, rfl, rfl, b5X (by decide +kernel), by decide +kernel, rfl, rfl, by decide +kernel⟩)
def c0S(f:List Value->Prop):List Str->Prop
 | []=>f []
 | _::r=>∀u,c0S (fun us=>f (u::us)) r
theorem c0S.mp:∀ {ps:List Str} {f:List Value->Prop},c0S f ps->∀us,us.length=ps.length->f us
 | [],_,h,[],_=>h
 | _::_,_,h,u::us,e=>c0S.mp (h u) us (Nat.succ.inj e)
section
variable {P:D6}{w:World}{K:Fg}{mg:Str->Option Value}{base h:Heap}{c:Cn}{f C:Addr}{fd:Y9}{x q:Str}{st:Stmt}{N ps:List Str}{k:Nat}{t:TS}{pm cd:Value}{sp:Sp}
open PySem.Spec PyProof.Rows in
theorem fk(F:Fun K x q st f fd)(S:C5 N ps (o5 st))(b:∀cdv A outer s H E,Q6 k (A.deeper (b2o q (o5 st) s.heap.objs.size f cdv))->N.Nodup->a8b (b3m CX0 P w K mg base N q (o5 st) f cdv A outer s H E).nox (a0H st) t):L9 P w K mg base CX0 (k+1) f fd ps (spD ps.length N.length t):=
 b2u F S (fun _ _ _ _ h=>h.1) fun cdv A outer s H _ _ E hr h=>⟨t,b cdv A outer s H E hr S.nd,h.2⟩
abbrev fdM(x q:Str)(st:Stmt)(pm cd:Value):Y9:=a0d x q (a2q st) (a0H st) (o5 st) .none .none .none pm none cd .none
structure FnI(K:Fg)(x q:Str)(st:Stmt)(f:Addr)(pm cd:Value):Prop where
 l:K.lookup f=some ⟨.type "function",none,.func (fdM x q st pm cd),#[]⟩
 c:a4M K cd q=true
 k:U3 K (.ref f)=true
structure FnG(K:Fg)(x:Str)(st:Stmt)(f:Addr)(pm cd:Value):Prop where
 i:FnI K x x st f pm cd
 a:D0 K A4 x=some (some (.ref f))
structure FnM(K:Fg)(C:Addr)(x q:Str)(st:Stmt)(f:Addr)(pm cd:Value):Prop where
 i:FnI K x q st f pm cd
 a:F3 K (.ref C) x=some (some (.ref f))
 n:a6W K (.ref f)=true
theorem FnI.F(h:FnI K x q st f pm cd):Fun K x q st f (fdM x q st pm cd):=c5L h.l h.c h.k
abbrev BdA(x q:Str)(st:Stmt)(ps:List Str):Prop:=∀(kV doc pm:Value) (an:Option Addr) (cdv ct:Value),c0S (fun us=>bindArgs (a0d x q (a2q st) (a0H st) (o5 st) .none kV doc pm an cdv ct) ⟨us,[]⟩=pure (ps.zip us)) ps
theorem mkC(X:K.In h)(G:h.Ns A4 mg)(g:FnG K x st f pm cd)(O:L9 P w K mg base CX0 k f (fdM x x st pm cd) ps sp)(B:BdA x x st ps):E9 P w K mg base k x ps sp:=b7A g.i.F O (T7 X G g.a) (g.i.F.binds fun _ _ _ _ _ _ us hl=>(B _ _ _ _ _ _).mp us hl)
theorem mkM(g:FnM K C x q st f pm cd)(cl:Cls K C)(O:L9 P w K mg base CX0 k f (fdM x q st pm cd) ps sp)(B:BdA x q st ps):a7R P w K mg base k x C ps sp:=⟨_,_,O,cl,⟨g.a,g.n,g.i.k⟩,g.i.F.binds fun _ _ _ _ _ _ us hl=>(B _ _ _ _ _ _).mp us hl⟩
theorem mkK{y:Str}(X:K.In h)(G:h.Ns A4 mg)(g:FnM K C c7Z q st f pm cd)(y1:D0 K A4 y=some (some (.ref C)))(m:a3J K C=true)(kc:U3 K (.ref C)=true)(O:L9 P w K mg base CX0 k f (fdM c7Z q st pm cd) ps sp)(B:BdA c7Z q st ps):b3y P w K mg base k y C ps sp:=⟨_,_,O,T7 X G y1,⟨m,g.a,g.n,kc⟩,g.i.F.binds fun _ _ _ _ _ _ us hl=>(B _ _ _ _ _ _).mp us hl⟩
end
section
variable {P:D6}{w:World}{K:Fg}{mg:Str->Option Value}{base:Heap}{c:Cn}{f:Addr}{fd:Y9}(T:Txt K mg c)
abbrev b9U:List Str:=[c8a]
theorem c3T:C5 [c8a] b9U (o5 b5N):=by walk_at "sc"
theorem c0H:T0 [c8a] (o5 b5N) (scF [ (".0",.local),("_law_cell",.local),("abs",.globalImplicit)]) "_law_cell" := by walk_at "c0"
include T in
theorem c5q(F:Fun K c8b c8b b5N f fd):L9 P w K mg base CX0 1 f fd b9U (b0N K):=fk F c3T fun _ _ _ _ _ _ hr nd=>c9 (o4 (D8 (a5w b7 b7 b7 (Q9 c0H rfl (L8 (a2V b6o (c8 0) a4v (a4u b7))) (fun _ _ _ _ _=>N8) (fun _ _ _ _ _=>l9 b2x rfl T.c7t PyProof.Rows.boot_abs (u6 (c8 0)))))))
variable(b6f:E9 P w K mg base 1 c8b b9U (b0N K))
abbrev b4w:List Str:=[c8c,c8d]
theorem c1p:C5 [c8c,c8d,"_law_more","_law_cell","_law_value_here","_law_first","_law_second"] b4w (o5 b4i):=by walk_at "sc"
include T in
theorem c2n(F:Fun K c8e c8e b4i f fd):L9 P w K mg base CX0 1 f fd b4w (E7 K):=fk F c1p fun _ _ _ _ _ _ hr nd=>b9 (w6 (D1 (A6 hr) (p9 (c8 0) b7) b7) (b9 (z9 2 nd b7) (b9 (w6 (D1 W8 (p9 (c8 0) b7) (l9 z7 rfl T.O7 t6 (u6 (p9 (c8 0) b7)))) (b9 (z9 3 nd (p9 (p9 (c8 0) b7) (p9 (c8 0) b7))) (b9 (b6q (c8 0) b7 c1d b7 b8o a4t) (b9 (w6 (D1 b8n (c8 3) b7) (c9 (a1S (c8 3) (a3P (c8 0) b7 a4t))) p5) (c9 (z9 2 nd (A5 F5 (A5 M9 (c8 3) b7) b7)))))) p5) (c9 (a1S (A5 M9 (A5 F5 (A5 a0U (p9 (c8 0) b7) b7) (c8 2)) b7) (a3P (c8 0) b7 a4t))))) p5) (b9 (w6 (D1 a1g (p9 (c8 0) b7) b7) (b9 (z9 4 nd (A5 M9 (p9 (c8 0) b7) (c8 1))) (b9 (a1S (A5 a6l (p9 (c8 0) b7) (c8 1)) (a3P (c8 0) b7 a4t)) (c9 (o4 (c8 4))))) p5) (b9 (z9 5 nd (A5 M9 (A5 a0U (p9 (c8 0) b7) b7) b7)) (b9 (z9 6 nd (A5 M9 (A5 a0U (c8 5) b7) b7)) (b9 (w6 (D1 a1g (c8 1) b7) (c9 (o4 (A5 M9 (A5 F5 (A5 a0U (c8 6) b7) (c8 5)) (c8 1)))) p5) (c9 (o4 (A5 M9 (A5 a6l (c8 6) b7) (c8 1))))))))
variable(D3:E9 P w K mg base 1 c8e b4w (E7 K))
abbrev b9T:List Str:=[c8c,c8d]
theorem c3S:C5 [c8c,c8d,c8f,c8g,"_law_near","_law_some",c8h] b9T (o5 b9d):=by walk_at "sc"
include T D3 in
theorem c5o(F:Fun K c8i c8i b9d f fd):L9 P w K mg base CX0 2 f fd b9T (b0M K):=fk F c3S fun _ _ _ _ _ _ hr nd=>b9 (z9 2 nd (D8 O2)) (b9 (N4 PassesOwn.never rfl (M7 rfl T.Y8 (u6 (c8 1))) (M5 3 nd) (b9 (z9 4 nd (l9 (b2v rfl) rfl T.c7r PyProof.Rows.boot_min (z6 (A5 F5 (c8 3) b7) (A5 a0T (c8 1) b7)))) (b9 (z9 5 nd (D8 (z6 (c8 4) (q9 D3 hr (z6 (c8 0) (c8 1)))))) (b9 (z9 6 nd (q9 D3 hr (z6 (c8 0) b7))) (b9 (w6 (D1 W8 (c8 6) b7) (c9 (z9 5 nd (D8 (z6 (p9 (c8 5) b7) (c8 4))))) p5) (b9 (w6 (D1 (A6 hr) (c8 6) b7) (c9 (z9 5 nd (D8 (z6 (p9 (c8 5) b7) (q9 D3 hr (z6 (c8 0) (c8 1))))))) p5) (b9 (w6 (Q1 (Q8 (Q1 (a2I (D1 a1g (c8 6) b7) (a1J (D1 W8 (c8 6) b7)))) (U1 (D1 (A6 hr) (c8 1) b7)))) (c9 (z9 5 nd (D8 (u6 (c8 4))))) p5) (b9 (w6 (D1 (A6 hr) (c8 6) b7) (c9 (z9 5 nd (D8 (u6 (p9 (c8 5) (a5v a3N b7)))))) p5) (b9 (w6 (Q1 (Q8 (D1 (A6 hr) (c8 3) (A5 a0T (c8 1) b7)) (U1 (Q1 (a2I (D1 (A6 hr) (c8 6) b7) (a1J (D1 (A6 hr) (q9 D3 hr (z6 (c8 0) b7)) b7))))))) (c9 (z9 5 nd (D8 O2))) p5) (c9 (F4 (S3 u4 A9 A8 J8 (c8 2) (u6 (c8 5)))))))))))))) (c9 (o4 (c8 2))))
variable(b6e:E9 P w K mg base 2 c8i b9T (b0M K))
abbrev a8M:List Str:=[c8f]
theorem b6I:C5 [c8f,c8j,c8k,c8g,c8l,c8m,c8n] a8M (o5 a2O):=by walk_at "sc"
theorem b3u:T0 [c8f,c8j,c8k,c8g,c8l,c8m,c8n] (o5 a2O) (scF [ (".0",.local),(c8m,.local),(c8j,.free)]) c8m := by walk_at "c0"
theorem b3t:T0 [c8f,c8j,c8k,c8g,c8l,c8m,c8n] (o5 a2O) (scF [ (".0",.local),(c8g,.local),("len",.globalImplicit),(c8j,.free),(c8f,.free)]) c8g := by walk_at "c0"
theorem b3s:T0 [c8f,c8j,c8k,c8g,c8l,c8m,c8n] (o5 a2O) (scF [ (".0",.local),(c8g,.local),(c8f,.free),(c8n,.free)]) c8g := by walk_at "c0"
theorem b3r(env:Env):T0 [c8g,c8f,c8j,c8k,"._law_k",c8l,c8m,c8n] (a6j (scF [ (".0",.local),(c8g,.local),(c8f,.free),(c8n,.free)]) env) (scF [ (".0",.local),(c8m,.local),(c8n,.free)]) c8m := by walk_at "c1"
include T in
theorem b7a(F:Fun K c8o c8o a2O f fd):L9 P w K mg base CX0 1 f fd a8M (a4z K):=fk F b6I fun _ _ _ _ _ _ hr nd=>b9 (z9 1 nd a4X) (b9 (N4 PassesOwn.never rfl (M7 rfl T.Y8 (u6 (l9 z7 rfl T.O7 t6 (u6 (c8 0))))) (M5 2 nd) (c9 (N4 PassesOwn.never rfl (M7 rfl T.Y8 (u6 (l9 z7 rfl T.O7 t6 (u6 (c8 0))))) (M5 3 nd) (c9 (w6 (Q1 (Q8 (D1 (A6 hr) (p9 (c8 0) (c8 3)) (D8 O2)) (U1 (J5 (l9 (b2w rfl) rfl T.c7s PyProof.Rows.boot_any (u6 (Q9 b3u rfl (L8 (p9 (c8 0) (c8 3))) (fun _ _ _ _ _=>N8) (fun _ _ _ _ _=>b8l hr (c8 0) (c8 2) rfl)))))))) (c9 (Z7 hr (c8 1) (c8 3) Q2)) p5))))) (b9 (z9 0 nd (Q9 b3t rfl (M7 rfl T.Y8 (u6 (l9 z7 rfl T.O7 t6 (u6 (c8 0))))) (fun _ _ _ _ _=>N8) (fun _ _ _ _ _=>a0R (b2q hr (c8 0) (c8 2) rfl) (p9 (c8 1) (c8 0)) (A5 F5 (D8 (u6 (A5 a0T (l9 z7 rfl T.O7 t6 (u6 (c8 1))) b7))) (a2V b3M (p9 (c8 1) (c8 0)) (a4u b7) a4v))))) (b9 (z9 4 nd (b6t (b3O b7 Q2 b6r))) (b9 (N4 PassesOwn.never rfl (M7 rfl T.Y8 (u6 (l9 z7 rfl T.O7 t6 (u6 (c8 0))))) (M5 2 nd) (c9 (N4 PassesOwn.never rfl (M7 rfl T.Y8 (u6 (l9 z7 rfl T.O7 t6 (u6 (c8 0))))) (M5 3 nd) (c9 (w6 (b2q hr (c8 3) (c8 4) rfl) (c9 (N4 PassesOwn.never rfl (L8 (p9 (c8 0) (c8 3))) (M5 5 nd) (c9 (Z7 hr (c8 4) (c8 5) Q2)))) p5))))) (b9 (z9 6 nd (l9 a8a rfl T.c0W PyProof.Rows.boot_sorted (u6 (J7 (a9t rfl) rfl T.a0e C0 (u6 (c8 4)))))) (c9 (o4 (Q9 b3s rfl (L8 (c8 6)) (fun _ _ _ _ _=>N8) (fun _ _ _ _ _=>Q9 (b3r _) rfl (L8 (p9 (c8 1) (c8 0))) (fun _ _ _ _ _=>N8) (fun _ _ _ _ _=>S3 u4 b2k PySem.F.type_list_index b2t (c8 8) (u6 (c8 0))))))))))))
variable(a5Z:E9 P w K mg base 1 c8o a8M (a4z K))
abbrev b4A:List Str:=[c8c,c8p]
theorem c1t:C5 [c8c,c8p,c8q,c8r] b4A (o5 b1d):=by walk_at "sc"
theorem b7z:T0 [c8c,c8p,c8q,c8r] (o5 b1d) (scF [ (".0",.local),(c8g,.local),(c8e,.globalImplicit),(c8c,.free),(c8r,.free)]) c8g := by walk_at "c0"
include T D3 in
theorem c2r(F:Fun K c8s c8s b1d f fd):L9 P w K mg base CX0 2 f fd b4A (a5M K):=fk F c1t fun _ _ _ _ _ _ hr nd=>b9 (z9 2 nd z8) (b9 (z9 3 nd (A5 F5 (c8 2) z8)) (c9 (o4 (A5 F5 (D8 (u6 (p9 (c8 2) (q9 D3 hr (z6 (c8 0) b7))))) (Q9 b7z rfl (M7 rfl T.Y8 (u6 (A5 a0T (c8 1) b7))) (fun _ _ _ _ _=>N8) (fun _ _ _ _ _=>p9 (c8 4) (q9 D3 hr (z6 (c8 1) b7))))))))
variable(a9i:E9 P w K mg base 2 c8s b4A (a5M K))
abbrev b1s:List Str:=[c8c,c8d]
theorem b8S:C5 [c8c,c8d,c8q,c8p,"_law_bases","_law_spots","_law_first",c8t,c8g,c8r,"_law_word"] b1s (o5 b0Z):=by walk_at "sc"
include T D3 a9i in
theorem c0a(F:Fun K c8u c8u b0Z f fd):L9 P w K mg base CX0 3 f fd b1s (a5J K):=fk F b8S fun _ _ _ _ _ _ hr nd=>b9 (z9 2 nd z8) (b9 (z9 3 nd (A5 F5 b7 (q9 D3 hr (z6 (c8 0) b7)))) (b9 (z9 4 nd (D8 (z6 (q9 a9i hr (z6 (c8 0) (c8 3))) (q9 a9i hr (z6 (c8 0) (A5 F5 (A5 M9 (c8 3) b7) b7)))))) (b9 (z9 5 nd (D8 (z6 (q9 D3 hr (z6 (c8 0) (c8 3))) (q9 D3 hr (z6 (c8 0) (A5 F5 (A5 M9 (c8 3) b7) b7)))))) (b9 (z9 6 nd (q9 D3 hr (z6 (c8 0) b7))) (b9 (z9 7 nd (D8 O2)) (b9 (N4 PassesOwn.never rfl (M7 rfl T.Y8 (u6 (c8 1))) (M5 8 nd) (b9 (z9 9 nd (J7 V1 rfl T.a0e C0 (u6 (p9 (c8 4) (A5 M9 (c8 8) b7))))) (b9 (a1S (p9 (c8 2) (A5 M9 (A5 F5 (c8 6) (A5 a6l (c8 8) b7)) b7)) (a3P (c8 9) (p9 (c8 5) (A5 M9 (c8 8) b7)) a4t)) (c9 (F4 (S3 u4 A9 A8 J8 (c8 7) (u6 (S3 PySem.F.plainAttrs_str PySem.F.slot_str_join PySem.F.type_str_join b3P z8 (u6 (c8 9)))))))))) (b9 (z9 10 nd (p9 (D8 (N9 z8 (a9Q z8 z8 z8 z8 z8))) (q9 D3 hr (z6 (c8 0) b7)))) (b9 (w6 (Q1 (a2I (D1 (A6 hr) (q9 D3 hr (z6 (c8 0) b7)) b7) (a1J (Y3 a6X (c8 10) (c8 7) rfl)))) (c9 (a1S (c8 10) (a3P (c8 7) (q9 D3 hr (z6 (c8 0) (c8 1))) a4t))) p5) (c9 (o4 (c8 7)))))))))))
variable(a7N:E9 P w K mg base 3 c8u b1s (a5J K))
abbrev b1p:List Str:=[c8c]
theorem b8P:C5 [c8c] b1p (o5 b0V):=by walk_at "sc"
include T D3 in
theorem b9X(F:Fun K c8v c8v b0V f fd):L9 P w K mg base CX0 2 f fd b1p (a1V K):=fk F b8P fun _ _ _ _ _ _ hr nd=>c9 (o4 (p9 (D8 (a9Q b7 b7 b7 b7 (q9 D3 hr (z6 (c8 0) b7)))) (q9 D3 hr (z6 (c8 0) b7))))
variable(a0I:E9 P w K mg base 2 c8v b1p (a1V K))
abbrev a6A:List Str:=[c8c,c8t]
theorem b4c:C5 [c8c,c8t] a6A (o5 a6t):=by walk_at "sc"
include T D3 a0I in
theorem b4D(F:Fun K c8w c8w a6t f fd):L9 P w K mg base CX0 3 f fd a6A (Z3 K):=fk F b4c fun _ _ _ _ _ _ hr nd=>b9 (w6 (D1 (A6 hr) (q9 D3 hr (z6 (c8 0) b7)) b7) (c9 (o4 (q9 a0I hr (u6 (c8 0))))) p5) (c9 (o4 (p9 (c8 1) (q9 D3 hr (z6 (c8 0) (l9 z7 rfl T.O7 t6 (u6 (c8 1))))))))
variable(U8:E9 P w K mg base 3 c8w a6A (Z3 K))
abbrev b4z:List Str:=[c8c,c8t]
theorem c1s:C5 [c8c,c8t,"_law_kind"] b4z (o5 b4m):=by walk_at "sc"
include T D3 U8 in
theorem c2q(F:Fun K c8x c8x b4m f fd):L9 P w K mg base CX0 4 f fd b4z (a7z K):=fk F c1s fun _ _ _ _ _ _ hr nd=>b9 (z9 2 nd (p9 (D8 (a9Q z8 z8 z8 z8 z8)) (q9 D3 hr (z6 (c8 0) b7)))) (c9 (o4 (M4 (a5x (c8 2) (q9 U8 hr (z6 (c8 0) (c8 1))) (q9 U8 hr (z6 (c8 0) (c8 1)))))))
variable(b1W:E9 P w K mg base 4 c8x b4z (a7z K))
abbrev b9S:List Str:=[c8c,c8t,c8y,c8z]
theorem c3R:C5 [c8c,c8t,c8y,c8z,c8A,c8h] b9S (o5 b8Z):=by walk_at "sc"
include T D3 U8 in
theorem c5n(F:Fun K c8B c8B b8Z f fd):L9 P w K mg base CX0 4 f fd b9S (b0L K):=fk F c3R fun _ _ _ _ _ _ hr nd=>b9 (z9 4 nd (p9 (c8 1) (q9 D3 hr (z6 (c8 0) (l9 z7 rfl T.O7 t6 (u6 (c8 1))))))) (b9 (w6 (D1 a1g (q9 D3 hr (z6 (c8 0) b7)) b7) (c9 (z9 4 nd (p9 (c8 1) (A5 F5 (c8 2) (q9 D3 hr (z6 (c8 0) (A5 a0T (l9 z7 rfl T.O7 t6 (u6 (c8 1))) (c8 2)))))))) p5) (b9 (z9 5 nd (q9 D3 hr (z6 (c8 0) b7))) (b9 (w6 (D1 W8 (c8 5) b7) (c9 (o4 (M4 (a5x z8 (c8 4) (p9 (c8 3) (q9 D3 hr (z6 (c8 0) (l9 z7 rfl T.O7 t6 (u6 (c8 3)))))))))) p5) (b9 (w6 (D1 (A6 hr) (c8 5) b7) (c9 (o4 (M4 (a5x z8 (c8 4) (q9 U8 hr (z6 (c8 0) (c8 1))))))) p5) (b9 (w6 (D1 (A6 hr) (c8 5) b7) (c9 (o4 (p9 (D8 (z6 (M4 (z6 z8 (c8 4))) (M4 (z6 z8 (q9 U8 hr (z6 (c8 0) (c8 1))))))) (q9 D3 hr (z6 (c8 0) b7))))) p5) (c9 (o4 (M4 (u6 z8)))))))))
variable(b6d:E9 P w K mg base 4 c8B b9S (b0L K))
abbrev b4x:List Str:=[c8c]
theorem c1q:C5 [c8c,c8d,c8f,c8y,c8t,c8z,c8C,c8D] b4x (o5 b0X):=by walk_at "sc"
theorem b7y:T0 [c8c,c8d,c8f,c8y,c8t,c8z,c8C,c8D] (o5 b0X) (scF [ (".0",.local),(c8g,.local),(c8x,.globalImplicit),(c8c,.free),(c8y,.free),(c8t,.free)]) c8g := by walk_at "c0"
include T D3 b6e a5Z a7N U8 b1W b6d in
theorem c2o(F:Fun K c8E c8E b0X f fd):L9 P w K mg base CX0 5 f fd b4x (a7x K):=fk F c1q fun _ _ _ _ _ _ hr nd=>b9 (z9 1 nd (A5 F5 b7 (q9 D3 hr (z6 (c8 0) b7)))) (b9 (w6 (D1 (A6 hr) (q9 D3 hr (z6 (c8 0) b7)) b7) (c9 (z9 1 nd (A5 F5 b7 (q9 D3 hr (z6 (c8 0) b7))))) p5) (b9 (z9 2 nd (q9 a5Z hr (u6 (q9 b6e hr (z6 (c8 0) (c8 1)))))) (b9 (z9 3 nd (A5 F5 b7 (q9 D3 hr (z6 (c8 0) b7)))) (b9 (z9 4 nd (q9 a7N hr (z6 (c8 0) (A5 F5 (A5 F5 (c8 3) b7) (q9 D3 hr (z6 (c8 0) b7)))))) (b9 (a2U (n:=5) nd rfl rfl b7y rfl (M7 rfl T.Y8 (u6 (A5 F5 b7 (q9 D3 hr (z6 (c8 0) b7))))) (fun _ _ _ _ _=>N8) (fun _ _ _ _ _=>q9 b1W hr (z6 (c8 1) (a2V b3M (c8 5) a4v (a4u (c8 4)))))) (b9 (z9 6 nd (D8 O2)) (b9 (N4 PassesOwn.never rfl (L8 (c8 2)) (M5 7 nd) (c9 (w6 (D1 (A6 hr) (l9 z7 rfl T.O7 t6 (u6 (c8 7))) b7) (c9 (F4 (S3 u4 A9 A8 J8 (c8 6) (u6 (M4 (z6 z8 (q9 U8 hr (z6 (c8 0) (c8 4))))))))) (c9 (F4 (S3 u4 A9 A8 J8 (c8 6) (u6 (q9 b6d hr (a5w (c8 0) (c8 4) (c8 3) (c8 5)))))))))) (c9 (o4 (M4 (a5w (c8 6) (c8 2) (c8 4) (c8 5))))))))))))
variable(b1U:E9 P w K mg base 5 c8E b4x (a7x K))
abbrev b1t:List Str:=[c8f]
theorem b8T:C5 [c8f] b1t (o5 a7C):=by walk_at "sc"
theorem b5c:T0 [c8f] (o5 a7C) (scF [ (".0",.local),(c8D,.local),("list",.globalImplicit)]) c8D := by walk_at "c0"
include T in
theorem c0b(F:Fun K c8F c8F a7C f fd):L9 P w K mg base CX0 1 f fd b1t (a5K K):=fk F b8T fun _ _ _ _ _ _ hr nd=>c9 (o4 (Q9 b5c rfl (L8 (c8 0)) (fun _ _ _ _ _=>N8) (fun _ _ _ _ _=>J7 V1 rfl T.a0e C0 (u6 (c8 0)))))
variable(a7O:E9 P w K mg base 1 c8F b1t (a5K K))
abbrev b4y:List Str:=[c8c]
theorem c1r:C5 [c8c] b4y (o5 b4k):=by walk_at "sc"
include T D3 in
theorem c2p(F:Fun K c8G c8G b4k f fd):L9 P w K mg base CX0 2 f fd b4y (a7y K):=fk F c1r fun _ _ _ _ _ _ hr nd=>c9 (o4 (p9 (D8 (a9Q (q9 D3 hr (z6 (c8 0) b7)) b7 b7 b7 b7)) (q9 D3 hr (z6 (c8 0) b7))))
variable(b1V:E9 P w K mg base 2 c8G b4y (a7y K))
abbrev b1q:List Str:=[c8c]
theorem b8Q:C5 [c8c] b1q (o5 a7A):=by walk_at "sc"
theorem b5a:T0 [c8c] (o5 a7A) (scF [ (".0",.local),(c8g,.local),(c8v,.globalImplicit),(c8c,.free)]) c8g := by walk_at "c0"
include T D3 a0I in
theorem b9Y(F:Fun K c8H c8H a7A f fd):L9 P w K mg base CX0 3 f fd b1q (a5H K):=fk F b8Q fun _ _ _ _ _ _ hr nd=>c9 (o4 (Q9 b5a rfl (M7 rfl T.Y8 (u6 (q9 D3 hr (z6 (c8 0) (A5 F5 b7 (A5 a0U b7 (J7 a2i rfl T.b0y T5 (u6 (a0S (A6 hr) (q9 D3 hr (z6 (c8 0) b7)) b7))))))))) (fun _ _ _ _ _=>N8) (fun _ _ _ _ _=>q9 a0I hr (u6 (c8 1)))))
variable(a7L:E9 P w K mg base 3 c8H b1q (a5H K))
abbrev b1r:List Str:=[c8c,c8t]
theorem b8R:C5 [c8c,c8t,c8I,c8A,"_law_spare"] b1r (o5 a7B):=by walk_at "sc"
theorem b5b:T0 [c8c,c8t,c8I,c8A,"_law_spare"] (o5 a7B) (scF [ (".0",.local),(c8A,.local),(c8t,.free)]) c8A := by walk_at "c0"
include T D3 a0I in
theorem b9Z(F:Fun K c8J c8J a7B f fd):L9 P w K mg base CX0 3 f fd b1r (a5I K):=fk F b8R fun _ _ _ _ _ _ hr nd=>b9 (z9 2 nd a4X) (b9 (N4 PassesOwn.never rfl (L8 (c8 1)) (M5 3 nd) (c9 (w6 (D1 (A6 hr) (q9 D3 hr (z6 (c8 0) b7)) b7) (c9 (Z7 hr (c8 2) (c8 3) (q9 a0I hr (u6 (c8 0))))) p5))) (b9 (a2U (n:=4) nd rfl rfl b5b rfl (L8 (D8 (N9 z8 (a9Q z8 z8 z8 z8 z8)))) (fun _ _ _ _ _=>a9P (Y3 a6X (c8 0) (c8 2) rfl)) (fun _ _ _ _ _=>c8 0)) (b9 (Z7 hr (c8 2) (p9 (c8 4) b7) (q9 a0I hr (u6 (c8 0)))) (c9 (o4 (c8 2))))))
variable(a7M:E9 P w K mg base 3 c8J b1r (a5I K))
abbrev b1u:List Str:=[c8f,c8K]
theorem b8U:C5 [c8f,c8K] b1u (o5 b1a):=by walk_at "sc"
include T in
theorem c0c(F:Fun K c8L c8L b1a f fd):L9 P w K mg base CX0 1 f fd b1u (a3Y K):=fk F b8U fun _ _ _ _ _ _ hr nd=>b9 (w6 (D1 W8 (a0Y a1y (c8 1) b7 (fun _ _=>rfl)) b7) (c9 (o4 b7)) p5) (c9 (o4 (p9 (p9 (c8 0) (a0Y a1y (c8 1) b7 (fun _ _=>rfl))) (a0Y a1y (c8 1) b7 (fun _ _=>rfl)))))
variable(a3s:E9 P w K mg base 1 c8L b1u (a3Y K))
abbrev c4Y:List Str:=["_law_operand_here",c8M]
theorem c6t:C5 ["_law_operand_here",c8M] c4Y (o5 c3X):=by walk_at "sc"
include T in
theorem c7h(F:Fun K "_law_of" "_law_of" c3X f fd):L9 P w K mg base CX0 1 f fd c4Y (a7g K):=fk F c6t fun _ _ _ _ _ _ hr nd=>b9 (w6 (J5 (l9 F9 rfl T.E8 o8 (z6 (c8 0) (L3 rfl T.b6n a0M rfl)))) (c9 (o4 (a7Y hr (c8 1) (c8 0) b7))) p5) (c9 (o4 (c8 0)))
variable(a9J:E9 P w K mg base 1 "_law_of" c4Y (a7g K))
abbrev a4d:List Str:=["_law_deed_here",c8M]
theorem b0Q:C5 ["_law_deed_here",c8M,c8m,"_law_other"] a4d (o5 a4a):=by walk_at "sc"
include T a9J in
theorem b1A(F:Fun K c8N c8N a4a f fd):L9 P w K mg base CX0 2 f fd a4d (a1C K):=fk F b0Q fun _ _ _ _ _ _ hr nd=>b9 (z9 2 nd (q9 a9J hr (z6 (p9 (c8 0) b7) (c8 1)))) (b9 (z9 3 nd (q9 a9J hr (z6 (p9 (c8 0) b7) (c8 1)))) (b9 (w6 (D1 (A6 hr) (p9 (c8 0) b7) z8) (c9 (o4 (A5 M9 (A5 F5 (c8 2) (c8 3)) b7))) p5) (b9 (w6 (D1 (A6 hr) (p9 (c8 0) b7) z8) (c9 (o4 (A5 M9 (A5 a0T (c8 2) (c8 3)) b7))) p5) (b9 (w6 (D1 (A6 hr) (p9 (c8 0) b7) z8) (c9 (o4 (A5 M9 (A5 a0U (c8 2) (c8 3)) b7))) p5) (b9 (w6 (D1 (A6 hr) (p9 (c8 0) b7) z8) (c9 (o4 (J7 a2i rfl T.b0y T5 (u6 (a0S W8 (c8 2) (c8 3)))))) p5) (c9 (o4 (J7 a2i rfl T.b0y T5 (u6 (a0S (A6 hr) (c8 2) (c8 3)))))))))))
variable(a2s:E9 P w K mg base 2 c8N a4d (a1C K))
abbrev a6B:List Str:=[c8C,c8f,c8I,c8O,c8P]
theorem b4d:C5 [c8C,c8f,c8I,c8O,c8P,c8M,"_law_told",c8h,"_law_used",c8K,c8k,"_law_spot","_law_row_here"] a6B (o5 a6u):=by walk_at "sc"
include T a3s a9J a2s in
theorem b4E(F:Fun K c8Q c8Q a6u f fd):L9 P w K mg base CX0 3 f fd a6B (a3a K):=fk F b4d fun _ _ _ _ _ _ hr nd=>b9 (z9 5 nd (J7 a1z rfl T.a9q X1 (u6 (c8 2)))) (b9 (z9 6 nd (D8 O2)) (b9 (z9 7 nd (D8 O2)) (b9 (z9 8 nd b7) (b9 (z9 9 nd (M4 (z6 (a5v a3N b7) b7))) (b9 (N4 PassesOwn.never rfl (M7 rfl T.Y8 (u6 (c8 4))) (M5 10 nd) (b9 (z9 11 nd (q9 a3s hr (z6 (c8 1) (c8 9)))) (b9 (z9 12 nd (p9 (c8 0) (c8 11))) (b9 (F4 (S3 u4 A9 A8 J8 (c8 7) (u6 (c8 9)))) (b9 (w6 (D1 (A6 hr) (p9 (c8 12) b7) z8) (c9 (Z7 hr (c8 5) (p9 (c8 12) b7) (q9 a2s hr (z6 (p9 (c8 12) b7) (c8 5))))) p5) (b9 (w6 (D1 (A6 hr) (p9 (c8 12) b7) z8) (c9 (Z7 hr (c8 5) (p9 (c8 12) b7) (q9 a9J hr (z6 (p9 (c8 12) b7) (c8 5))))) p5) (b9 (w6 (D1 (A6 hr) (p9 (c8 12) b7) z8) (b9 (Z7 hr (c8 5) (p9 (c8 12) b7) (p9 (A5 F5 (c8 3) (A5 b8m (D8 (u6 b7)) (A5 F5 (c8 8) b7))) (c8 8))) (c9 (z9 8 nd (A5 F5 (c8 8) b7)))) p5) (b9 (w6 (D1 (A6 hr) (p9 (c8 12) b7) z8) (c9 (F4 (S3 u4 A9 A8 J8 (c8 6) (u6 (q9 a9J hr (z6 (p9 (c8 12) b7) (c8 5))))))) p5) (b9 (w6 (D1 (A6 hr) (p9 (c8 1) (c8 11)) (D8 O2)) (c9 (o4 (M4 (a5w (c8 6) (c8 7) (c8 5) Q2)))) p5) (c9 (z9 9 nd (M4 (z6 (c8 11) (J7 a2i rfl T.b0y T5 (u6 (Q4 (a0S (A6 hr) (p9 (c8 12) b7) z8) (U2 (a0S (A6 hr) (q9 a9J hr (z6 (p9 (c8 12) b7) (c8 5))) b7)))))))))))))))))) (c9 (o4 (M4 (a5w (c8 6) (c8 7) (c8 5) Q2)))))))))
variable(a4F:E9 P w K mg base 3 c8Q a6B (a3a K))
abbrev a8K:List Str:=["row"]
theorem b6G:C5 ["row"] a8K (o5 a8y):=by walk_at "sc"
include T in
theorem b6Y(F:Fun K "set_by" "set_by" a8y f fd):L9 P w K mg base CX0 1 f fd a8K (a2N K):=fk F b6G fun _ _ _ _ _ _ hr nd=>c9 (o4 (a0R (Y3 a3T (p9 (c8 0) b7) (M4 (a5x z8 z8 z8)) rfl) (p9 (c8 0) b7) a3Q))
variable(a4o:E9 P w K mg base 1 "set_by" a8K (a2N K))
abbrev a5g:List Str:=["operand",c8R]
theorem b2H:C5 ["operand",c8R] a5g (o5 a5a):=by walk_at "sc"
include T in
theorem b2S(F:Fun K c8S c8S a5a f fd):L9 P w K mg base CX0 1 f fd a5g (X2 K):=fk F b2H fun _ _ _ _ _ _ hr nd=>b9 (w6 (J5 (l9 F9 rfl T.E8 o8 (z6 (c8 0) (L3 rfl T.b6n a0M rfl)))) (c9 (o4 (a7Y hr (c8 1) (c8 0) b7))) p5) (c9 (o4 (c8 0)))
variable(O5:E9 P w K mg base 1 c8S a5g (X2 K))
abbrev b1n:List Str:=["deed",c8R]
theorem b8N:C5 ["deed",c8R,"kind","one","other"] b1n (o5 b0T):=by walk_at "sc"
include T O5 in
theorem b9V(F:Fun K "worth" "worth" b0T f fd):L9 P w K mg base CX0 2 f fd b1n (a5G K):=fk F b8N fun _ _ _ _ _ _ hr nd=>b9 (z9 2 nd (p9 (c8 0) b7)) (b9 (z9 3 nd (q9 O5 hr (z6 (p9 (c8 0) b7) (c8 1)))) (b9 (z9 4 nd (q9 O5 hr (z6 (p9 (c8 0) b7) (c8 1)))) (b9 (w6 (D1 (A6 hr) (c8 2) z8) (c9 (o4 (A5 M9 (A5 F5 (c8 3) (c8 4)) (P7 T.a7T rfl)))) p5) (b9 (w6 (D1 (A6 hr) (c8 2) z8) (c9 (o4 (A5 M9 (A5 a0T (c8 3) (c8 4)) (P7 T.a7T rfl)))) p5) (b9 (w6 (D1 (A6 hr) (c8 2) z8) (c9 (o4 (A5 M9 (A5 a0U (c8 3) (c8 4)) (P7 T.a7T rfl)))) p5) (b9 (w6 (D1 (A6 hr) (c8 2) z8) (c9 (o4 (a0R (D1 W8 (c8 3) (c8 4)) b7 b7))) p5) (c9 (o4 (a0R (D1 (A6 hr) (c8 3) (c8 4)) b7 b7)))))))))
variable(a7K:E9 P w K mg base 2 "worth" b1n (a5G K))
abbrev a4c:List Str:=["row",c8R,"left"]
theorem b0P:C5 ["row",c8R,"left"] a4c (o5 a3Z):=by walk_at "sc"
include T O5 a7K in
theorem b1z(F:Fun K c8T c8T a3Z f fd):L9 P w K mg base CX0 3 f fd a4c (a1B K):=fk F b0P fun _ _ _ _ _ _ hr nd=>b9 (w6 (D1 (A6 hr) (p9 (c8 0) b7) z8) (c9 (o4 (q9 a7K hr (z6 (p9 (c8 0) b7) (c8 1))))) p5) (b9 (w6 (D1 (A6 hr) (p9 (c8 0) b7) z8) (c9 (o4 (q9 O5 hr (z6 (p9 (c8 0) b7) (c8 1))))) p5) (c9 (o4 (a0R (D1 a1g (l9 z7 rfl T.O7 t6 (u6 (c8 2))) b7) (a2L u4 b3F b3C a9T (c8 2)) b7))))
variable(a2r:E9 P w K mg base 3 c8T a4c (a1B K))
abbrev a2A:List Str:=[c8U,"row",c8R]
theorem a8w:C5 [c8U,"row",c8R] a2A (o5 a2z):=by walk_at "sc"
include T O5 in
theorem a8O(F:Fun K c8V c8V a2z f fd):L9 P w K mg base CX0 2 f fd a2A (a0E K):=fk F a8w fun _ _ _ _ _ _ hr nd=>b9 (w6 (Q1 (a2I (D1 (A6 hr) (p9 (c8 1) b7) z8) (a1J (D1 (A6 hr) (q9 O5 hr (z6 (p9 (c8 1) b7) (c8 2))) b7)))) (c9 (o4 (M4 (z6 (c8 0) b7)))) p5) (c9 (o4 (M4 (z6 (c8 0) b7))))
variable(a1c:E9 P w K mg base 2 c8V a2A (a0E K))
abbrev a1s:List Str:=["self","step"]
theorem a6r:C5 ["self","step"] a1s (o5 a1q):=by walk_at "sc"
include T in
theorem a6F(F:Fun K "leads_to" "Plan.leads_to" a1q f fd):L9 P w K mg base CX0 1 f fd a1s (W9 K c):=fk F a6r fun _ _ _ _ _ _ hr nd=>b9 (w6 (Y3 (a9S hr) (c8 1) (P7 T.a3A rfl) (a4g _)) (c9 (o4 b7)) p5) (c9 (o4 (p9 (p9 (a3R (c8 0)) (p9 (c8 1) b7)) (p9 (c8 1) b7))))
variable(R3:a7R P w K mg base 1 "leads_to" c.T1 a1s (W9 K c))
abbrev b9R:List Str:=["plan","start","taken","most"]
theorem c3Q:C5 ["plan","start","taken","most",c8R,"left","told","way","step","ended",c8U,"row"] b9R (o5 b8Y):=by walk_at "sc"
include T a4o O5 a2r a1c R3 in
theorem c5m(F:Fun K "run" "run" b8Y f fd):L9 P w K mg base CX0 4 f fd b9R (a6p K c):=fk F c3Q fun _ _ _ _ _ _ hr nd=>b9 (z9 4 nd (J7 a1z rfl T.a9q X1 (u6 (c8 1)))) (b9 (z9 5 nd (b0B (c8 2) rfl rfl T.a0e rfl T.b5o C0 PyProof.Rows.boot_reversed)) (b9 (z9 6 nd (D8 O2)) (b9 (z9 7 nd (D8 O2)) (b9 (z9 8 nd (P7 T.a3A rfl)) (b9 (z9 9 nd Q2) (b9 (a7W PassesOwn.never (Q1 (a2I (D1 W8 (l9 z7 rfl T.O7 t6 (u6 (c8 7))) (c8 3)) (a1J (K8 (J5 (c8 9)))))) (b9 (F4 (S3 u4 A9 A8 J8 (c8 7) (u6 (c8 8)))) (b9 (z9 10 nd (b2s R3 hr (by decide) (c8 0) (u6 (c8 8)))) (b9 (z9 11 nd (p9 (a3R (c8 0)) (c8 10))) (b9 (w6 (D1 a6Y (q9 a4o hr (u6 (c8 11))) a3Q) (c9 (Z7 hr (c8 4) (q9 a4o hr (u6 (c8 11))) (q9 a2r hr (a5x (c8 11) (c8 4) (c8 5))))) (c9 (w6 (D1 (A6 hr) (p9 (c8 11) b7) z8) (c9 (F4 (S3 u4 A9 A8 J8 (c8 6) (u6 (q9 O5 hr (z6 (p9 (c8 11) b7) (c8 4))))))) p5))) (b9 (z9 9 nd (a0S (A6 hr) (l9 z7 rfl T.O7 t6 (u6 (p9 (a3R (c8 0)) (c8 10)))) b7)) (c9 (z9 8 nd (q9 a1c hr (a5x (c8 10) (c8 11) (c8 4))))))))))) (c9 (o4 (M4 (a5w (c8 6) (c8 7) (c8 4) (c8 9)))))))))))
variable(b3w:E9 P w K mg base 4 "run" b9R (a6p K c))
abbrev b1o:List Str:=["_law_thing"]
theorem b8O:C5 ["_law_thing"] b1o (o5 b0U):=by walk_at "sc"
include T in
theorem b9W(F:Fun K c8W c8W b0U f fd):L9 P w K mg base CX0 1 f fd b1o (a1U K):=fk F b8O fun _ _ _ _ _ _ hr nd=>c9 (o4 (Q4 (l9 F9 rfl T.E8 o8 (z6 (c8 0) (L3 rfl T.b0y T5 rfl))) (U2 (b2r (l9 F9 rfl T.E8 o8 (z6 (c8 0) (L3 rfl T.b5p a2D rfl)))))))
variable(a1G:E9 P w K mg base 1 c8W b1o (a1U K))
abbrev a6C:List Str:=[c8f,c8K]
theorem b4e:C5 [c8f,c8K] a6C (o5 a6v):=by walk_at "sc"
include T a1G in
theorem b4F(F:Fun K c8X c8X a6v f fd):L9 P w K mg base CX0 2 f fd a6C (a3b K):=fk F b4e fun _ _ _ _ _ _ hr nd=>b9 (w6 (Q1 (Q8 (K8 (J5 (l9 b0D rfl T.E8 o8 (z6 (c8 1) (L3 rfl T.a7U a0n rfl))))) (Q8 (D1 (a3S hr) (l9 b0C rfl T.O7 t6 (u6 (c8 1))) b7) (Q8 (K8 (J5 (q9 a1G hr (u6 (a0Y a1y (c8 1) b7 (fun _ _=>rfl)))))) (U1 (K8 (J5 (q9 a1G hr (u6 (a0Y a1y (c8 1) b7 (fun _ _=>rfl))))))))))) (c9 (o4 Q2)) p5) (b9 (w6 (Y3 (a9S hr) (c8 1) (M4 (z6 (a5v a3N b7) b7)) (a4g _)) (c9 (o4 Q2)) p5) (c9 (o4 (Q4 (a2W a2M W8 b7 (a0Y a1y (c8 1) b7 (fun _ _=>rfl)) (l9 z7 rfl T.O7 t6 (u6 (c8 0)))) (U2 (a2W a2M W8 b7 (a0Y a1y (c8 1) b7 (fun _ _=>rfl)) (l9 z7 rfl T.O7 t6 (u6 (p9 (c8 0) (a0Y a1y (c8 1) b7 (fun _ _=>rfl)))))))))))
variable(a4G:E9 P w K mg base 2 c8X a6C (a3b K))
abbrev a8L:List Str:=[c8f,c8h]
theorem b6H:C5 [c8f,c8h,"_law_places_here",c8g,c8m] a8L (o5 a8z):=by walk_at "sc"
include T a3s a4G in
theorem b6Z(F:Fun K c8Y c8Y a8z f fd):L9 P w K mg base CX0 3 f fd a8L (a4y K):=fk F b6H fun _ _ _ _ _ _ hr nd=>b9 (w6 (K8 (J5 (l9 F9 rfl T.E8 o8 (z6 (c8 1) (L3 rfl T.a0e C0 rfl))))) (c9 (o4 a3Q)) p5) (b9 (z9 2 nd (D8 O2)) (b9 (N4 PassesOwn.never rfl (a2J rfl T.a1o (u6 (c8 1))) (a2K rfl (N6 (M5 3 nd) (N6 (M5 4 nd) a1K))) (b9 (w6 (Q1 (Q8 (K8 (J5 (q9 a4G hr (z6 (c8 0) (c8 4))))) (U1 (Q1 (a2I (D1 a1g (c8 3) b7) (a1J (D1 (a3S hr) (a0Y a1y (c8 4) b7 (fun _ _=>rfl)) (p9 (c8 2) (a5v a3N b7))))))))) (c9 (o4 a3Q)) p5) (c9 (F4 (S3 u4 A9 A8 J8 (c8 2) (u6 (q9 a3s hr (z6 (c8 0) (c8 4))))))))) (c9 (o4 (c8 2)))))
variable(a5Y:E9 P w K mg base 3 c8Y a8L (a4y K))
abbrev b1v:List Str:=["_law_found","_law_deep"]
theorem b8W:C5 ["_law_found","_law_deep",c8m,c8A] b1v (o5 b1b):=by walk_at "sc"
include T a1G a5Y in
theorem c0d(F:Fun K c8Z c8Z b1b f fd):L9 P w K mg base CX0 4 f fd b1v (a5L K):=fk F b8W fun _ _ _ _ _ _ hr nd=>b9 (w6 (Q1 (Q8 (K8 (J5 (l9 F9 rfl T.E8 o8 (z6 (c8 0) (L3 rfl T.a7U a0n rfl))))) (Q8 (D1 (a3S hr) (l9 z7 rfl T.O7 t6 (u6 (c8 0))) b7) (U1 (K8 (J5 (l9 F9 rfl T.E8 o8 (z6 (p9 (c8 0) b7) (L3 rfl T.b5p a2D rfl))))))))) (c9 (o4 Q2)) p5) (b9 (w6 (Q1 (Q8 (K8 (J5 (l9 F9 rfl T.E8 o8 (z6 (p9 (c8 0) b7) (L3 rfl T.a0e C0 rfl))))) (Q8 (K8 (J5 (l9 F9 rfl T.E8 o8 (z6 (p9 (c8 0) b7) (L3 rfl T.a0e C0 rfl))))) (U1 (K8 (J5 (l9 F9 rfl T.E8 o8 (z6 (p9 (c8 0) b7) (L3 rfl T.a9q X1 rfl))))))))) (c9 (o4 Q2)) p5) (b9 (N4 PassesOwn.never rfl (L8 (p9 (c8 0) b7)) (M5 2 nd) (c9 (w6 (K8 (J5 (q9 a1G hr (u6 (c8 2))))) (c9 (o4 Q2)) p5))) (b9 (b6p PassesOwn.never rfl (p9 (c8 0) b7) (M5 3 nd) (c9 (w6 (Q1 (Q8 (K8 (J5 (l9 F9 rfl T.E8 o8 (z6 (c8 3) (L3 rfl T.b6n a0M rfl))))) (U1 (K8 (J5 (q9 a1G hr (u6 (b6u hr (p9 (c8 0) b7) (c8 3) (fun _ _=>rfl))))))))) (c9 (o4 Q2)) p5))) (c9 (o4 (a0S a6Y (q9 a5Y hr (z6 (c8 1) (p9 (c8 0) b7))) a3Q))))))
variable(a7P:E9 P w K mg base 4 c8Z b1v (a5L K))
abbrev b1w:List Str:=[c9a,c8C,c8f,"_law_ask"]
theorem b8X:C5 [c9a,c8C,c8f,"_law_ask",c8I,c8O,c8P,"_law_handed","_law_due","_law_found"] b1w (o5 b1e):=by walk_at "sc"
include T a4F b3w a7P in
theorem c0e(F:Fun K c9b c9b b1e f fd):L9 P w K mg base CX0 5 f fd b1w (a5N K c):=fk F b8X fun _ _ _ _ _ _ hr nd=>b9 (a1S (c8 3) (a2K rfl (N6 (M5 4 nd) (N6 (M5 5 nd) (N6 (M5 6 nd) a1K))))) (b9 (z9 7 nd (D8 (z6 (J7 a1z rfl T.a9q X1 (u6 (c8 4))) (J7 V1 rfl T.a0e C0 (u6 (c8 5)))))) (b9 (z9 8 nd (q9 a4F hr (a9Q (c8 1) (c8 2) (c8 4) (c8 5) (c8 6)))) (b9 (z9 9 nd (q9 b3w hr (a5w (c8 0) (p9 (c8 7) b7) (p9 (c8 7) b7) (c8 6)))) (b9 (w6 (Q1 (Q8 (K8 (J5 (q9 a7P hr (z6 (c8 9) (c8 2))))) (Q8 (Y3 (b6v hr) (c8 9) (c8 8) (a4g _)) (U1 (Y3 (a9R hr) (c8 7) (D8 (z6 (c8 4) (c8 5))) (a4g _)))))) (c9 (o4 Q2)) p5) (b9 (F4 (S3 u4 A9 A8 J8 (p9 (c8 9) b7) (u6 b7))) (b9 (F4 (a2L u4 b2l b2i a6Z (p9 (c8 9) b7))) (b9 (F4 (a2L a3x a3w b2j a5z (p9 (c8 9) b7))) (b9 (w6 (Y3 (a9R hr) (c8 7) (D8 (z6 (c8 4) (c8 5))) (a4g _)) (c9 (o4 Q2)) p5) (b9 (F4 (a2L a3x a3w b2j a5z (p9 (c8 7) b7))) (b9 (F4 (S3 u4 A9 A8 J8 (p9 (c8 7) b7) (u6 b7))) (c9 (o4 (a1L (b6x hr) (q9 b3w hr (a5w (c8 0) (J7 a1z rfl T.a9q X1 (u6 (c8 4))) (J7 V1 rfl T.a0e C0 (u6 (c8 5))) (c8 6))) (c8 8) (a4g _))))))))))))))
variable(a7Q:E9 P w K mg base 5 c9b b1w (a5N K c))
abbrev a2b:List Str:=["things","at","least"]
theorem a7s:C5 ["things","at","least"] a2b (o5 a1Y):=by walk_at "sc"
include T in
theorem a7t(F:Fun K c9c c9c a1Y f fd):L9 P w K mg base CX0 1 f fd a2b (a0p K):=fk F a7s fun _ _ _ _ _ _ hr nd=>b9 (w6 (Q1 (Q8 (K8 (J5 (l9 F9 rfl T.E8 o8 (z6 (c8 0) (L3 rfl T.a0e C0 rfl))))) (U1 (D1 W8 (l9 z7 rfl T.O7 t6 (u6 (c8 0))) (c8 2))))) (c9 a1R) p5) (c9 (w6 (D1 a1g (l9 z7 rfl T.O7 t6 (u6 (c8 0))) (P7 T.c6f rfl)) (c9 a1R) p5))
variable(a0J:E9 P w K mg base 1 c9c a2b (a0p K))
abbrev a6D:List Str:=[c9d]
theorem b4f:C5 [c9d] a6D (o5 a4C):=by walk_at "sc"
theorem b1Q:T0 [c9d] (o5 a4C) (scF [ (".0",.local),("sign",.local),("LETTERS",.globalImplicit),("FIGURES",.globalImplicit)]) "sign" := by walk_at "c0"
include T in
theorem b4G(F:Fun K "is_name" "is_name" a4C f fd):L9 P w K mg base CX0 1 f fd a6D (X5 K):=fk F b4f fun _ _ _ _ _ _ hr nd=>b9 (w6 (Q1 (Q8 (K8 (J5 (l9 F9 rfl T.E8 o8 (z6 (c8 0) (L3 rfl T.b6n a0M rfl))))) (U1 (K8 (b3N a2M a2M b7 (l9 z7 rfl T.O7 t6 (u6 (c8 0))) (P7 T.a9p rfl)))))) (c9 (o4 Q2)) p5) (c9 (o4 (Q4 (a1L a3T (p9 (c8 0) b7) (P7 T.b0x rfl) rfl) (U2 (l9 (a7a rfl) rfl T.c3G a9M (u6 (Q9 b1Q rfl (b8j (c8 0)) (fun _ _ _ _ _=>N8) (fun _ _ _ _ _=>a1L a3T (c8 0) (A5 F5 (P7 T.b0x rfl) (P7 T.b7R rfl)) rfl))))))))
variable(Z9:E9 P w K mg base 1 "is_name" a6D (X5 K))
abbrev a5j:List Str:=[c9d]
theorem b2K:C5 [c9d] a5j (o5 a5b):=by walk_at "sc"
include T in
theorem b2V(F:Fun K c9e c9e a5b f fd):L9 P w K mg base CX0 1 f fd a5j (a1j K):=fk F b2K fun _ _ _ _ _ _ hr nd=>c9 (o4 (Q4 (l9 F9 rfl T.E8 o8 (z6 (c8 0) (L3 rfl T.b0y T5 rfl))) (U2 (b2r (l9 F9 rfl T.E8 o8 (z6 (c8 0) (L3 rfl T.b5p a2D rfl)))))))
variable(a0t:E9 P w K mg base 1 c9e a5j (a1j K))
abbrev a5k:List Str:=[c9d]
theorem b2L:C5 [c9d] a5k (o5 a5c):=by walk_at "sc"
include T a0t in
theorem b2W(F:Fun K c9f c9f a5c f fd):L9 P w K mg base CX0 2 f fd a5k (a2l K):=fk F b2L fun _ _ _ _ _ _ hr nd=>c9 (o4 (Q4 (q9 a0t hr (u6 (c8 0))) (U2 (a2W a2M W8 b7 (c8 0) (P7 T.a7T rfl)))))
variable(a3t:E9 P w K mg base 2 c9f a5k (a2l K))
abbrev a3m:List Str:=[c9d]
theorem a9w:C5 [c9d] a3m (o5 a3f):=by walk_at "sc"
include T Z9 a3t in
theorem a9z(F:Fun K c9g c9g a3f f fd):L9 P w K mg base CX0 3 f fd a3m (W0 K):=fk F a9w fun _ _ _ _ _ _ hr nd=>c9 (o4 (c1b (q9 Z9 hr (u6 (c8 0))) (U2 (q9 a3t hr (u6 (c8 0))))))
variable(S9:E9 P w K mg base 3 c9g a3m (W0 K))
abbrev a6E:List Str:=[c9d]
theorem b4g:C5 [c9d] a6E (o5 a6w):=by walk_at "sc"
include T S9 in
theorem b4H(F:Fun K "is_deed" "is_deed" a6w f fd):L9 P w K mg base CX0 4 f fd a6E (a3c K c):=fk F b4g fun _ _ _ _ _ _ hr nd=>b9 (w6 (Q1 (Q8 (K8 (J5 (l9 F9 rfl T.E8 o8 (z6 (c8 0) (L3 rfl T.a7U a0n rfl))))) (U1 (D1 (a3S hr) (l9 z7 rfl T.O7 t6 (u6 (c8 0))) b7)))) (c9 (o4 Q2)) p5) (c9 (o4 (Q4 (a1L b6w (p9 (c8 0) b7) (P7 T.b2h rfl) rfl) (Q4 (q9 S9 hr (u6 (p9 (c8 0) b7))) (U2 (q9 S9 hr (u6 (p9 (c8 0) b7))))))))
variable(a4H:E9 P w K mg base 4 "is_deed" a6E (a3c K c))
abbrev a8N:List Str:=[c9d]
theorem b6J:C5 [c9d,"kind","rest"] a8N (o5 a8A):=by walk_at "sc"
include T Z9 S9 a4H in
theorem b7b(F:Fun K "is_row" "is_row" a8A f fd):L9 P w K mg base CX0 5 f fd a8N (a4A K c):=fk F b6J fun _ _ _ _ _ _ hr nd=>b9 (w6 (Q1 (Q8 (K8 (J5 (l9 F9 rfl T.E8 o8 (z6 (c8 0) (L3 rfl T.a7U a0n rfl))))) (U1 (D1 (A6 hr) (l9 z7 rfl T.O7 t6 (u6 (c8 0))) b7)))) (c9 (o4 Q2)) p5) (b9 (z9 1 nd (p9 (c8 0) b7)) (b9 (z9 2 nd (a2V b3M (c8 0) (a4u b7) a4v)) (b9 (w6 (D1 (A6 hr) (c8 1) z8) (c9 (o4 (Q4 (a0S (A6 hr) (l9 z7 rfl T.O7 t6 (u6 (c8 2))) b7) (Q4 (q9 Z9 hr (u6 (p9 (c8 2) b7))) (U2 (q9 a4H hr (u6 (p9 (c8 2) b7)))))))) p5) (b9 (w6 (D1 (A6 hr) (c8 1) z8) (c9 (o4 (Q4 (a0S (A6 hr) (l9 z7 rfl T.O7 t6 (u6 (c8 2))) b7) (Q4 (q9 Z9 hr (u6 (p9 (c8 2) b7))) (U2 (q9 S9 hr (u6 (p9 (c8 2) b7)))))))) p5) (b9 (w6 (D1 (A6 hr) (c8 1) z8) (c9 (o4 (Q4 (a0S (A6 hr) (l9 z7 rfl T.O7 t6 (u6 (c8 2))) b7) (U2 (q9 Z9 hr (u6 (p9 (c8 2) b7))))))) p5) (b9 (w6 (Y3 a3T (c8 1) (M4 (z6 z8 z8)) rfl) (c9 (o4 (Q4 (a0S (A6 hr) (l9 z7 rfl T.O7 t6 (u6 (c8 2))) b7) (U2 (q9 S9 hr (u6 (p9 (c8 2) b7))))))) p5) (c9 (o4 (Q4 (a0S (A6 hr) (c8 1) z8) (U2 (a0S (A6 hr) (l9 z7 rfl T.O7 t6 (u6 (c8 2))) b7)))))))))))
variable(a6a:E9 P w K mg base 5 "is_row" a8N (a4A K c))
abbrev a3o:List Str:=["rights"]
theorem a9y:C5 ["rights","k","right"] a3o (o5 a3i):=by walk_at "sc"
include T in
theorem a9B(F:Fun K c9h c9h a3i f fd):L9 P w K mg base CX0 1 f fd a3o (a0i K):=fk F a9y fun _ _ _ _ _ _ hr nd=>c9 (N4 PassesOwn.never rfl (a2J rfl T.a1o (u6 (c8 0))) (a2K rfl (N6 (M5 1 nd) (N6 (M5 2 nd) a1K))) (c9 (w6 (K8 (J5 (c8 2))) (c9 a1R) p5)))
variable(X7:E9 P w K mg base 1 c9h a3o (a0i K))
abbrev a5l:List Str:=[c9d,"many"]
theorem b2M:C5 [c9d,"many"] a5l (o5 a5d):=by walk_at "sc"
include T a0t in
theorem b2X(F:Fun K c9i c9i a5d f fd):L9 P w K mg base CX0 2 f fd a5l (a2m K):=fk F b2M fun _ _ _ _ _ _ hr nd=>c9 (o4 (Q4 (q9 a0t hr (u6 (c8 0))) (U2 (a2W a2M W8 b7 (c8 0) (c8 1)))))
variable(a3u:E9 P w K mg base 2 c9i a5l (a2m K))
abbrev a4e:List Str:=["row",c9j,"many"]
theorem b0R:C5 ["row",c9j,"many","wanted"] a4e (o5 a2n):=by walk_at "sc"
theorem a9d:T0 ["row",c9j,"many","wanted"] (o5 a2n) (scF [ (".0",.local),(c8U,.local),(c9i,.globalImplicit),("many",.free)]) c8U := by walk_at "c0"
include T a3u in
theorem b1B(F:Fun K c9k c9k a2n f fd):L9 P w K mg base CX0 3 f fd a4e (a1D K):=fk F b0R fun _ _ _ _ _ _ hr nd=>b9 (w6 (K8 (J5 (l9 F9 rfl T.E8 o8 (z6 (c8 1) (L3 rfl T.a0e C0 rfl))))) (c9 (o4 Q2)) p5) (b9 (z9 3 nd (a0R (D1 (A6 hr) (p9 (c8 0) b7) z8) (M4 (u6 b7)) (M4 (z6 b7 b7)))) (c9 (o4 (Q4 (a1L a3T (l9 z7 rfl T.O7 t6 (u6 (c8 1))) (c8 3) rfl) (U2 (l9 (a7a rfl) rfl T.c3G a9M (u6 (Q9 a9d rfl (L8 (c8 1)) (fun _ _ _ _ _=>N8) (fun _ _ _ _ _=>q9 a3u hr (z6 (c8 0) (c8 3)))))))))))
variable(a2t:E9 P w K mg base 3 c9k a4e (a1D K))
abbrev a2B:List Str:=[c9l,c9m]
theorem a8x:C5 [c9l,c9m] a2B (o5 a1a):=by walk_at "sc"
theorem a6L:a3v [c9l,c9m] (o5 a1a) (scF [ (".0",.local),("row",.local),(c9j,.local),(c9k,.globalImplicit),("len",.globalImplicit),(c9l,.free)]) "row" c9j := by walk_at "c2"
include T X7 a2t in
theorem a8P(F:Fun K c9n c9n a1a f fd):L9 P w K mg base CX0 4 f fd a2B (a0F K):=fk F a8x fun _ _ _ _ _ _ hr nd=>b9 (w6 (Q1 (Q8 (K8 (J5 (l9 F9 rfl T.E8 o8 (z6 (c8 1) (L3 rfl T.a0e C0 rfl))))) (U1 (D1 (a3S hr) (l9 z7 rfl T.O7 t6 (u6 (c8 1))) (l9 z7 rfl T.O7 t6 (u6 (c8 0))))))) (c9 a1R) p5) (c9 (F4 (q9 X7 hr (u6 (a7Z a6L rfl (b8i rfl T.c7q (z6 (c8 0) (c8 1))) (fun _ _ _ _ _=>N8) (fun _ _ _ _ _=>q9 a2t hr (a5x (c8 0) (c8 1) (l9 z7 rfl T.O7 t6 (u6 (c8 2))))))))))
variable(a1d:E9 P w K mg base 4 c9n a2B (a0F K))
abbrev a6z:List Str:=["begins","leads"]
theorem b4b:C5 ["begins","leads","seen","waiting",c8U] a6z (o5 a6s):=by walk_at "sc"
include T in
theorem b4C(F:Fun K "reached" "reached" a6s f fd):L9 P w K mg base CX0 1 f fd a6z (a1W K):=fk F b4b fun _ _ _ _ _ _ hr nd=>b9 (z9 2 nd a4X) (b9 (z9 3 nd (J7 V1 rfl T.a0e C0 (u6 (c8 0)))) (b9 (a7W PassesOwn.never (D1 a1g (l9 z7 rfl T.O7 t6 (u6 (c8 3))) b7) (b9 (z9 4 nd (a2L u4 b3F b3C a9T (c8 3))) (c9 (w6 (a3O hr (c8 4) (c8 2) rfl) (b9 (Z7 hr (c8 2) (c8 4) Q2) (c9 (F4 (S3 u4 b2e b2d a5y (c8 3) (u6 (p9 (c8 1) (c8 4))))))) p5)))) (c9 (o4 (c8 2)))))
variable(a2Q:E9 P w K mg base 1 "reached" a6z (a1W K))
abbrev a8J:List Str:=[c9m]
theorem b6F:C5 [c9m,"sources",c8U,c9j,"target"] a8J (o5 a5O):=by walk_at "sc"
theorem b3q:T0 [c9m,"sources",c8U,c9j,"target"] (o5 a5O) (scF [(".0",.local),(c9j,.local)]) c9j := by walk_at "c0"
include T in
theorem b6X(F:Fun K "turned" "turned" a5O f fd):L9 P w K mg base CX0 1 f fd a8J (a4x K):=fk F b6F fun _ _ _ _ _ _ hr nd=>b9 (a2U (n:=1) nd rfl rfl b3q rfl (L8 (c8 0)) (fun _ _ _ _ _=>N8) (fun _ _ _ _ _=>D8 O2)) (b9 (N4 PassesOwn.never rfl (a2J rfl T.a1o (u6 (c8 0))) (a2K rfl (N6 (M5 2 nd) (N6 (M5 3 nd) a1K))) (c9 (N4 PassesOwn.never rfl (L8 (c8 3)) (M5 4 nd) (c9 (F4 (S3 u4 A9 A8 J8 (p9 (c8 1) (c8 4)) (u6 (c8 2)))))))) (c9 (o4 (c8 1))))
variable(a5X:E9 P w K mg base 1 "turned" a8J (a4x K))
abbrev a5h:List Str:=[c9m]
theorem b2I:C5 [c9m] a5h (o5 a3d):=by walk_at "sc"
theorem a9H:a3v [c9m] (o5 a3d) (scF [ (".0",.local),(c8U,.local),(c9j,.local),("len",.globalImplicit)]) c8U c9j := by walk_at "c2"
include T in
theorem b2T(F:Fun K c9o c9o a3d f fd):L9 P w K mg base CX0 1 f fd a5h (a2j K):=fk F b2I fun _ _ _ _ _ _ hr nd=>c9 (o4 (a7Z a9H rfl (a2J rfl T.a1o (u6 (c8 0))) (fun _ _ _ _ _=>a9P (D1 (A6 hr) (l9 z7 rfl T.O7 t6 (u6 (c8 1))) b7)) (fun _ _ _ _ _=>c8 0)))
variable(a3q:E9 P w K mg base 1 c9o a5h (a2j K))
abbrev a3n:List Str:=[c9m]
theorem a9x:C5 [c9m,"begun","ending",c8U] a3n (o5 a3h):=by walk_at "sc"
include T a2Q a5X a3q in
theorem a9A(F:Fun K c9p c9p a3h f fd):L9 P w K mg base CX0 2 f fd a3n (a0Z K):=fk F a9x fun _ _ _ _ _ _ hr nd=>b9 (z9 1 nd (q9 a2Q hr (z6 (D8 (u6 b7)) (c8 0)))) (b9 (z9 2 nd (q9 a2Q hr (z6 (q9 a3q hr (u6 (c8 0))) (q9 a5X hr (u6 (c8 0)))))) (c9 (N4 PassesOwn.never rfl (M7 rfl T.Y8 (u6 (l9 z7 rfl T.O7 t6 (u6 (c8 0))))) (M5 3 nd) (c9 (w6 (Q1 (Q8 (a3O hr (c8 3) (c8 1) rfl) (U1 (a3O hr (c8 3) (c8 2) rfl)))) (c9 a1R) p5)))))
variable(a1H:E9 P w K mg base 2 c9p a3n (a0Z K))
abbrev a5i:List Str:=[c9m]
theorem b2J:C5 [c9m,"steps",c8U,c9j] a5i (o5 a3e):=by walk_at "sc"
theorem a9I:T0 [c9m,"steps",c8U,c9j] (o5 a3e) (scF [ (".0",.local),("at",.local),(c8U,.free)]) "at" := by walk_at "c0"
include T in
theorem b2U(F:Fun K c9q c9q a3e f fd):L9 P w K mg base CX0 1 f fd a5i (a2k K c):=fk F b2J fun _ _ _ _ _ _ hr nd=>b9 (z9 1 nd (D8 (u6 (P7 T.a3A rfl)))) (b9 (N4 PassesOwn.never rfl (a2J rfl T.a1o (u6 (c8 0))) (a2K rfl (N6 (M5 2 nd) (N6 (M5 3 nd) a1K))) (c9 (F4 (S3 u4 b2e b2d a5y (c8 1) (u6 (Q9 a9I rfl (M7 rfl T.Y8 (u6 (l9 z7 rfl T.O7 t6 (u6 (c8 3))))) (fun _ _ _ _ _=>N8) (fun _ _ _ _ _=>M4 (z6 (c8 3) (c8 0))))))))) (c9 (o4 (c8 1))))
variable(a3r:E9 P w K mg base 1 c9q a5i (a2k K c))
abbrev a4f:List Str:=["self",c9l,c9m]
theorem b0S:C5 ["self",c9l,c9m,"step"] a4f (o5 a0y):=by walk_at "sc"
theorem a9g:T0 ["self",c9l,c9m,"step"] (o5 a0y) (scF [ (".0",.local),("row",.local),("is_row",.globalImplicit)]) "row" := by walk_at "c0"
theorem a9f:T0 ["self",c9l,c9m,"step"] (o5 a0y) (scF [ (".0",.local),(c9j,.local),("list",.globalImplicit)]) c9j := by walk_at "c0"
theorem a9e:T0 ["self",c9l,c9m,"step"] (o5 a0y) (scF [(".0",.local),("row",.local)]) "row" := by walk_at "c0"
include T R3 a0J a6a X7 a1d a1H a3r in
theorem b1C(F:Fun K c7Z "Plan.__init__" a0y f fd):L9 P w K mg base CX0 6 f fd a4f (a1E K c):=fk F b0S fun _ _ _ _ _ _ hr nd=>b9 (F4 (q9 a0J hr (a5x (c8 1) b7 b7))) (b9 (F4 (q9 X7 hr (u6 (Q9 a9g rfl (L8 (c8 1)) (fun _ _ _ _ _=>N8) (fun _ _ _ _ _=>q9 a6a hr (u6 (c8 0))))))) (b9 (F4 (q9 a1d hr (z6 (c8 1) (c8 2)))) (b9 (F4 (q9 a1H hr (u6 (c8 2)))) (b9 (a7X (c8 0) (J7 V1 rfl T.a0e C0 (u6 (c8 1)))) (b9 (a7X (c8 0) (Q9 a9f rfl (L8 (c8 2)) (fun _ _ _ _ _=>N8) (fun _ _ _ _ _=>J7 V1 rfl T.a0e C0 (u6 (c8 0))))) (b9 (a7X (c8 0) (Q9 a9e rfl (L8 (c8 1)) (fun _ _ _ _ _=>N8) (fun _ _ _ _ _=>D8 O2))) (c9 (N4 PassesOwn.never rfl (L8 (q9 a3r hr (u6 (a3R (c8 0))))) (M5 3 nd) (c9 (F4 (S3 u4 A9 A8 J8 (p9 (a3R (c8 0)) (b2s R3 hr (by decide) (c8 0) (u6 (c8 3)))) (u6 (c8 3)))))))))))))
variable(b1D:b3y P w K mg base 6 "Plan" c.T1 a4f (a1E K c))
abbrev c3x:List Str:=[c8a]
theorem b8V:C5 [c8a,c8c,c8C,c8f,c8t,c8z,"_law_handed",c9a,c8D,"_law_asks",c8k,"_law_ask"] c3x (o5 b5K):=by walk_at "sc"
include T b6f D3 b1U a7O b1V a7L a7M a7Q b1D in
theorem c5p(ck:a9m K c)(F:Fun K "law" "law" b5K f fd):L9 P w K mg base CX0 8 f fd c3x (a8r K):=by
 refine b2u F b8V (fun vs H Q E h=>h.1) (fun cdv A outer s H vs Q E hr h=>⟨b8D K c,?_,h.2 c ck⟩)
 have nd:=b8V.nd
 exact b9 (z9 1 nd (q9 b6f hr (u6 (c8 0)))) (b9 (a1S (q9 b1U hr (u6 (c8 1))) (a2K rfl (N6 (M5 2 nd) (N6 (M5 3 nd) (N6 (M5 4 nd) (N6 (M5 5 nd) a1K)))))) (b9 (z9 6 nd (D8 (z6 (J7 V1 rfl T.a0e C0 (u6 (c8 2))) (q9 a7O hr (u6 (c8 3)))))) (b9 (z9 7 nd (c3M b1D hr (z6 (p9 (c8 6) b7) (p9 (c8 6) b7)))) (b9 (F4 (a2L u4 b2l b2i a6Z (p9 (c8 6) b7))) (b9 (N4 PassesOwn.never rfl (L8 (p9 (c8 6) b7)) (M5 8 nd) (c9 (F4 (S3 u4 A9 A8 J8 (c8 8) (u6 b7))))) (b9 (z9 9 nd (D8 O2)) (b9 (N4 PassesOwn.never rfl (M7 rfl T.Y8 (u6 (A5 F5 b7 (q9 D3 hr (z6 (c8 1) b7))))) (M5 10 nd) (b9 (F4 (S3 u4 A9 A8 J8 (c8 9) (u6 (M4 (a5x (q9 a7M hr (z6 (c8 1) (c8 4))) (q9 a7L hr (u6 (c8 1))) (q9 b1V hr (u6 (c8 1)))))))) (c9 (N4 PassesOwn.never rfl (L8 (D8 (z6 (p9 (c8 9) (q9 D3 hr (z6 (c8 1) (l9 z7 rfl T.O7 t6 (u6 (c8 9)))))) (p9 (c8 9) (a5v a3N b7))))) (M5 11 nd) (c9 (w6 (K8 (J5 (q9 a7Q hr (a5w (c8 7) (c8 2) (c8 3) (c8 11))))) (c9 (o4 Q2)) p5)))))) (c9 (o4 Q2)))))))))
end
end
structure ClF(K:Fg)(y:Str)(C:Addr):Prop where
 y:D0 K A4 y=some (some (.ref C))
 pg:a1n K C Str.empty=true
 hd:a2C K C=true
 po:a6U K C=true
 sa:F3 K (.ref C) "__setattr__" = some (some (.builtin "object.__setattr__"))
 mm:a3J K C=true
 kc:U3 K (.ref C)=true
abbrev pm0:Value:=(.str "law_oncedone_k31_rows_done" 599)
abbrev pm1:Value:=(.str "oncedone.deeds" 253)
abbrev pm2:Value:=(.str "oncedone.runs" 561)
abbrev pm3:Value:=(.str "oncedone.plans" 431)
abbrev pm4:Value:=(.str "oncedone.checks" 401)
abbrev pm5:Value:=(.str "oncedone.words" 194)
theorem c5U{l:PySem.W.OpenLaw}{w:World}{K:Fg}{h:Heap}{mg:Str->Option Value}{fa:Addr}(X:K.In h)(G:h.Ns A4 mg)(hfa:mg "law" = some (.ref fa))
  (y_Plan:ClF K "Plan" 290)
  (a0s:F3 K (.ref 290) "entries" = some none)
  (Y4:F3 K (.ref 290) c9m = some none)
  (a1I:F3 K (.ref 290) c9l = some none)
  (y_DEED_KINDS:D0 K A4 "DEED_KINDS" = some (some (.ref 22))) (l_DEED_KINDS:K.lookup 22=some ⟨.type "tuple",none,.seq (([(.str "plus" 204),(.str "minus" 205),(.str "times" 206),(.str "less" 207),(.str "same" 208)]:List Value).toArray) 0,#[]⟩)
  (y_FIRST_STEP:D0 K A4 "FIRST_STEP" = some (some (.ref 194))) (l_FIRST_STEP:K.lookup 194=some ⟨.type "tuple",none,.seq (([(.int (-1) 434),(.int (0) 435)]:List Value).toArray) 0,#[]⟩)
  (x0:FnG K c8b b5N 320 pm0 (.ref 319))
  (x1:FnG K c8e b4i 327 pm0 (.ref 326))
  (x2:FnG K c8i b9d 334 pm0 (.ref 333))
  (x3:FnG K c8o a2O 339 pm0 (.ref 338))
  (x4:FnG K c8s b1d 344 pm0 (.ref 343))
  (x5:FnG K c8u b0Z 351 pm0 (.ref 350))
  (x6:FnG K c8v b0V 358 pm0 (.ref 357))
  (x7:FnG K c8w a6t 365 pm0 (.ref 364))
  (x8:FnG K c8x b4m 372 pm0 (.ref 371))
  (x9:FnG K c8B b8Z 379 pm0 (.ref 378))
  (x10:FnG K c8E b0X 384 pm0 (.ref 383))
  (x11:FnG K c8F a7C 389 pm0 (.ref 388))
  (x12:FnG K c8G b4k 476 pm0 (.ref 475))
  (x13:FnG K c8H a7A 462 pm0 (.ref 461))
  (x14:FnG K c8J a7B 457 pm0 (.ref 456))
  (x15:FnG K c8L b1a 417 pm0 (.ref 416))
  (x16:FnG K "_law_of" c3X 438 pm0 (.ref 437))
  (x17:FnG K c8N a4a 445 pm0 (.ref 444))
  (x18:FnG K c8Q a6u 452 pm0 (.ref 451))
  (x19:FnG K "set_by" a8y 83 pm1 (.ref 82))
  (x20:FnG K c8S a5a 69 pm1 (.ref 68))
  (x21:FnG K "worth" b0T 76 pm1 (.ref 75))
  (x22:FnG K c8T a3Z 301 pm2 (.ref 300))
  (x23:FnG K c8V a2z 308 pm2 (.ref 307))
  (x24:FnM K 290 "leads_to" "Plan.leads_to" a1q 259 pm3 (.ref 258))
  (x25:FnG K "run" b8Y 315 pm2 (.ref 314))
  (x26:FnG K c8W b0U 396 pm0 (.ref 395))
  (x27:FnG K c8X a6v 424 pm0 (.ref 423))
  (x28:FnG K c8Y a8z 431 pm0 (.ref 430))
  (x29:FnG K c8Z b1b 469 pm0 (.ref 468))
  (x30:FnG K c9b b1e 483 pm0 (.ref 482))
  (x31:FnG K c9c a1Y 186 pm4 (.ref 185))
  (x32:FnG K "is_name" a4C 41 pm5 (.ref 40))
  (x33:FnG K c9e a5b 29 pm5 (.ref 28))
  (x34:FnG K c9f a5c 36 pm5 (.ref 35))
  (x35:FnG K c9g a3f 48 pm5 (.ref 47))
  (x36:FnG K "is_deed" a6w 55 pm5 (.ref 54))
  (x37:FnG K "is_row" a8A 62 pm5 (.ref 61))
  (x38:FnG K c9h a3i 193 pm4 (.ref 192))
  (x39:FnG K c9i a5d 179 pm4 (.ref 178))
  (x40:FnG K c9k a2n 199 pm3 (.ref 198))
  (x41:FnG K c9n a1a 204 pm3 (.ref 203))
  (x42:FnG K "reached" a6s 221 pm3 (.ref 220))
  (x43:FnG K "turned" a5O 214 pm3 (.ref 213))
  (x44:FnG K c9o a3d 209 pm3 (.ref 208))
  (x45:FnG K c9p a3h 228 pm3 (.ref 227))
  (x46:FnG K c9q a3e 233 pm3 (.ref 232))
  (x47:FnM K 290 c7Z "Plan.__init__" a0y 245 pm3 (.ref 244))
  (x48:FnG K "law" b5K 490 pm0 (.ref 489))
  (z_abs:D0 K A4 "abs" = some none)
  (z_all:D0 K A4 "all" = some none)
  (z_any:D0 K A4 "any" = some none)
  (z_bool:D0 K A4 "bool" = some none)
  (z_dict:D0 K A4 "dict" = some none)
  (z_enumerate:D0 K A4 "enumerate" = some none)
  (z_int:D0 K A4 "int" = some none)
  (z_isinstance:D0 K A4 "isinstance" = some none)
  (z_len:D0 K A4 "len" = some none)
  (z_list:D0 K A4 "list" = some none)
  (z_min:D0 K A4 "min" = some none)
  (z_range:D0 K A4 "range" = some none)
  (z_reversed:D0 K A4 "reversed" = some none)
  (z_sorted:D0 K A4 "sorted" = some none)
  (z_str:D0 K A4 "str" = some none)
  (z_tuple:D0 K A4 "tuple" = some none)
  (z_zip:D0 K A4 "zip" = some none)
  (y_BOUND:D0 K A4 "BOUND" = some (some (.int (1000000000000) 196)))
  (y_FIGURES:D0 K A4 "FIGURES" = some (some (.str "0123456789" 200)))
  (y_LETTERS:D0 K A4 "LETTERS" = some (some (.str "abcdefghijklmnopqrstuvwxyz" 198)))
  (y_LONGEST_NAME:D0 K A4 "LONGEST_NAME" = some (some (.int (8) 202)))
  (y_MOST:D0 K A4 "MOST" = some (some (.int (400) 403)))
  : ∃fd:Y9,(∀(s:l4) (v:Value),b8g s fd ⟨[v],[]⟩ [(c8a,v)])/\∀base:Heap,K.In base->base.Ns A4 mg->L9 l.prog w K mg base CX0 8 fa fd [c8a] (a8r K):=by
 have e:=hfa.symm.trans (T7 X G x48.a)
 cases e
 let c:Cn:=⟨290,22,194⟩
 have ck:a9m K c:=⟨⟨y_Plan.pg,y_Plan.hd,y_Plan.po,y_Plan.sa⟩,a0s,Y4,a1I,fun H=>.inr ⟨_,([(.str "plus" 204),(.str "minus" 205),(.str "times" 206),(.str "less" 207),(.str "same" 208)]:List Value).toArray,0,l_DEED_KINDS,rfl,rfl,by decide,.cons ⟨_,rfl⟩ ( .cons ⟨_,rfl⟩ ( .cons ⟨_,rfl⟩ ( .cons ⟨_,rfl⟩ ( .cons ⟨_,rfl⟩ ( .nil)))))⟩,fun H=>.inr ⟨_,([(.int (-1) 434),(.int (0) 435)]:List Value).toArray,0,l_FIRST_STEP,rfl,rfl,by decide,.cons ⟨_,rfl⟩ ( .cons ⟨_,rfl⟩ ( .nil))⟩⟩
 have T:Txt K mg c:=⟨D2 X G z_abs,D2 X G z_all,D2 X G z_any,D2 X G z_bool,D2 X G z_dict,D2 X G z_enumerate,D2 X G z_int,D2 X G z_isinstance,D2 X G z_len,D2 X G z_list,D2 X G z_min,D2 X G z_range,D2 X G z_reversed,D2 X G z_sorted,D2 X G z_str,D2 X G z_tuple,D2 X G z_zip,⟨_,T7 X G y_BOUND,⟨_,rfl⟩⟩,⟨_,T7 X G y_DEED_KINDS,rfl⟩,⟨_,T7 X G y_FIGURES,⟨_,rfl⟩⟩,⟨_,T7 X G y_FIRST_STEP,rfl⟩,⟨_,T7 X G y_LETTERS,⟨_,rfl⟩⟩,⟨_,T7 X G y_LONGEST_NAME,⟨_,rfl⟩⟩,⟨_,T7 X G y_MOST,⟨_,rfl⟩⟩⟩
 refine⟨fdM "law" "law" b5K pm0 (.ref 489),fun s v=>.of_eq rfl,fun base _ _=>?_⟩
 have b6f:=mkC X G x0 (c5q (P:=l.prog) (w:=w) (base:=base) T x0.i.F) fun _ _ _ _ _ _ _=>rfl
 have D3:=mkC X G x1 (c2n (P:=l.prog) (w:=w) (base:=base) T x1.i.F) fun _ _ _ _ _ _ _ _=>rfl
 have b6e:=mkC X G x2 (c5o T D3 x2.i.F) fun _ _ _ _ _ _ _ _=>rfl
 have a5Z:=mkC X G x3 (b7a (P:=l.prog) (w:=w) (base:=base) T x3.i.F) fun _ _ _ _ _ _ _=>rfl
 have a9i:=mkC X G x4 (c2r T D3 x4.i.F) fun _ _ _ _ _ _ _ _=>rfl
 have a7N:=mkC X G x5 (c0a T D3 a9i x5.i.F) fun _ _ _ _ _ _ _ _=>rfl
 have a0I:=mkC X G x6 (b9X T D3 x6.i.F) fun _ _ _ _ _ _ _=>rfl
 have U8:=mkC X G x7 (b4D T D3 a0I x7.i.F) fun _ _ _ _ _ _ _ _=>rfl
 have b1W:=mkC X G x8 (c2q T D3 U8 x8.i.F) fun _ _ _ _ _ _ _ _=>rfl
 have b6d:=mkC X G x9 (c5n T D3 U8 x9.i.F) fun _ _ _ _ _ _ _ _ _ _=>rfl
 have b1U:=mkC X G x10 (c2o T D3 b6e a5Z a7N U8 b1W b6d x10.i.F) fun _ _ _ _ _ _ _=>rfl
 have a7O:=mkC X G x11 (c0b (P:=l.prog) (w:=w) (base:=base) T x11.i.F) fun _ _ _ _ _ _ _=>rfl
 have b1V:=mkC X G x12 (c2p T D3 x12.i.F) fun _ _ _ _ _ _ _=>rfl
 have a7L:=mkC X G x13 (b9Y T D3 a0I x13.i.F) fun _ _ _ _ _ _ _=>rfl
 have a7M:=mkC X G x14 (b9Z T D3 a0I x14.i.F) fun _ _ _ _ _ _ _ _=>rfl
 have a3s:=mkC X G x15 (c0c (P:=l.prog) (w:=w) (base:=base) T x15.i.F) fun _ _ _ _ _ _ _ _=>rfl
 have a9J:=mkC X G x16 (c7h (P:=l.prog) (w:=w) (base:=base) T x16.i.F) fun _ _ _ _ _ _ _ _=>rfl
 have a2s:=mkC X G x17 (b1A T a9J x17.i.F) fun _ _ _ _ _ _ _ _=>rfl
 have a4F:=mkC X G x18 (b4E T a3s a9J a2s x18.i.F) fun _ _ _ _ _ _ _ _ _ _ _=>rfl
 have a4o:=mkC X G x19 (b6Y (P:=l.prog) (w:=w) (base:=base) T x19.i.F) fun _ _ _ _ _ _ _=>rfl
 have O5:=mkC X G x20 (b2S (P:=l.prog) (w:=w) (base:=base) T x20.i.F) fun _ _ _ _ _ _ _ _=>rfl
 have a7K:=mkC X G x21 (b9V T O5 x21.i.F) fun _ _ _ _ _ _ _ _=>rfl
 have a2r:=mkC X G x22 (b1z T O5 a7K x22.i.F) fun _ _ _ _ _ _ _ _ _=>rfl
 have a1c:=mkC X G x23 (a8O T O5 x23.i.F) fun _ _ _ _ _ _ _ _ _=>rfl
 have R3:=mkM x24 ck.a0O (a6F (P:=l.prog) (w:=w) (base:=base) T x24.i.F) fun _ _ _ _ _ _ _ _=>rfl
 have b3w:=mkC X G x25 (c5m T a4o O5 a2r a1c R3 x25.i.F) fun _ _ _ _ _ _ _ _ _ _=>rfl
 have a1G:=mkC X G x26 (b9W (P:=l.prog) (w:=w) (base:=base) T x26.i.F) fun _ _ _ _ _ _ _=>rfl
 have a4G:=mkC X G x27 (b4F T a1G x27.i.F) fun _ _ _ _ _ _ _ _=>rfl
 have a5Y:=mkC X G x28 (b6Z T a3s a4G x28.i.F) fun _ _ _ _ _ _ _ _=>rfl
 have a7P:=mkC X G x29 (c0d T a1G a5Y x29.i.F) fun _ _ _ _ _ _ _ _=>rfl
 have a7Q:=mkC X G x30 (c0e T a4F b3w a7P x30.i.F) fun _ _ _ _ _ _ _ _ _ _=>rfl
 have a0J:=mkC X G x31 (a7t (P:=l.prog) (w:=w) (base:=base) T x31.i.F) fun _ _ _ _ _ _ _ _ _=>rfl
 have Z9:=mkC X G x32 (b4G (P:=l.prog) (w:=w) (base:=base) T x32.i.F) fun _ _ _ _ _ _ _=>rfl
 have a0t:=mkC X G x33 (b2V (P:=l.prog) (w:=w) (base:=base) T x33.i.F) fun _ _ _ _ _ _ _=>rfl
 have a3t:=mkC X G x34 (b2W T a0t x34.i.F) fun _ _ _ _ _ _ _=>rfl
 have S9:=mkC X G x35 (a9z T Z9 a3t x35.i.F) fun _ _ _ _ _ _ _=>rfl
 have a4H:=mkC X G x36 (b4H T S9 x36.i.F) fun _ _ _ _ _ _ _=>rfl
 have a6a:=mkC X G x37 (b7b T Z9 S9 a4H x37.i.F) fun _ _ _ _ _ _ _=>rfl
 have X7:=mkC X G x38 (a9B (P:=l.prog) (w:=w) (base:=base) T x38.i.F) fun _ _ _ _ _ _ _=>rfl
 have a3u:=mkC X G x39 (b2X T a0t x39.i.F) fun _ _ _ _ _ _ _ _=>rfl
 have a2t:=mkC X G x40 (b1B T a3u x40.i.F) fun _ _ _ _ _ _ _ _ _=>rfl
 have a1d:=mkC X G x41 (a8P T X7 a2t x41.i.F) fun _ _ _ _ _ _ _ _=>rfl
 have a2Q:=mkC X G x42 (b4C (P:=l.prog) (w:=w) (base:=base) T x42.i.F) fun _ _ _ _ _ _ _ _=>rfl
 have a5X:=mkC X G x43 (b6X (P:=l.prog) (w:=w) (base:=base) T x43.i.F) fun _ _ _ _ _ _ _=>rfl
 have a3q:=mkC X G x44 (b2T (P:=l.prog) (w:=w) (base:=base) T x44.i.F) fun _ _ _ _ _ _ _=>rfl
 have a1H:=mkC X G x45 (a9A T a2Q a5X a3q x45.i.F) fun _ _ _ _ _ _ _=>rfl
 have a3r:=mkC X G x46 (b2U (P:=l.prog) (w:=w) (base:=base) T x46.i.F) fun _ _ _ _ _ _ _=>rfl
 have b1D:=mkK X G x47 y_Plan.y y_Plan.mm y_Plan.kc (b1C T R3 a0J a6a X7 a1d a1H a3r x47.i.F) fun _ _ _ _ _ _ _ _ _=>rfl
 exact c5p T b6f D3 b1U a7O b1V a7L a7M a7Q b1D ck x48.i.F
theorem walk{l:PySem.W.OpenLaw}{q:D6}{loose:List Str}{XP:(Str->Option Value)->Heap->Prop}{YP:World->Heap->Prop}{d:DefRec}{K:Params->Fg}(hn:l.most=some 63)(hdf:d.params.defaults=[])
  (hY:∀(w:World) (h:Heap),YP w h->(K w.params).In h)
  (F:∀(w:World) (mg:Str->Option Value) (fa:Addr) (h:Heap),(K w.params).In h->h.Ns A4 mg->mg d.name=some (.ref fa) ->
   ∃fd:Y9,(∀(s:l4) (u:Value),b8g s fd ⟨[u],[]⟩ [(c8a,u)])/\∀base:Heap,(K w.params).In base->base.Ns A4 mg->L9 l.prog w (K w.params) mg base CX0 8 fa fd [c8a] (a8r (K w.params))) :
  PySem.W.WalkO q loose XP YP l.row.toRowW d [] (fun f vs=>b2c f vs):=
 L2.c1g (n:=63) (k:=8) (x := c8a) (CX:=fun _=>CX0) (sp:=fun w=>a8r (K w.params)) hn (by decide) hdf ⟨rfl,by decide,by decide⟩ hY F (fun _ _ a ns hl hO hS=>RD.law_reading _ hl hO hS) fun _ _ _ _ _ z=>z
end PR
open PySem PySem.W PyProof.Rows
set_option maxRecDepth 100000 in
set_option maxHeartbeats 0 in
theorem PySem.Challenge.cw_oncedone_k31_rows_done_holds : PySem.Challenge.rw_oncedone_k31_rows_done.Holds := by
 refine HD.fin fun d hd hdf=>PR.walk (l:=HD.row) (K:=HD.K) rfl hdf (fun w h Y=>PySem.W.kIn_of Y) ?F
 intro w mg fa h KX G hmg
 rw[hd]at hmg
 apply PR.c5U KX G hmg <;> first | kernel_rfl | exact⟨⟨by kernel_rfl,by kernel_rfl,by kernel_rfl⟩,by kernel_rfl⟩ | exact⟨⟨by kernel_rfl,by kernel_rfl,by kernel_rfl⟩,by kernel_rfl,by kernel_rfl⟩ | exact⟨by kernel_rfl,by kernel_rfl,by kernel_rfl,by kernel_rfl,by kernel_rfl,by kernel_rfl,by kernel_rfl⟩
