import PyProof.Rows.All
import KE.KEqDict
import KE.KDictList
import KE.KIsAll
import KE.KDictOf
import KE.KItem
import KE.KRevIter
import Lean
import PySem.Challenge.RW_oncedone_k85_whole_forwarded_runs_alike
open Array renaming getElem?_toList->O1,getElem?_eq_getElem->a0m,length_toList->a0q
open Bool renaming false_ne_true->t6,eq_iff_iff->O0,and_eq_true->a3R,false_eq_true->a7O,true_and->b3I,false_or->b3J,and_eq_true_iff->b7h,or_false->c6z,and_true->c6A
open Int renaming toNat_natCast->z9,eq_ofNat_of_zero_le->J2,emod_lt_of_pos->O8,emod_nonneg->R0,zero_add->a0p,toNat->b5H
open List renaming length_map->b7,getElem?_map->c9,mem_cons->d5,getElem?_eq_getElem->d8,mem_singleton->g8,size_toArray->o0,getElem?_eq_some_iff->o3,not_mem_nil->o6,length_append->p5,mem_append->u8,mem_append_right->z7,mem_map->A2,mem_cons_of_mem->A9,length_cons->C0,length_singleton->C1,getElem?_append_left->C6,replicate->C7,mem_append_left->C9,map_append->D1,getElem_mem->D6,mem_cons_self->D8,range->E7,map_cons->E8,length_replicate->E9,nodup_cons->F0,lookup_cons->F1,mem_iff_getElem?->G5,getElem?_set_self->J9,map_map->L8,getElem?_set_ne->L9,getElem?_replicate->M0,all_eq_true->M3,getElem?_append_right->M9,getD->N4,any_cons->P3,map_congr_left->R3,length_take->R7,map_inj_right->T0,find?_cons->U7,take_add_one->U9,nodup_append->V0,mem_of_getElem?->V1,all_cons->W2,take_length->a0k,any_eq_true->a0l,length_set->a0J,take_of_length_le->a1f,mem_range->a1g,lookup->a1Q,range_succ->a2p,nodup_nil->a2O,getD_eq_getElem?_getD->a2P,length_erase_of_mem->a3N,getElem?_cons_zero->a3Q,length_pos_of_mem->a4N,mem_filter->a5a,length_nil->a5b,length_filter_le->a5o,concat_eq_append->a5p,replicate_succ'->a5R,map_id->a5S,getElem?_range->a6G,filterMap_cons->a6H,filter_append->a7N,length_range->a8i,length_drop->a9w,of_mem_zip->b0u,idxOf_lt_length_iff->b3H,map_nil->b5F,all_nil->b5G,getElem?_eq_none->b7a,mem_erase_of_ne->b7f,length->b7g,length_reverse->b9U,length_pos_iff->b9V,mem_filterMap->c0a,reverse_cons->c2g,pairwise_map->c2h,getElem?_inj->c2i,ext_getElem?->c2j,idxOf_cons->c5m,forIn_cons->c5n,append_nil->c5o
open Nat renaming le_refl->g9,ne_of_lt->u7,lt_of_lt_of_le->A8,le_trans->F6,lt_irrefl->G0,zero_le->J7,le_succ->W1,le_add_right->a4C,ne_of_gt->a4Z,le_of_lt->b6Z,lt_succ_self->c5l
open Option renaming map_eq_some_iff->z8,isSome_iff_exists->U8,getD_some->a3M,map_some->a4B,isSome_map->a7M,getD_none->b9Z
open PyProof.Rows renaming boot_isinstance->v6,boot_list->w6,callWith_type1->L3,boot_tuple->a0e,boot_dict->a0u,slot_tuple_getitem->a0y,boot_str->a3f,boot_sorted->a8h,boot_bool->a9v,boot_all->a9P,AllBare->b0w,envOfC->b2e,IntsAre->c2N,subscriptTail_builtinR->c5q
open PySem renaming wpAny_bind->d4,starEach->i8,Shared->l5,boot_len->o4,sizeLine->q9,wpAny_pure->u0,compareOp->u6,mainGlobals->u9,Program->C2,mem_of_lookup->C4,Around->G8,wpAny_truthy_bool->J0,behindInMarks->O3,wpAny_newObj_type->Q0,bootBuiltins->R4,foldedSetIterable->U6,sysModules->W7,backTo->W8,attributeBase->W9,binaryOp->X8,FuncData->X9,wpAny_typeNameOfWhole_keyiter->Z8,wpAny_Call_Name_kw->a0r,wpAny_passesOwn->a0z,wpAny_mono->a0K,assignEach->a0L,lookup_relabel_local->a0P,wpAny_holding->a1R,swapsWith->a1S,importedModules->a1T,DictEntry->a1U,strIterType->a2F,keywordEach->a2G,sizeLine_eq->a3e,wpAny_call_entry->a3g,sliceBounds->a3S,letOwnedTupleGo->a3T,holding->a3U,codeAny->a3V,tupleKind_room_in1->a5c,NameKind->a5d,wpAny_comprehension_free->a5T,wpAny_callSpecial?_slot->a6I,relabel->a6J,Keyword->a6K,wpAny_execs_nil->a8l,backToKw->a9t,Operator->a9u,assign->a9Q,call->b1U,tupleKind->b2d,wpAny_pyIter_list->b3K,wpAny_dictEntries->b3L,wpAny_assign_Name->b3M,codeAny_mono->b5d,compEnvC->b7c,wpAny_dictEpoch->b7i,standAt->b7j,getMethod->b7k,callerA->b7l,Result->b7m,BindsTo->b7n,call_meets->c2k,PlainAttrs->c2l,IsPart->c2m,wpAny_standAt->c2J,valueAt->c2K,setItem->c2L,getItem->c2M,codeAny_compStart_list->c5r,wpAny_isTrue_Compare1->c5t,wpAny_isOneOf_keyiter->c5u,seqIndex_neg->c5v,pyNext->c5w,lastMarks->c5x,builtinLookup_eq_fast->c5y,PassesOwn->c5z,wpAny_newFunctionEnv->c6G,wpAny_loadName_local->c6H,wpAny_loadName_cell->c6I,wpAny_field->c6J,seqIndex_of->c6K
open PySem.F renaming plainAttrs_list->D0,type_list_append->O6,slot_list_append->O7,slot_dict_get->a4A,type_list_extend->b1V,slot_list_extend->b1W,slot_list_index->b2b,args_dict_get_3->b2c,entry_dict_get->b3C,type_list_pop->b3E,slot_tuple_eq->b3F,slot_list_pop->b3G
open PySem.Heap renaming get?_push_of_some->g7,lt_size->l3,get?_push_size->y7,get?_update_other->a4O,get?_update_self->a5q,size_push->c5s
open PySem.Heap.SameBut renaming update->b1X
open PySem.W renaming nsIn->A5,mg_none_of->A7,findIn->D7,kia_one->L1,emptyDict->M8,mg_of->R1,keepIn->R6,instObj->U1,fnOf->Z6,plainGet->a1p,hasDictIn->a2N,makesIn->a3P,lookIn->a4X,codeIn->a4Y,plainGet_of->a5Q,callWith_K->a6F,specialIn->a7u,plainOver->a7v,methodObj->a7w,isFn->a7x,takerIn->a9r,cellsFrom_some->b3B,kitx_list->b7d,kitx_dict->b7e,kdl_call->b9S,handedIn->b9T,takesIn->b9Y,kitOne->c2f,mroIn->c2H
set_option Elab.async false
set_option linter.all false
set_option maxRecDepth 100000
set_option maxHeartbeats 0
abbrev Fg:=PySem.W.Frag
abbrev Nt:=List (List Nat)
theorem gI{α:Type}{l:List α}{i:Nat}{a:α}(h:l[i]?=some a):i<l.length:=(o3.mp h).1
theorem mI{α:Type}{l:List α}{i:Nat}{a:α}(h:l[i]?=some a):a∈l:=V1 h
theorem c8r{p:Prop}[Decidable p](h:¬p):decide p=false:=decide_eq_false h
theorem c8s{p:Prop}[Decidable p](h:p):decide p=true:=decide_eq_true h
namespace L2
open PySem
def T6(s:Stmt)(j:Nat):Stmt:=match s with
 | .ClassDef _ _ _ body _ _ _ _ _ _ _=>body.getD j (.Pass ⟨0,0,0,0⟩)
 | _=>.Pass ⟨0,0,0,0⟩
def a2A(s:Stmt):Arguments:=match s with
 | .FunctionDef _ a _ _ _ _ _ _ _ _=>a
 | _=>{ posonlyargs:=[],args:=[],vararg:=none,kwonlyargs:=[],kw_defaults:=[],kwarg:=none,defaults:=[] }
def a0H(s:Stmt):List Stmt:=match s with
 | .FunctionDef _ _ b _ _ _ _ _ _ _=>b
 | _=>[]
def l6(s:Stmt):Scope:=match s with
 | .FunctionDef _ _ _ _ _ _ sc _ _ _=>sc
 | _=>{ kind:=.function,names:=[],isGenerator:=false,isCoroutine:=false }
end L2
namespace HD
open PySem PySem.W L2
abbrev P:C2:=PySem.Challenge.pw_oncedone_k85_whole_forwarded_runs_alike
def top(i:Nat):Stmt:=P.main.body.getD i (.Pass ⟨0,0,0,0⟩)
def kE(Q:Params)(n:Str)(t:Nat)(v:Value):a1U:=⟨PyData.keyHash Q n,.str n t,v⟩
def kD(es:List a1U)(n:Nat):Obj:=⟨.type "dict",none,.dict es.toArray n,#[]⟩
def kF(x qual:Str)(st:Stmt)(pm cd:Value):Obj:=⟨.type "function",none,.func (fnOf x qual (a2A st) (a0H st) (l6 st) .none .none .none pm none cd .none),#[]⟩
def kC(n q:Str)(a b c:Nat)(i3 i4 i5 i6 i7:Int)(r8:Nat)(i10:Int)(r11 r13 r14 r15:Nat)(i16 i17:Int)(d:Nat):Obj:=⟨.type "code",none,.fields ([.str n a,.str q b,.str "/claim/cut.py" c,.int i3 0,.int i4 0,.int i5 0,.int i6 0,.int i7 0,.ref r8,.bool true,.int i10 0,.ref r11,.none,.ref r13,.ref r14,.ref r15,.int i16 0,.int i17 0,.str "/claim/cut.py" d]:List Value).toArray,([]:List (Option Value)).toArray⟩
def kN(n q:Str)(a b c:Nat)(i3 i4 i5 i6 i7:Int)(r8:Nat)(i10:Int)(r11 r15:Nat)(i16 i17:Int)(d:Nat):Obj:=⟨.type "code",none,.fields ([.str n a,.str q b,.str "/claim/cut.py" c,.int i3 0,.int i4 0,.int i5 0,.int i6 0,.int i7 0,.ref r8,.bool true,.int i10 0,.ref r11,.none,.none,.none,.ref r15,.int i16 0,.int i17 0,.str "/claim/cut.py" d]:List Value).toArray,([]:List (Option Value)).toArray⟩
abbrev m0:Value:=(.str "__main__" 164)
abbrev m1:Value:=(.str "oncedone.words" 194)
abbrev m2:Value:=(.str "oncedone.deeds" 253)
abbrev m3:Value:=(.str "oncedone.errors" 281)
abbrev m4:Value:=(.str "oncedone.checks" 401)
abbrev m5:Value:=(.str "oncedone.plans" 431)
abbrev m6:Value:=(.str "oncedone.ready" 561)
abbrev m7:Value:=(.str "oncedone.copies" 588)
abbrev m8:Value:=(.str "oncedone.runs" 626)
abbrev m9:Value:=(.str "law_oncedone_k85_whole_forwarded_runs_alike" 664)
def K1(Q:Params):Frag:=[
 (3,kD [kE Q "__name__" 165 (.str "law_oncedone_k85_whole_forwarded_runs_alike" 664),kE Q "__doc__" 166 .none,kE Q "__package__" 167 .none,kE Q "__loader__" 168 (.builtin "__main__.__loader__#opaque"),kE Q "__spec__" 169 .none,kE Q "__annotations__" 170 (.ref 6),kE Q "__builtins__" 171 (.ref 4),kE Q "__file__" 173 (.str "/claim/cut.py" 172),kE Q "__cached__" 174 .none,kE Q "_wall" 193 (.ref 21),kE Q "BOUND" 197 (.int (1000000000000) 196),kE Q "LETTERS" 199 (.str "abcdefghijklmnopqrstuvwxyz" 198),kE Q "FIGURES" 201 (.str "0123456789" 200),kE Q "LONGEST_NAME" 203 (.int (8) 202),kE Q "DEED_KINDS" 209 (.ref 22),kE Q "is_whole" 216 (.ref 29),kE Q "is_value" 223 (.ref 36),kE Q "is_name" 229 (.ref 41),kE Q "is_operand" 236 (.ref 48),kE Q "is_deed" 243 (.ref 55),kE Q "is_row" 252 (.ref 62),kE Q "worth_of" 262 (.ref 69),kE Q "worth" 273 (.ref 76),kE Q "set_by" 280 (.ref 83),kE Q "OnceError" 300 (.ref 93),kE Q "Wrong" 325 (.ref 113),kE Q "NoThing" 350 (.ref 132),kE Q "TooMany" 375 (.ref 151),kE Q "NoWay" 400 (.ref 170),kE Q "MOST" 404 (.int (400) 403),kE Q "is_below" 412 (.ref 179),kE Q "check_length" 421 (.ref 186),kE Q "check_each" 430 (.ref 193),kE Q "FIRST_STEP" 436 (.ref 194),kE Q "are_nexts" 442 (.ref 199),kE Q "check_nexts" 448 (.ref 204),kE Q "stops_of" 454 (.ref 209),kE Q "turned" 460 (.ref 214),kE Q "reached" 471 (.ref 221),kE Q "check_ways" 481 (.ref 228),kE Q "steps_of" 487 (.ref 233),kE Q "Plan" 560 (.ref 290),kE Q "pass_on" 574 (.ref 301),kE Q "unready_steps" 587 (.ref 308),kE Q "copies_of" 598 (.ref 315),kE Q "places_without" 604 (.ref 320),kE Q "operands_known" 610 (.ref 325),kE Q "forwarded_row" 619 (.ref 332),kE Q "forwarded" 625 (.ref 337),kE Q "worth_set" 636 (.ref 344),kE Q "step_behind" 645 (.ref 351),kE Q "run" 663 (.ref 358),kE Q "_law_bag" 671 (.ref 363),kE Q "_law_take" 684 (.ref 370),kE Q "_law_net" 697 (.ref 377),kE Q "_law_mended" 703 (.ref 382),kE Q "_law_pool" 709 (.ref 387),kE Q "_law_operand" 718 (.ref 394),kE Q "_law_deed" 727 (.ref 401),kE Q "_law_row" 739 (.ref 408),kE Q "_law_plan" 745 (.ref 413),kE Q "_law_made" 751 (.ref 418),kE Q "_law_names_of" 762 (.ref 425),kE Q "_law_value" 770 (.ref 432),kE Q "_law_start" 780 (.ref 439),kE Q "_law_alike" 788 (.ref 446),kE Q "law" 794 (.ref 451)] 67),
 (20,kC "_wall" "_wall" 187 188 189 1 1 0 0 3 15 181 16 17 18 19 191 1 192),
 (21,kF "_wall" "_wall" (top 0) m0 (.ref 20)),
 (22,⟨(.type "tuple"),none,.seq ([(.str "plus" 204),(.str "minus" 205),(.str "times" 206),(.str "less" 207),(.str "same" 208)]:List Value).toArray 0,([]:List (Option Value)).toArray⟩),
 (28,kC "is_whole" "is_whole" 210 211 212 10 1 0 0 3 23 181 24 25 26 27 214 10 215),
 (29,kF "is_whole" "is_whole" (top 7) m1 (.ref 28)),
 (35,kC "is_value" "is_value" 217 218 219 12 1 0 0 3 30 181 31 32 33 34 221 12 222),
 (36,kF "is_value" "is_value" (top 8) m1 (.ref 35)),
 (40,kN "is_name" "is_name" 224 225 226 14 1 0 0 3 37 181 38 39 227 14 228),
 (41,kF "is_name" "is_name" (top 9) m1 (.ref 40)),
 (47,kC "is_operand" "is_operand" 230 231 232 18 1 0 0 3 42 181 43 44 45 46 234 18 235),
 (48,kF "is_operand" "is_operand" (top 10) m1 (.ref 47)),
 (54,kC "is_deed" "is_deed" 237 238 239 20 1 0 0 3 49 181 50 51 52 53 241 20 242),
 (55,kF "is_deed" "is_deed" (top 11) m1 (.ref 54)),
 (61,kC "is_row" "is_row" 244 245 246 24 1 0 0 3 56 181 57 58 59 60 250 24 251),
 (62,kF "is_row" "is_row" (top 12) m1 (.ref 61)),
 (68,kC "worth_of" "worth_of" 255 256 257 39 2 0 0 3 63 181 64 65 66 67 260 39 261),
 (69,kF "worth_of" "worth_of" (top 14) m2 (.ref 68)),
 (75,kC "worth" "worth" 263 264 265 43 2 0 0 3 70 181 71 72 73 74 271 43 272),
 (76,kF "worth" "worth" (top 15) m2 (.ref 75)),
 (82,kC "set_by" "set_by" 274 275 276 56 1 0 0 3 77 181 78 79 80 81 278 56 279),
 (83,kF "set_by" "set_by" (top 16) m2 (.ref 82)),
 (92,kD [kE Q "__module__" 290 (.str "oncedone.errors" 281),kE Q "__firstlineno__" 294 (.int (59) 293),kE Q "__static_attributes__" 295 (.ref 91),kE Q "__weakref__" 297 (.ref 94),kE Q "__doc__" 298 .none] 3),
 (93,⟨(.type "type"),none,.cls { name := "OnceError",bases:=[(.type "ValueError")],mro:=[(.ref 93),(.type "ValueError"),(.type "Exception"),(.type "BaseException"),(.type "object")],ns:=92,qualname := "OnceError",hasDict:=true,subclasses:=[(.ref 113),(.ref 132),(.ref 151),(.ref 170)] },([some (.ref 84),none,some (.str "OnceError" 283),some (.str "OnceError" 291),some (.builtin "ValueError.__new__"),some (.bool true)]:List (Option Value)).toArray⟩),
 (109,kC "__init__" "Wrong.__init__" 313 314 315 63 2 0 0 3 104 181 105 106 107 108 318 63 319),
 (110,kF "__init__" "Wrong.__init__" (T6 (top 19) 0) m3 (.ref 109)),
 (112,kD [kE Q "__module__" 308 (.str "oncedone.errors" 281),kE Q "__firstlineno__" 312 (.int (61) 311),kE Q "__init__" 320 (.ref 110),kE Q "__static_attributes__" 322 (.ref 111),kE Q "__doc__" 323 .none] 2),
 (113,⟨(.type "type"),none,.cls { name := "Wrong",bases:=[(.ref 93)],mro:=[(.ref 113),(.ref 93),(.type "ValueError"),(.type "Exception"),(.type "BaseException"),(.type "object")],ns:=112,qualname := "Wrong",hasDict:=true,subclasses:=[] },([some (.ref 97),none,some (.str "Wrong" 301),some (.str "Wrong" 309),some (.builtin "ValueError.__new__"),some (.bool true)]:List (Option Value)).toArray⟩),
 (128,kC "__init__" "NoThing.__init__" 338 339 340 67 2 0 0 3 123 181 124 125 126 127 343 67 344),
 (129,kF "__init__" "NoThing.__init__" (T6 (top 20) 0) m3 (.ref 128)),
 (131,kD [kE Q "__module__" 333 (.str "oncedone.errors" 281),kE Q "__firstlineno__" 337 (.int (65) 336),kE Q "__init__" 345 (.ref 129),kE Q "__static_attributes__" 347 (.ref 130),kE Q "__doc__" 348 .none] 2),
 (132,⟨(.type "type"),none,.cls { name := "NoThing",bases:=[(.ref 93)],mro:=[(.ref 132),(.ref 93),(.type "ValueError"),(.type "Exception"),(.type "BaseException"),(.type "object")],ns:=131,qualname := "NoThing",hasDict:=true,subclasses:=[] },([some (.ref 116),none,some (.str "NoThing" 326),some (.str "NoThing" 334),some (.builtin "ValueError.__new__"),some (.bool true)]:List (Option Value)).toArray⟩)]
def c4Z:List Addr:=[3,20,21,22,28,29,35,36,40,41,47,48,54,55,61,62,68,69,75,76,82,83,92,93,109,110,112,113,128,129,131,132]
def K2(Q:Params):Frag:=[
 (147,kC "__init__" "TooMany.__init__" 363 364 365 71 2 0 0 3 142 181 143 144 145 146 368 71 369),
 (148,kF "__init__" "TooMany.__init__" (T6 (top 21) 0) m3 (.ref 147)),
 (150,kD [kE Q "__module__" 358 (.str "oncedone.errors" 281),kE Q "__firstlineno__" 362 (.int (69) 361),kE Q "__init__" 370 (.ref 148),kE Q "__static_attributes__" 372 (.ref 149),kE Q "__doc__" 373 .none] 2),
 (151,⟨(.type "type"),none,.cls { name := "TooMany",bases:=[(.ref 93)],mro:=[(.ref 151),(.ref 93),(.type "ValueError"),(.type "Exception"),(.type "BaseException"),(.type "object")],ns:=150,qualname := "TooMany",hasDict:=true,subclasses:=[] },([some (.ref 135),none,some (.str "TooMany" 351),some (.str "TooMany" 359),some (.builtin "ValueError.__new__"),some (.bool true)]:List (Option Value)).toArray⟩),
 (166,kC "__init__" "NoWay.__init__" 388 389 390 75 2 0 0 3 161 181 162 163 164 165 393 75 394),
 (167,kF "__init__" "NoWay.__init__" (T6 (top 22) 0) m3 (.ref 166)),
 (169,kD [kE Q "__module__" 383 (.str "oncedone.errors" 281),kE Q "__firstlineno__" 387 (.int (73) 386),kE Q "__init__" 395 (.ref 167),kE Q "__static_attributes__" 397 (.ref 168),kE Q "__doc__" 398 .none] 2),
 (170,⟨(.type "type"),none,.cls { name := "NoWay",bases:=[(.ref 93)],mro:=[(.ref 170),(.ref 93),(.type "ValueError"),(.type "Exception"),(.type "BaseException"),(.type "object")],ns:=169,qualname := "NoWay",hasDict:=true,subclasses:=[] },([some (.ref 154),none,some (.str "NoWay" 376),some (.str "NoWay" 384),some (.builtin "ValueError.__new__"),some (.bool true)]:List (Option Value)).toArray⟩),
 (178,kC "is_below" "is_below" 405 406 407 79 2 0 0 3 173 181 174 175 176 177 410 79 411),
 (179,kF "is_below" "is_below" (top 25) m4 (.ref 178)),
 (185,kC "check_length" "check_length" 413 414 415 81 3 0 0 3 180 181 181 182 183 184 419 81 420),
 (186,kF "check_length" "check_length" (top 26) m4 (.ref 185)),
 (192,kC "check_each" "check_each" 422 423 424 86 1 0 0 3 187 181 188 189 190 191 428 86 429),
 (193,kF "check_each" "check_each" (top 27) m4 (.ref 192)),
 (194,⟨(.type "tuple"),none,.seq ([(.int (-1) 434),(.int (0) 435)]:List Value).toArray 0,([]:List (Option Value)).toArray⟩),
 (198,kN "are_nexts" "are_nexts" 437 438 439 92 3 0 0 3 195 181 196 197 440 92 441),
 (199,kF "are_nexts" "are_nexts" (top 30) m5 (.ref 198)),
 (203,kN "check_nexts" "check_nexts" 443 444 445 97 2 0 0 3 200 181 201 202 446 97 447),
 (204,kF "check_nexts" "check_nexts" (top 31) m5 (.ref 203)),
 (208,kN "stops_of" "stops_of" 449 450 451 101 1 0 0 3 205 181 206 207 452 101 453),
 (209,kF "stops_of" "stops_of" (top 32) m5 (.ref 208)),
 (213,kN "turned" "turned" 455 456 457 103 1 0 0 3 210 181 211 212 458 103 459),
 (214,kF "turned" "turned" (top 33) m5 (.ref 213)),
 (220,kC "reached" "reached" 461 462 463 109 2 0 0 3 215 181 216 217 218 219 469 109 470),
 (221,kF "reached" "reached" (top 34) m5 (.ref 220)),
 (227,kC "check_ways" "check_ways" 472 473 474 118 1 0 0 3 222 181 223 224 225 226 479 118 480),
 (228,kF "check_ways" "check_ways" (top 35) m5 (.ref 227)),
 (232,kN "steps_of" "steps_of" 482 483 484 124 1 0 0 3 229 181 230 231 485 124 486),
 (233,kF "steps_of" "steps_of" (top 36) m5 (.ref 232)),
 (244,kN "__init__" "Plan.__init__" 500 501 502 131 3 0 0 3 241 181 242 243 503 131 504),
 (245,kF "__init__" "Plan.__init__" (T6 (top 37) 0) m5 (.ref 244)),
 (251,kC "steps" "Plan.steps" 506 507 508 142 1 0 0 3 246 181 247 248 249 250 510 142 511)]
def c1Z:List Addr:=[147,148,150,151,166,167,169,170,178,179,185,186,192,193,194,198,199,203,204,208,209,213,214,220,221,227,228,232,233,244,245,251]
def K3(Q:Params):Frag:=[
 (252,kF "steps" "Plan.steps" (T6 (top 37) 1) m5 (.ref 251)),
 (258,kC "leads_to" "Plan.leads_to" 513 514 515 145 2 0 0 3 253 181 254 255 256 257 518 145 519),
 (259,kF "leads_to" "Plan.leads_to" (T6 (top 37) 2) m5 (.ref 258)),
 (265,kC "steps_into" "Plan.steps_into" 521 522 523 150 2 0 0 3 260 181 261 262 263 264 526 150 527),
 (266,kF "steps_into" "Plan.steps_into" (T6 (top 37) 3) m5 (.ref 265)),
 (272,kC "stops" "Plan.stops" 529 530 531 153 1 0 0 3 267 181 268 269 270 271 533 153 534),
 (273,kF "stops" "Plan.stops" (T6 (top 37) 4) m5 (.ref 272)),
 (279,kC "deeds" "Plan.deeds" 536 537 538 156 1 0 0 3 274 181 275 276 277 278 540 156 541),
 (280,kF "deeds" "Plan.deeds" (T6 (top 37) 5) m5 (.ref 279)),
 (286,kC "names" "Plan.names" 543 544 545 159 1 0 0 3 281 181 282 283 284 285 547 159 548),
 (287,kF "names" "Plan.names" (T6 (top 37) 6) m5 (.ref 286)),
 (289,kD [kE Q "__module__" 495 (.str "oncedone.plans" 431),kE Q "__firstlineno__" 499 (.int (129) 498),kE Q "__init__" 505 (.ref 245),kE Q "steps" 512 (.ref 252),kE Q "leads_to" 520 (.ref 259),kE Q "steps_into" 528 (.ref 266),kE Q "stops" 535 (.ref 273),kE Q "deeds" 542 (.ref 280),kE Q "names" 549 (.ref 287),kE Q "__static_attributes__" 553 (.ref 288),kE Q "__dict__" 555 (.ref 291),kE Q "__weakref__" 557 (.ref 292),kE Q "__doc__" 558 .none] 4),
 (290,⟨(.type "type"),none,.cls { name := "Plan",bases:=[(.type "object")],mro:=[(.ref 290),(.type "object")],ns:=289,qualname := "Plan",hasDict:=true,subclasses:=[] },([none,none,some (.str "Plan" 488),some (.str "Plan" 496),some (.builtin "object.__new__"),some (.bool true)]:List (Option Value)).toArray⟩),
 (300,kC "pass_on" "pass_on" 563 564 565 162 4 0 0 3 295 181 296 297 298 299 572 162 573),
 (301,kF "pass_on" "pass_on" (top 39) m6 (.ref 300)),
 (307,kC "unready_steps" "unready_steps" 575 576 577 167 3 0 0 3 302 181 303 304 305 306 585 167 586),
 (308,kF "unready_steps" "unready_steps" (top 40) m6 (.ref 307)),
 (314,kC "copies_of" "copies_of" 590 591 592 181 1 0 0 3 309 181 310 311 312 313 596 181 597),
 (315,kF "copies_of" "copies_of" (top 42) m7 (.ref 314)),
 (319,kN "places_without" "places_without" 599 600 601 187 2 0 0 3 316 181 317 318 602 187 603),
 (320,kF "places_without" "places_without" (top 43) m7 (.ref 319)),
 (324,kN "operands_known" "operands_known" 605 606 607 191 1 0 0 3 321 181 322 323 608 191 609),
 (325,kF "operands_known" "operands_known" (top 44) m7 (.ref 324)),
 (331,kC "forwarded_row" "forwarded_row" 611 612 613 199 2 0 0 3 326 181 327 328 329 330 617 199 618),
 (332,kF "forwarded_row" "forwarded_row" (top 45) m7 (.ref 331)),
 (336,kN "forwarded" "forwarded" 620 621 622 208 1 0 0 3 333 181 334 335 623 208 624),
 (337,kF "forwarded" "forwarded" (top 46) m7 (.ref 336)),
 (343,kC "worth_set" "worth_set" 628 629 630 212 3 0 0 3 338 181 339 340 341 342 634 212 635),
 (344,kF "worth_set" "worth_set" (top 48) m8 (.ref 343)),
 (350,kC "step_behind" "step_behind" 637 638 639 218 3 0 0 3 345 181 346 347 348 349 643 218 644),
 (351,kF "step_behind" "step_behind" (top 49) m8 (.ref 350)),
 (357,kC "run" "run" 646 647 648 222 4 0 0 3 352 181 353 354 355 356 661 222 662)]
def c1Y:List Addr:=[252,258,259,265,266,272,273,279,280,286,287,289,290,300,301,307,308,314,315,319,320,324,325,331,332,336,337,343,344,350,351,357]
def K4(Q:Params):Frag:=[
 (358,kF "run" "run" (top 50) m8 (.ref 357)),
 (362,kN "_law_bag" "_law_bag" 666 667 668 241 1 0 0 3 359 181 360 361 669 241 670),
 (363,kF "_law_bag" "_law_bag" (top 52) m9 (.ref 362)),
 (369,kC "_law_take" "_law_take" 672 673 674 243 2 0 0 3 364 181 365 366 367 368 682 243 683),
 (370,kF "_law_take" "_law_take" (top 53) m9 (.ref 369)),
 (376,kC "_law_net" "_law_net" 685 686 687 262 2 0 0 3 371 181 372 373 374 375 695 262 696),
 (377,kF "_law_net" "_law_net" (top 54) m9 (.ref 376)),
 (381,kN "_law_mended" "_law_mended" 698 699 700 280 1 0 0 3 378 181 379 380 701 280 702),
 (382,kF "_law_mended" "_law_mended" (top 55) m9 (.ref 381)),
 (386,kN "_law_pool" "_law_pool" 704 705 706 295 1 0 0 3 383 181 384 385 707 295 708),
 (387,kF "_law_pool" "_law_pool" (top 56) m9 (.ref 386)),
 (393,kC "_law_operand" "_law_operand" 710 711 712 299 2 0 0 3 388 181 389 390 391 392 716 299 717),
 (394,kF "_law_operand" "_law_operand" (top 57) m9 (.ref 393)),
 (400,kC "_law_deed" "_law_deed" 719 720 721 304 2 0 0 3 395 181 396 397 398 399 725 304 726),
 (401,kF "_law_deed" "_law_deed" (top 58) m9 (.ref 400)),
 (407,kC "_law_row" "_law_row" 728 729 730 307 4 0 0 3 402 181 403 404 405 406 737 307 738),
 (408,kF "_law_row" "_law_row" (top 59) m9 (.ref 407)),
 (412,kN "_law_plan" "_law_plan" 740 741 742 319 1 0 0 3 409 181 410 411 743 319 744),
 (413,kF "_law_plan" "_law_plan" (top 60) m9 (.ref 412)),
 (417,kN "_law_made" "_law_made" 746 747 748 330 2 0 0 3 414 181 415 416 749 330 750),
 (418,kF "_law_made" "_law_made" (top 61) m9 (.ref 417)),
 (424,kC "_law_names_of" "_law_names_of" 752 753 754 332 1 0 0 3 419 181 420 421 422 423 760 332 761),
 (425,kF "_law_names_of" "_law_names_of" (top 62) m9 (.ref 424)),
 (431,kC "_law_value" "_law_value" 763 764 765 342 1 0 0 3 426 181 427 428 429 430 768 342 769),
 (432,kF "_law_value" "_law_value" (top 63) m9 (.ref 431)),
 (438,kC "_law_start" "_law_start" 771 772 773 345 2 0 0 3 433 181 434 435 436 437 778 345 779),
 (439,kF "_law_start" "_law_start" (top 64) m9 (.ref 438)),
 (445,kC "_law_alike" "_law_alike" 781 782 783 355 2 0 0 3 440 181 441 442 443 444 786 355 787),
 (446,kF "_law_alike" "_law_alike" (top 65) m9 (.ref 445)),
 (450,kN "law" "law" 789 790 791 359 1 0 0 3 447 181 448 449 792 359 793),
 (451,kF "law" "law" (top 66) m9 (.ref 450))]
def c1X:List Addr:=[358,362,363,369,370,376,377,381,382,386,387,393,394,400,401,407,408,412,413,417,418,424,425,431,432,438,439,445,446,450,451]
def K(Q:Params):Frag:=K1 Q++(K2 Q++(K3 Q++K4 Q))
def adr:List Addr:=c4Z++(c1Z++(c1Y++c1X))
def q:C2:=view P [66]
def loose:List Str:=(["_wall","BOUND","LETTERS","FIGURES","LONGEST_NAME","DEED_KINDS","is_whole","is_value","is_name","is_operand","is_deed","is_row","worth_of","worth","set_by","OnceError","Wrong","NoThing","TooMany","NoWay","MOST","is_below","check_length","check_each","FIRST_STEP","are_nexts","check_nexts","stops_of","turned","reached","check_ways","steps_of","Plan","pass_on","unready_steps","copies_of","places_without","operands_known","forwarded_row","forwarded","worth_set","step_behind","run","_law_bag","_law_take","_law_net","_law_mended","_law_pool","_law_operand","_law_deed","_law_row","_law_plan","_law_made","_law_names_of","_law_value","_law_start","_law_alike"]:List String).map Str.ofString
theorem b9c{p q:C2}{loose:List Str}{Xt:l5->Bool}{α:Type}{Yf:l5->α}{Ya:World->α}{N m₀:Nat}{ann:Option Value}(e:opening p=plainProg p.main.scope.names)(hN:Nat.ble 600 N=true)(f:∀s,fenceModules? p s=some s)
  (size:∀w:World,((boot_heap w.params).isNs u9,(boot_heap w.params).objs.size,(boot_heap w.params).nsMap u9 "__annotations__")=(true,m₀,ann))
  {r:World->OsState->Option l5} (hr:∀w os x,r w os=some x->topRun treeTable p w m₀ ann N ⟨boot_heap w.params,Array.mk [],boot_drawn,boot_toks,os⟩ (topStub p)=some x)
  (ra:∀w os,(r w os).map (fun s₁=>staticsOk (a1T p.main.body) (boot_heap w.params) s₁.heap&&namesBound p s₁.heap&&gensDone s₁&&laidKept (boot_heap w.params) s₁.heap)=some true)
  (rb:∀w os,(r w os).map (openSeen q loose (a1T p.main.body) Xt true)=some (openGood q loose))
  (rc:∀w os,(r w os).map Yf=some (Ya w)) :
  LeftO p q loose Xt Yf Ya N:=fun w=>by
 obtain⟨⟨h,gs,d,k,os⟩,e1,e2⟩:=z8.mp (boot_open e hN f w)
 obtain⟨rfl,rfl,rfl,rfl⟩:h=boot_heap w.params/\gs=Array.mk []/\d=boot_drawn/\k=boot_toks:=by simpa using e2
 obtain⟨z1,z2,z3⟩:_/\_/\_:=by simpa only[Prod.mk.injEq]using size w
 obtain⟨s₁,r1,r3⟩:=z8.mp (ra w os)
 have rb:=rb w os
 have rc:=rc w os
 rw[r1]at rb rc
 have r1:=hr w os _ r1
 have r4:(openSeen q loose (a1T p.main.body) Xt true s₁,Yf s₁)=(openGood q loose,Ya w):=Prod.ext (Option.some.inj rb) (Option.some.inj rc)
 have t:topFrom treeTable p w N ⟨boot_heap w.params,Array.mk [],boot_drawn,boot_toks,os⟩=some s₁:=by
  unfold topFrom
  dsimp only
  rw[z1,z2,z3,r1]
  show(match staticsOk (a1T p.main.body) (boot_heap w.params) s₁.heap&&namesBound p s₁.heap&&gensDone s₁&&laidKept (boot_heap w.params) s₁.heap with | true=>some s₁ | false=>none)=_
  rw[r3]
 unfold openEnds
 rw[e1]
 show(topFrom treeTable p w N _).map _=_
 rw[t]
 exact congrArg some r4
abbrev a9I:Hook:=kHook K adr (fun _=>by kernel_rfl)
abbrev row:OpenLaw:=PySem.Challenge.rw_oncedone_k85_whole_forwarded_runs_alike
def kZ(x q:Str)(st:Stmt):Obj:=⟨.none,none,.func { fnOf x q (a2A st) (a0H st) (l6 st) .none .none .none .none none .none .none with globals:=0 },#[]⟩
def kS(xs:List Value)(n:Nat):Obj:=⟨.type "tuple",none,.seq xs.toArray n,([]:List (Option Value)).toArray⟩
noncomputable section
def kk(a:Addr)(Q:Params):Obj:=((K Q).lookup a).getD (boot_o_4 Q)
def h1(Q:Params):List Obj:=[
boot_o_0 Q,
boot_o_1 Q,
boot_o_2 Q,
kD [kE Q "__name__" 165 (.str "oncedone.checks" 401),kE Q "__doc__" 166 .none,kE Q "__package__" 167 .none,kE Q "__loader__" 168 (.builtin "__main__.__loader__#opaque"),kE Q "__spec__" 169 .none,kE Q "__annotations__" 170 (.ref 6),kE Q "__builtins__" 171 (.ref 4),kE Q "__file__" 173 (.str "/claim/cut.py" 172),kE Q "__cached__" 174 .none,kE Q "_wall" 193 (.ref 21),kE Q "BOUND" 197 (.int (1000000000000) 196),kE Q "LETTERS" 199 (.str "abcdefghijklmnopqrstuvwxyz" 198),kE Q "FIGURES" 201 (.str "0123456789" 200),kE Q "LONGEST_NAME" 203 (.int (8) 202),kE Q "DEED_KINDS" 209 (.ref 22),kE Q "is_whole" 216 (.ref 29),kE Q "is_value" 223 (.ref 36),kE Q "is_name" 229 (.ref 41),kE Q "is_operand" 236 (.ref 48),kE Q "is_deed" 243 (.ref 55),kE Q "is_row" 252 (.ref 62),kE Q "worth_of" 262 (.ref 69),kE Q "worth" 273 (.ref 76),kE Q "set_by" 280 (.ref 83),kE Q "OnceError" 300 (.ref 93),kE Q "Wrong" 325 (.ref 113),kE Q "NoThing" 350 (.ref 132),kE Q "TooMany" 375 (.ref 151),kE Q "NoWay" 400 (.ref 170)] 29,
boot_o_4 Q,
boot_o_5 Q,
boot_o_6 Q,
boot_o_7 Q,
boot_o_8 Q,
boot_o_9 Q,
boot_o_10 Q,
kS [] 0,
⟨.none,none,.fields ([(.int (1) 0),(.int (0) 0),(.ref 20),(.int (10) 0),(.int (0) 0),(.ref 28),(.int (12) 0),(.int (0) 0),(.ref 35),(.int (14) 0),(.int (0) 0),(.ref 40),(.int (18) 0),(.int (0) 0),(.ref 47),(.int (20) 0),(.int (0) 0),(.ref 54),(.int (24) 0),(.int (0) 0),(.ref 61),(.int (39) 0),(.int (0) 0),(.ref 68),(.int (43) 0),(.int (0) 0),(.ref 75),(.int (56) 0),(.int (0) 0),(.ref 82),(.int (59) 0),(.int (0) 0),(.ref 89),(.int (61) 0),(.int (0) 0),(.ref 102),(.int (65) 0),(.int (0) 0),(.ref 121),(.int (69) 0),(.int (0) 0),(.ref 140),(.int (73) 0),(.int (0) 0),(.ref 159)]:List Value).toArray,([]:List (Option Value)).toArray⟩,
⟨(.type "code"),none,.fields ([(.str "<module>" 182),(.str "<module>" 183),(.str "/claim/cut.py" 184),(.int (1) 0),(.int (0) 0),(.int (0) 0),(.int (0) 0),(.int (0) 0),(.ref 11),(.bool false),(.int (181) 0),(.ref 12),.none,.none,.none,.none,(.int (185) 0),(.int (1) 0),(.str "/claim/cut.py" 186)]:List Value).toArray,([]:List (Option Value)).toArray⟩,
⟨(.type "frame"),none,.plain,([some (.ref 13),some (.ref 3),some (.ref 3),none,some (.str "__main__" 164),none,some (.ref 0)]:List (Option Value)).toArray⟩,
kS [] 0,
⟨.none,none,.fields ([]:List Value).toArray,([]:List (Option Value)).toArray⟩,
kS [(.str "k" 190)] 0,
kS [] 0,
kZ "_wall" "_wall" (top 0),
kk 20 Q,
kk 21 Q,
kk 22 Q,
kS [] 0,
⟨.none,none,.fields ([]:List Value).toArray,([]:List (Option Value)).toArray⟩,
kS [(.str "thing" 213)] 0,
kS [] 0,
kZ "is_whole" "is_whole" (top 7),
kk 28 Q,
kk 29 Q,
kS [] 0,
⟨.none,none,.fields ([]:List Value).toArray,([]:List (Option Value)).toArray⟩,
kS [(.str "thing" 220)] 0,
kS [] 0,
kZ "is_value" "is_value" (top 8),
kk 35 Q,
kk 36 Q,
kS [] 0,
⟨.none,none,.fields ([]:List Value).toArray,([]:List (Option Value)).toArray⟩,
kZ "is_name" "is_name" (top 9),
kk 40 Q,
kk 41 Q,
kS [] 0,
⟨.none,none,.fields ([]:List Value).toArray,([]:List (Option Value)).toArray⟩,
kS [(.str "thing" 233)] 0,
kS [] 0,
kZ "is_operand" "is_operand" (top 10),
kk 47 Q,
kk 48 Q,
kS [] 0,
⟨.none,none,.fields ([]:List Value).toArray,([]:List (Option Value)).toArray⟩,
kS [(.str "thing" 240)] 0,
kS [] 0,
kZ "is_deed" "is_deed" (top 11),
kk 54 Q,
kk 55 Q,
kS [] 0,
⟨.none,none,.fields ([]:List Value).toArray,([]:List (Option Value)).toArray⟩,
kS [(.str "thing" 247),(.str "kind" 248),(.str "rest" 249)] 0,
kS [] 0,
kZ "is_row" "is_row" (top 12),
kk 61 Q,
kk 62 Q,
kS [] 0,
⟨.none,none,.fields ([]:List Value).toArray,([]:List (Option Value)).toArray⟩,
kS [(.str "operand" 258),(.str "store" 259)] 0,
kS [] 0,
kZ "worth_of" "worth_of" (top 14),
kk 68 Q,
kk 69 Q,
kS [] 0,
⟨.none,none,.fields ([]:List Value).toArray,([]:List (Option Value)).toArray⟩,
kS [(.str "deed" 266),(.str "store" 267),(.str "kind" 268),(.str "one" 269),(.str "other" 270)] 0,
kS [] 0,
kZ "worth" "worth" (top 15),
kk 75 Q,
kk 76 Q,
kS [] 0,
⟨.none,none,.fields ([]:List Value).toArray,([]:List (Option Value)).toArray⟩,
kS [(.str "row" 277)] 0,
kS [] 0,
kZ "set_by" "set_by" (top 16),
kk 82 Q,
kk 83 Q,
kS [(.type "ValueError")] 0,
⟨(.type "builtin_function_or_method"),none,.fields ([(.builtin "type.__prepare__"),(.type "type")]:List Value).toArray,([]:List (Option Value)).toArray⟩,
kD [kE Q "__module__" 290 (.str "oncedone.errors" 281),kE Q "__qualname__" 292 (.str "OnceError" 291),kE Q "__firstlineno__" 294 (.int (59) 293),kE Q "__static_attributes__" 295 (.ref 91)] 4,
kS [] 0,
⟨.none,none,.fields ([]:List Value).toArray,([]:List (Option Value)).toArray⟩,
⟨(.type "code"),none,.fields ([(.str "OnceError" 285),(.str "OnceError" 286),(.str "/claim/cut.py" 287),(.int (59) 0),(.int (0) 0),(.int (0) 0),(.int (0) 0),(.int (0) 0),(.ref 87),(.bool false),(.int (181) 0),(.ref 88),.none,.none,.none,.none,(.int (288) 0),(.int (59) 0),(.str "/claim/cut.py" 289)]:List Value).toArray,([]:List (Option Value)).toArray⟩,
⟨(.type "frame"),none,.plain,([some (.ref 89),some (.ref 3),some (.ref 86),none,some (.str "oncedone.errors" 281),none,some (.ref 0)]:List (Option Value)).toArray⟩,
kS [] 0,
kk 92 Q,
kk 93 Q,
⟨(.type "getset_descriptor"),none,.fields ([(.str "__weakref__" 296),(.ref 93),(.builtin "ExceptionGroup.__weakref__"),.none]:List Value).toArray,([]:List (Option Value)).toArray⟩,
⟨(.type "super"),none,.fields ([(.ref 93),(.ref 93),(.ref 93)]:List Value).toArray,([]:List (Option Value)).toArray⟩,
⟨(.type "builtin_function_or_method"),none,.fields ([(.builtin "object.__init_subclass__"),(.ref 93)]:List Value).toArray,([]:List (Option Value)).toArray⟩,
kS [(.ref 93)] 0,
⟨(.type "builtin_function_or_method"),none,.fields ([(.builtin "type.__prepare__"),(.type "type")]:List Value).toArray,([]:List (Option Value)).toArray⟩,
kD [kE Q "__module__" 308 (.str "oncedone.errors" 281),kE Q "__qualname__" 310 (.str "Wrong" 309),kE Q "__firstlineno__" 312 (.int (61) 311),kE Q "__init__" 320 (.ref 110),kE Q "__static_attributes__" 322 (.ref 111)] 5,
kS [] 0,
⟨.none,none,.fields ([(.int (63) 0),(.int (4) 0),(.ref 109)]:List Value).toArray,([]:List (Option Value)).toArray⟩,
⟨(.type "code"),none,.fields ([(.str "Wrong" 303),(.str "Wrong" 304),(.str "/claim/cut.py" 305),(.int (61) 0),(.int (0) 0),(.int (0) 0),(.int (0) 0),(.int (0) 0),(.ref 100),(.bool false),(.int (181) 0),(.ref 101),.none,.none,.none,.none,(.int (306) 0),(.int (61) 0),(.str "/claim/cut.py" 307)]:List Value).toArray,([]:List (Option Value)).toArray⟩,
⟨(.type "frame"),none,.plain,([some (.ref 102),some (.ref 3),some (.ref 99),none,some (.str "oncedone.errors" 281),none,some (.ref 0)]:List (Option Value)).toArray⟩,
kS [] 0,
⟨.none,none,.fields ([]:List Value).toArray,([]:List (Option Value)).toArray⟩,
kS [(.str "self" 316),(.str "at" 317)] 0,
kS [] 0,
kZ "__init__" "Wrong.__init__" (T6 (top 19) 0),
kk 109 Q,
kk 110 Q,
kS [(.str "at" 321)] 0,
kk 112 Q,
kk 113 Q,
⟨(.type "super"),none,.fields ([(.ref 113),(.ref 113),(.ref 113)]:List Value).toArray,([]:List (Option Value)).toArray⟩,
⟨(.type "builtin_function_or_method"),none,.fields ([(.builtin "object.__init_subclass__"),(.ref 113)]:List Value).toArray,([]:List (Option Value)).toArray⟩,
kS [(.ref 93)] 0,
⟨(.type "builtin_function_or_method"),none,.fields ([(.builtin "type.__prepare__"),(.type "type")]:List Value).toArray,([]:List (Option Value)).toArray⟩,
kD [kE Q "__module__" 333 (.str "oncedone.errors" 281),kE Q "__qualname__" 335 (.str "NoThing" 334),kE Q "__firstlineno__" 337 (.int (65) 336),kE Q "__init__" 345 (.ref 129),kE Q "__static_attributes__" 347 (.ref 130)] 5,
kS [] 0,
⟨.none,none,.fields ([(.int (67) 0),(.int (4) 0),(.ref 128)]:List Value).toArray,([]:List (Option Value)).toArray⟩,
⟨(.type "code"),none,.fields ([(.str "NoThing" 328),(.str "NoThing" 329),(.str "/claim/cut.py" 330),(.int (65) 0),(.int (0) 0),(.int (0) 0),(.int (0) 0),(.int (0) 0),(.ref 119),(.bool false),(.int (181) 0),(.ref 120),.none,.none,.none,.none,(.int (331) 0),(.int (65) 0),(.str "/claim/cut.py" 332)]:List Value).toArray,([]:List (Option Value)).toArray⟩,
⟨(.type "frame"),none,.plain,([some (.ref 121),some (.ref 3),some (.ref 118),none,some (.str "oncedone.errors" 281),none,some (.ref 0)]:List (Option Value)).toArray⟩,
kS [] 0,
⟨.none,none,.fields ([]:List Value).toArray,([]:List (Option Value)).toArray⟩,
kS [(.str "self" 341),(.str "at" 342)] 0,
kS [] 0,
kZ "__init__" "NoThing.__init__" (T6 (top 20) 0),
kk 128 Q,
kk 129 Q,
kS [(.str "at" 346)] 0,
kk 131 Q,
kk 132 Q,
⟨(.type "super"),none,.fields ([(.ref 132),(.ref 132),(.ref 132)]:List Value).toArray,([]:List (Option Value)).toArray⟩,
⟨(.type "builtin_function_or_method"),none,.fields ([(.builtin "object.__init_subclass__"),(.ref 132)]:List Value).toArray,([]:List (Option Value)).toArray⟩,
kS [(.ref 93)] 0,
⟨(.type "builtin_function_or_method"),none,.fields ([(.builtin "type.__prepare__"),(.type "type")]:List Value).toArray,([]:List (Option Value)).toArray⟩,
kD [kE Q "__module__" 358 (.str "oncedone.errors" 281),kE Q "__qualname__" 360 (.str "TooMany" 359),kE Q "__firstlineno__" 362 (.int (69) 361),kE Q "__init__" 370 (.ref 148),kE Q "__static_attributes__" 372 (.ref 149)] 5,
kS [] 0,
⟨.none,none,.fields ([(.int (71) 0),(.int (4) 0),(.ref 147)]:List Value).toArray,([]:List (Option Value)).toArray⟩,
⟨(.type "code"),none,.fields ([(.str "TooMany" 353),(.str "TooMany" 354),(.str "/claim/cut.py" 355),(.int (69) 0),(.int (0) 0),(.int (0) 0),(.int (0) 0),(.int (0) 0),(.ref 138),(.bool false),(.int (181) 0),(.ref 139),.none,.none,.none,.none,(.int (356) 0),(.int (69) 0),(.str "/claim/cut.py" 357)]:List Value).toArray,([]:List (Option Value)).toArray⟩,
⟨(.type "frame"),none,.plain,([some (.ref 140),some (.ref 3),some (.ref 137),none,some (.str "oncedone.errors" 281),none,some (.ref 0)]:List (Option Value)).toArray⟩,
kS [] 0,
⟨.none,none,.fields ([]:List Value).toArray,([]:List (Option Value)).toArray⟩,
kS [(.str "self" 366),(.str "most" 367)] 0,
kS [] 0,
kZ "__init__" "TooMany.__init__" (T6 (top 21) 0),
kk 147 Q,
kk 148 Q,
kS [(.str "most" 371)] 0,
kk 150 Q,
kk 151 Q,
⟨(.type "super"),none,.fields ([(.ref 151),(.ref 151),(.ref 151)]:List Value).toArray,([]:List (Option Value)).toArray⟩,
⟨(.type "builtin_function_or_method"),none,.fields ([(.builtin "object.__init_subclass__"),(.ref 151)]:List Value).toArray,([]:List (Option Value)).toArray⟩,
kS [(.ref 93)] 0,
⟨(.type "builtin_function_or_method"),none,.fields ([(.builtin "type.__prepare__"),(.type "type")]:List Value).toArray,([]:List (Option Value)).toArray⟩,
kD [kE Q "__module__" 383 (.str "oncedone.errors" 281),kE Q "__qualname__" 385 (.str "NoWay" 384),kE Q "__firstlineno__" 387 (.int (73) 386),kE Q "__init__" 395 (.ref 167),kE Q "__static_attributes__" 397 (.ref 168)] 5,
kS [] 0,
⟨.none,none,.fields ([(.int (75) 0),(.int (4) 0),(.ref 166)]:List Value).toArray,([]:List (Option Value)).toArray⟩,
⟨(.type "code"),none,.fields ([(.str "NoWay" 378),(.str "NoWay" 379),(.str "/claim/cut.py" 380),(.int (73) 0),(.int (0) 0),(.int (0) 0),(.int (0) 0),(.int (0) 0),(.ref 157),(.bool false),(.int (181) 0),(.ref 158),.none,.none,.none,.none,(.int (381) 0),(.int (73) 0),(.str "/claim/cut.py" 382)]:List Value).toArray,([]:List (Option Value)).toArray⟩,
⟨(.type "frame"),none,.plain,([some (.ref 159),some (.ref 3),some (.ref 156),none,some (.str "oncedone.errors" 281),none,some (.ref 0)]:List (Option Value)).toArray⟩,
kS [] 0,
⟨.none,none,.fields ([]:List Value).toArray,([]:List (Option Value)).toArray⟩,
kS [(.str "self" 391),(.str "at" 392)] 0,
kS [] 0,
kZ "__init__" "NoWay.__init__" (T6 (top 22) 0),
kk 166 Q,
kk 167 Q,
kS [(.str "at" 396)] 0,
kk 169 Q,
kk 170 Q,
⟨(.type "super"),none,.fields ([(.ref 170),(.ref 170),(.ref 170)]:List Value).toArray,([]:List (Option Value)).toArray⟩,
⟨(.type "builtin_function_or_method"),none,.fields ([(.builtin "object.__init_subclass__"),(.ref 170)]:List Value).toArray,([]:List (Option Value)).toArray⟩]
abbrev bd:List Stmt:=behindTheImports P
abbrev en:Env:={ scope:=P.main.scope,locals:=mainNs,globals:=mainNs,cells:=[],code:=(.ref 13),frame:=some 14 }
abbrev cE:Code:=.body bd en
abbrev fB:List Frame:=[topFrame ⟨0,0,0,0⟩]
abbrev s0(w:World)(os:OsState):l5:=⟨boot_heap w.params,Array.mk [],boot_drawn,boot_toks,os⟩
def sa(w:World)(os:OsState):l5:=((topGo treeTable P w 11 (some (.ref 6)) 12 (s0 w os) (topStub P)).map (·.1)).getD (s0 w os)
abbrev s1(w:World)(os:OsState):l5:=⟨⟨Array.mk (h1 w.params),(boot_heap w.params).life⟩,Array.mk [],boot_drawn,403,os⟩
abbrev rn(w:World)(os:OsState):Option l5:=PySem.W.Fast.tw14082659384304107361 PySem.W.Fast.tw14364793385576792824 P w 11 (some (.ref 6)) 5307 (s1 w os) (restOf (bd.drop 24) en cE ⟨77,0,77,8⟩ fB)
end
theorem c6Z(w:World)(os:OsState):topGo treeTable P w 11 (some (.ref 6)) 12 (s0 w os) (topStub P)=some (sa w os,⟨denote treeTable cE,cE,⟨0,0,0,0⟩,fB⟩):=by kernel_rfl
theorem c6Y(w:World)(os:OsState):segRun treeTable P w 11 (some (.ref 6)) 1 1 (sa w os) (blockOf bd en cE ⟨0,0,0,0⟩ fB)=some (.next,sa w os,cE,⟨0,0,0,0⟩):=by kernel_rfl
theorem c6X(w:World)(os:OsState):segRun treeTable P w 11 (some (.ref 6)) 1 1548 (sa w os) (piecesOf (bd.take 24) en cE ⟨0,0,0,0⟩ fB)=some (.next,s1 w os,cE,⟨77,0,77,8⟩):=by kernel_rfl
theorem c6W(w:World)(os:OsState)(x:l5)(h:rn w os=some x):topRun treeTable P w 11 (some (.ref 6)) 6868 (s0 w os) (topStub P)=some x:=by
 have h:topRun treeTable P w 11 (some (.ref 6)) 5307 (s1 w os) (restOf (bd.drop 24) en cE ⟨77,0,77,8⟩ fB)=some x:=by rw[PySem.W.Fast.te14082659384304107361,PySem.W.Fast.te14364793385576792824];exact h
 have h:=piece_app (c6X w os) h
 rw[List.take_append_drop]at h
 exact go_top (c6Z w os) (piece_block (c6Y w os) h)
theorem c4A(w:World)(os:OsState):(rn w os).map (fun s₁=>staticsOk (a1T P.main.body) (boot_heap w.params) s₁.heap&&namesBound P s₁.heap&&gensDone s₁&&laidKept (boot_heap w.params) s₁.heap)=some true:=by kernel_rfl
theorem c4z(w:World)(os:OsState):(rn w os).map (PySem.W.Fast.tw4187177175401517315 q loose (a1T P.main.body) (fun s=>xlAt q [] s&&recOk (RowW.records row.row.toRowW) s) true)=some (openGood q loose):=by kernel_rfl
theorem c1D(w:World)(os:OsState):(rn w os).map (fun s=>c4Z.map s.heap.get?)=some ((K1 w.params).map fun p=>some p.2):=by kernel_rfl
theorem c1C(w:World)(os:OsState):(rn w os).map (fun s=>c1Z.map s.heap.get?)=some ((K2 w.params).map fun p=>some p.2):=by kernel_rfl
theorem c1B(w:World)(os:OsState):(rn w os).map (fun s=>c1Y.map s.heap.get?)=some ((K3 w.params).map fun p=>some p.2):=by kernel_rfl
theorem c1A(w:World)(os:OsState):(rn w os).map (fun s=>c1X.map s.heap.get?)=some ((K4 w.params).map fun p=>some p.2):=by kernel_rfl
theorem c4y(w:World)(os:OsState):(rn w os).map (Hook.obs a9I)=some (Hook.val a9I w):=by
 obtain⟨s,h1,h2⟩:=z8.mp (c1D w os)
 have h3:=c1C w os
 have h4:=c1B w os
 have h5:=c1A w os
 rw[h1]at h3 h4 h5 ⊢
 have h3:c1Z.map s.heap.get? = _:=Option.some.inj h3
 have h4:c1Y.map s.heap.get? = _:=Option.some.inj h4
 have h5:c1X.map s.heap.get? = _:=Option.some.inj h5
 show some ((c4Z++(c1Z++(c1Y++c1X))).map s.heap.get?)=some ((K1 w.params++(K2 w.params++(K3 w.params++K4 w.params))).map fun p=>some p.2)
 rw[D1,D1,D1,D1,D1,D1,h2,h3,h4,h5]
theorem left:LeftO P q loose (fun s=>xlAt q [] s&&recOk (RowW.records row.row.toRowW) s) (Hook.obs a9I) (Hook.val a9I) 6868:=
 b9c (m₀:=11) (ann:=(some (.ref 6))) (r:=rn) (by kernel_rfl) (by kernel_rfl) (fun s=>by kernel_rfl) (fun w=>by kernel_rfl) c6W c4A (by rw[PySem.W.Fast.te4187177175401517315];exact c4z) c4y
theorem c5D:row.wellSaid=true:=by
 rw[PySem.W.Fast.te9446332074065402090]
 kernel_rfl
theorem fin(hc:∀d:DefRec,d.name = "law" -> d.params.defaults=[]->WalkO q loose (XL q []) (Hook.says a9I) row.row.toRowW d [] (fun f vs=>b1U f vs)):row.Holds:=by
 refine holds_law (l:=row) c5D fun said=>?_
 refine holds_open (q:=q) (loose:=loose) (Xt:=fun s=>xlAt q [] s&&recOk (RowW.records row.row.toRowW) s) (XP:=XL q []) (Yf:=Hook.obs a9I) (Ya:=Hook.val a9I) (YP:=Hook.says a9I) (N:=6868) left (Hook.of a9I) (Hook.keeps a9I) (fun s e=>xl_of s (b7h.mp e).1) XL.keeps (by rfl) (by rfl) (by rfl) (fun s e=>recFacts_of (b7h.mp e).2) (by rfl) said (by decide +kernel) ⟨rfl,rfl,rfl,rfl,rfl,by decide +kernel⟩ ?hw (hc _ rfl rfl)
 case hw=>w_witness2
end HD
set_option Elab.async false
set_option linter.all false
set_option maxRecDepth 100000
namespace L2
open PySem PySem.Spec PyProof.Rows
variable{us:List Value}{i t':Nat}{u:Value}{C a b dx f:Addr}{w:World}{h h':Heap}{pins:List (Addr×Obj)}{s:l5}{c e tg:Expr}{p pos pos':Pos}{Q:Value->l5->Prop}{es:List Expr}{ps:List Str}{m:Str->Option Value}
abbrev Key:=Sum Int Str
def a9a:Key->Value->Bool
 | .inl k,v=>Value.isInt k v
 | .inr x,v=>Value.isStrOf x v
def c6U(w:World):Key->Int
 | .inl k=>hashInt k
 | .inr x=>hashStr w x
theorem Q7:∀ {k:Key} {v:Value},a9a k v=true->(∃i t,k=Sum.inl i/\v=Value.int i t)\/(∃x t,k=Sum.inr x/\v=Value.str x t)
 | .inl i,v,h=>by
  obtain⟨t,e⟩:=Value.isInt_shape (k:=i) (v:=v) h
  exact .inl ⟨i,t,rfl,e⟩
 | .inr x,v,h=>by
  obtain⟨t,e⟩:=Value.isStrOf_shape (x:=x) (v:=v) h
  exact .inr ⟨x,t,rfl,e⟩
theorem b6B(i:Int)(t:Tok):a9a (.inl i) (.int i t)=true:=by simp[a9a,Value.isInt]
theorem b6A(x:Str)(t:Tok):a9a (.inr x) (.str x t)=true:=by simp[a9a,Value.isStrOf]
theorem c4F(a b:Int):decide ((Sum.inl a:Key)=Sum.inl b)=(a == b):=by
 by_cases e:a=b
 ·subst e;simp
 ·have h:¬(Sum.inl a:Key)=Sum.inl b:=fun q=>e (Sum.inl.inj q)
  rw[c8r h]
  exact(beq_eq_false_iff_ne.mpr e).symm
theorem c4C(a b:Str):decide ((Sum.inr a:Key)=Sum.inr b)=decide (a=b):=by
 by_cases e:a=b
 ·subst e;simp
 ·have h:¬(Sum.inr a:Key)=Sum.inr b:=fun q=>e (Sum.inr.inj q)
  rw[c8r h,c8r e]
theorem c4E(a:Int)(b:Str):decide ((Sum.inl a:Key)=Sum.inr b)=false:=c8r (fun q=>nomatch q)
theorem c4D(a:Str)(b:Int):decide ((Sum.inr a:Key)=Sum.inl b)=false:=c8r (fun q=>nomatch q)
def Q2(prog:C2)(w:World):PySem.KeyKind prog w Key where
 is:=a9a
 hash:=c6U w
 inj:=fun v a b ha hb=>by
  rcases Q7 ha with ⟨i,t,rfl,rfl⟩ | ⟨x,t,rfl,rfl⟩
  ·rcases Q7 hb with ⟨j,u,rfl,e⟩ | ⟨y,u,rfl,e⟩
   ·injection e with e1 _;rw[e1]
   ·exact nomatch e
  ·rcases Q7 hb with ⟨j,u,rfl,e⟩ | ⟨y,u,rfl,e⟩
   ·exact nomatch e
   ·injection e with e1 _;rw[e1]
 byValue:=fun k v h=>by
  rcases Q7 h with ⟨i,t,rfl,rfl⟩ | ⟨x,t,rfl,rfl⟩ <;> rfl
 pyHash:=fun hv h=>by
  rcases Q7 hv with ⟨i,t,rfl,rfl⟩ | ⟨x,t,rfl,rfl⟩
  ·exact wpAny_pyHash_int h
  ·exact wpAny_pyHash_str h
 eqBool:=fun hu hv h=>by
  rcases Q7 hu with ⟨i,t,rfl,rfl⟩ | ⟨x,t,rfl,rfl⟩
  ·rcases Q7 hv with ⟨j,u,rfl,rfl⟩ | ⟨y,u,rfl,rfl⟩
   ·rw[c4F]at h;exact wpAny_eqBool_int h
   ·rw[c4E]at h;exact SeqAt.EqAt.int_str i t y u _ _ _ _ h
  ·rcases Q7 hv with ⟨j,u,rfl,rfl⟩ | ⟨y,u,rfl,rfl⟩
   ·rw[c4D]at h;exact SeqAt.EqAt.str_int x t j u _ _ _ _ h
   ·rw[c4C]at h;exact wpAny_eqBool_str h
 «strs» := fun k x t v h=>by
  rcases Q7 h with ⟨i,u,rfl,e⟩ | ⟨y,u,rfl,e⟩
  ·exact nomatch e
  ·injection e with e1 _
   subst e1
   cases v <;> rfl
theorem b2Z(prog:C2)(w:World)(i:Int)(t:Tok):(Q2 prog w).is (.inl i) (.int i t)=true:=b6B i t
theorem b2Y(prog:C2)(w:World)(x:Str)(t:Tok):(Q2 prog w).is (.inr x) (.str x t)=true:=b6A x t
inductive V where
 | non | bl (b:Bool) | int (i:Int) | str (x:Str) | byt (b:Array UInt8) | flt (b:UInt64) | ref (a:Addr) | ty (n:String)
 deriving DecidableEq
variable{v y:V}{xs:List V}{kvs:List (Key×V)}
def E1:V->Value->Prop
 | .non,u=>u=Value.none
 | .bl b,u=>u=Value.bool b
 | .int i,u=>∃t,u=Value.int i t
 | .str x,u=>∃t,u=Value.str x t
 | .byt b,u=>∃t,u=Value.bytes b t
 | .flt b,u=>∃t,u=Value.float b t
 | .ref a,u=>u=Value.ref a
 | .ty n,u=>u=Value.type n
abbrev E4:List V->List Value->Prop:=Paired E1
theorem E4.length(r:E4 xs us):xs.length=us.length:=Paired.length r
theorem E4.get:∀ {xs:List V} {us:List Value} {i:Nat} {x:V},E4 xs us->xs[i]? = some x->∃u,us[i]? = some u/\E1 x u
 | _,_,_,_,.nil,e=>by simp at e
 | _,_,0,_,.cons r _,e=>by simp at e;subst e;exact⟨_,rfl,r⟩
 | _,_,i+1,x,.cons _ t,e=>by
  obtain⟨u,h1,h2⟩:=E4.get (i:=i) (x:=x) t (by simpa using e)
  exact⟨u,by simpa using h1,h2⟩
theorem E4.set{x:V}(r:E1 x u):∀ {xs:List V} {us:List Value} (i:Nat),E4 xs us->E4 (xs.set i x) (us.set i u)
 | _,_,_,.nil=>.nil
 | _,_,0,.cons _ t=>.cons r t
 | _,_,i+1,.cons q t=>.cons q (E4.set r i t)
theorem E4.append:∀ {xs ys:List V} {us ws:List Value},E4 xs us->E4 ys ws->E4 (xs++ys) (us++ws)
 | _,_,_,_,.nil,s=>s
 | _,_,_,_,.cons r t,s=>.cons r (E4.append t s)
theorem E4.take:∀ {xs:List V} {us:List Value} (n:Nat),E4 xs us->E4 (xs.take n) (us.take n)
 | _,_,0,_=>.nil
 | _,_,_+1,.nil=>.nil
 | _,_,n+1,.cons r t=>.cons r (E4.take n t)
theorem E4.drop:∀ {xs:List V} {us:List Value} (n:Nat),E4 xs us->E4 (xs.drop n) (us.drop n)
 | _,_,0,r=>r
 | _,_,_+1,.nil=>.nil
 | _,_,n+1,.cons _ t=>E4.drop n t
def a4U:Option V->Option Value->Prop
 | some v,some u=>E1 v u
 | none,none=>True
 | _,_=>False
def KV{κ:Type}:List (κ×V)->List (κ×Value)->Prop:=Paired fun(p:κ×V) (q:κ×Value)=>p.1=q.1/\E1 p.2 q.2
def kV:Key->V
 | .inl i=>.int i
 | .inr x=>.str x
inductive HO where
 /-- a list -/
 | lst (xs:List V)
 /-- a tuple (never changes) -/
 | tup (xs:List V)
 /-- a dict whose keys are ints and texts;one whose keys are tuples of ints and texts (the empty one is both) -/
 | dK (kvs:List (Key×V)) | dT (kvs:List (List Key×V))
 /-- a set of ints: its members,its size -/
 | set (S:Int->Bool) (n:Nat)
 /-- an instance of the class at C,its dict at dx,its attributes -/
 | ins (C dx:Addr) (fs:List (Str×V))
 /-- the dict of the instance at x -/
 | own (x:Addr)
 /-- the dict of an exception -/
 | xd (fs:List (Str×V))
 /-- a bound method,f of x -/
 | met (f x:Addr)
 /-- a range object lo,lo+1,.. below hi -/
 | rng (lo hi:Int)
 /-- a thing that is known to the object (the script;a dict while a loop walks it): read,never written while it is so -/
 | frz (o:Obj) (u:HO)
 /-- a code object's table -/
 | tbl (ps:Array Value)
 /-- any other thing,by what is true of its one object (a def of one's own: SetO a S n:=HO.ext fun h=>..) -/
 | ext (φ:Heap->Prop)
variable{o:HO}
abbrev Hp:=Addr->Option HO
variable{H H':Hp}
def upd(H:Hp)(a:Addr)(o:HO):Hp:=fun b=>if b=a then some o else H b
theorem d6:upd H a o a=some o:=by unfold upd;rw[if_pos rfl]
theorem l7(h:b≠a):upd H a o b=H b:=by unfold upd;rw[if_neg h]
theorem a7U{u:HO}:upd (upd H a o) a u=upd H a u:=by
 funext b;unfold upd;split <;> rfl
theorem L6{u:HO}(h:H a=some o)(h':H b=some u)(d:o≠u):a≠b:=by
 intro e;subst e;rw[h]at h';exact d (Option.some.inj h')
theorem d9(h:H a=some o)(h':H b=none):a≠b:=by
 intro e;subst e;rw[h]at h';cases h'
section
variable (P:C2)(w:World)
def V9(H:Hp)(h:Heap)(a:Addr):HO->Prop
 | .lst xs=>xs.length<=q9/\∃(its:List Value) (n:Nat),E4 xs its/\h.get? a=some { cls:=.type "list",data:=.seq its.toArray n }
 | .tup xs=>xs.length<=q9/\∃its:List Value,E4 xs its/\IsTup h a its.toArray
 | .dK kvs=>kvs.length<=q9/\(a == W7)=false/\∃vs,KV kvs vs/\h.DictOf (Q2 P w) a vs
 | .dT kvs=>kvs.length<=q9/\(a == W7)=false/\∃xs:List (List Key×Addr×Value),
   Paired (fun(p:List Key×V) (q:List Key×Addr×Value)=>p.1=q.1/\H q.2.1=some (.tup (p.1.map kV))/\E1 p.2 q.2.2) kvs xs /\
   ∃o es ep,h.get? a=some o/\o.ExactDict/\o.data=.dict es ep/\es.toList=xs.map (entryOfKey (b2d (Q2 P w)))/\(xs.map (·.1)).Nodup
 | .set S n=>h.SetOf (intKind P w) a S n
 | .ins C dx fs=>H dx=some (.own a)/\fs.length<=1000/\dx≠a/\h.get? a=some (U1 C dx) /\
   ∃mA,h.Ns1 dx mA/\(∀f,a4U (fs.lookup f) (mA f))/\PySem.Within mA (fs.map (·.1))
 | .own _=>∃o,h.get? a=some o
 | .xd fs=>∃mA,h.Ns1 a mA/\∀f,a4U (fs.lookup f) (mA f)
 | .rng lo hi=>∃t u v,h.get? a=some { cls:=.type "range",data:=.fields #[.int lo t,.int hi u,.int 1 v] }
 | .frz o u=>h.get? a=some o/\V9 H h a u
 | .tbl ps=>h.get? a=some { cls:=.none,data:=.fields ps }
 | .met f x=>h.get? a=some (a7w (.ref f) (.ref x))
 | .ext φ=>φ h/\(∃o,h.get? a=some o)/\∀h1 h2:Heap,φ h1->(∀o,h1.get? a=some o->h2.get? a=some o)->φ h2
def HOk(H:Hp)(h:Heap):Prop:=∀a o,H a=some o->V9 P w H h a o
end
section
variable {P:C2}
theorem V9.lt(x:V9 P w H h a o):a<h.objs.size:=by
 cases o with
 | lst xs=>obtain⟨_,_,_,_,e⟩:=x;exact l3 e
 | tup xs=>obtain⟨_,_,_,p⟩:=x;exact p.lt
 | dK kvs=>obtain⟨_,_,_,_,o,_,_,e,_⟩:=x;exact l3 e
 | dT kvs=>obtain⟨_,_,_,_,o,_,_,e,_⟩:=x;exact l3 e
 | set S n=>obtain⟨o,_,_,_,e,_⟩:=x;exact l3 e
 | ins C dx fs=>obtain⟨_,_,_,e,_⟩:=x;exact l3 e
 | own y=>obtain⟨_,e⟩:=x;exact l3 e
 | xd fs=>obtain⟨_,⟨_,_,_,e,_⟩,_⟩:=x;exact l3 e
 | rng lo hi=>obtain⟨_,_,_,e⟩:=x;exact l3 e
 | frz ob u=>obtain⟨e,_⟩:=x;exact l3 e
 | tbl ps=>exact l3 (show h.get? a=some _ from x)
 | met f y=>exact l3 (show h.get? a=some _ from x)
 | ext φ=>obtain⟨_,⟨_,e⟩,_⟩:=x;exact l3 e
theorem Paired.mapP{α β:Type}{F G:α->β->Prop}:∀ {l₁:List α} {l₂:List β},Paired F l₁ l₂->(∀a b,F a b->G a b)->Paired G l₁ l₂
 | _,_,.nil,_=>.nil
 | _,_,.cons r t,f=>.cons (f _ _ r) (Paired.mapP t f)
theorem V9.stay(x:V9 P w H h a o)(k:∀b u,(b=a\/H b=some (.own a))->h.get? b=some u->h'.get? b=some u)
  (ho:∀b,H b=some (.own a)->H' b=some (.own a)) (ht:∀b xs,H b=some (.tup xs)->H' b=some (.tup xs)):V9 P w H' h' a o:=by
 induction o with
 | lst xs=>obtain⟨z,its,n,r,e⟩:=x;exact⟨z,its,n,r,k _ _ (.inl rfl) e⟩
 | tup xs=>obtain⟨z,its,r,ob,e,c⟩:=x;exact⟨z,its,r,ob,k _ _ (.inl rfl) e,c⟩
 | dK kvs=>obtain⟨z,y,vs,r,ob,es,ep,e,c⟩:=x;exact⟨z,y,vs,r,ob,es,ep,k _ _ (.inl rfl) e,c⟩
 | dT kvs=>
  obtain⟨z,y,xs,r,ob,es,ep,e,c⟩:=x
  exact⟨z,y,xs,Paired.mapP r fun p q z=>⟨z.1,ht _ _ z.2.1,z.2.2⟩,ob,es,ep,k _ _ (.inl rfl) e,c⟩
 | set S n=>obtain⟨ob,es,ep,t,e,c⟩:=x;exact⟨ob,es,ep,t,k _ _ (.inl rfl) e,c⟩
 | ins C dx fs=>
  obtain⟨d,z,ne,e,mA,⟨od,es,ep,e2,c⟩,r⟩:=x
  exact⟨ho _ d,z,ne,k _ _ (.inl rfl) e,mA,⟨od,es,ep,k _ _ (.inr d) e2,c⟩,r⟩
 | own y=>obtain⟨ob,e⟩:=x;exact⟨ob,k _ _ (.inl rfl) e⟩
 | xd fs=>obtain⟨mA,⟨od,es,ep,e,c⟩,r⟩:=x;exact⟨mA,⟨od,es,ep,k _ _ (.inl rfl) e,c⟩,r⟩
 | rng lo hi=>obtain⟨t,u,v,e⟩:=x;exact⟨t,u,v,k _ _ (.inl rfl) e⟩
 | frz ob u ih=>obtain⟨e,q⟩:=x;exact⟨k _ _ (.inl rfl) e,ih q⟩
 | tbl ps=>
  have e:h.get? a=some { cls:=.none,data:=.fields ps }:=x
  show h'.get? a=some { cls:=.none,data:=.fields ps }
  exact k a _ (.inl rfl) e
 | met f y=>
  have e:h.get? a=some (a7w (.ref f) (.ref y)):=x
  show h'.get? a=some (a7w (.ref f) (.ref y))
  exact k a _ (.inl rfl) e
 | ext φ=>obtain⟨p,⟨o,e⟩,st⟩:=x;exact⟨st _ _ p fun o q=>k _ _ (.inl rfl) q,⟨o,k _ _ (.inl rfl) e⟩,st⟩
theorem HOk.lt(x:HOk P w H h)(e:H a=some o):a<h.objs.size:=(x a o e).lt
theorem HOk.fresh(x:HOk P w H h)(e:h.objs.size<=a):H a=none:=by
 cases q:H a with
 | none=>rfl
 | some u=>exact absurd (A8 (x.lt q) e) (G0 _)
theorem HOk.kept(x:HOk P w H h)(k:∀b u,h.get? b=some u->h'.get? b=some u):HOk P w H h':=fun a o e=>
 (x a o e).stay (fun b u _ q=>k b u q) (fun _ q=>q) fun _ _ q=>q
theorem HOk.laid(x:HOk P w H h)(k:∀b u,h.get? b=some u->h'.get? b=some u)(hp:h.objs.size<=a)(new:V9 P w (upd H a o) h' a o):HOk P w (upd H a o) h':=fun b u e=>by
 have hn:=x.fresh hp
 by_cases hb:b=a
 ·subst hb;rw[d6]at e;cases e;exact new
 ·rw[l7 hb]at e
  exact(x b u e).stay (fun c v _ q=>k c v q) (fun c q=>by rw[l7 (d9 q hn)];exact q) fun c xs q=>by rw[l7 (d9 q hn)];exact q
end
def Rd(H:Hp)(a:Addr)(u:HO):Prop:=H a=some u\/∃o,H a=some (.frz o u)
theorem Rd.ok{P:C2}{u:HO}(r:Rd H a u)(x:HOk P w H h):V9 P w H h a u:=by
 rcases r with r | ⟨o,r⟩
 ·exact x a u r
 ·obtain⟨_,q⟩:=x a _ r
  exact q
def Mut:Option HO->Prop
 | some (.lst _)=>True
 | some (.dK _)=>True
 | some (.dT _)=>True
 | some (.set _ _)=>True
 | some (.ins _ _ _)=>True
 | some (.ext _)=>True
 | _=>False
section
variable {P:C2}{x e:Addr}{o':HO}
theorem HOk.write(ok:HOk P w H h)(mu:Mut (H x))(he:e=x\/H e=some (.own x))(k:∀b u,b≠e->h.get? b=some u->h'.get? b=some u)(heo:∃u,h'.get? e=some u)
  (new:V9 P w (upd H x o') h' x o'):HOk P w (upd H x o') h':=fun b u q=>by
 have nown:∀c y,H c=some (.own y)->c≠x:=fun c y r z=>by subst z;rw[r]at mu;exact mu
 have ntup:∀c xs,H c=some (.tup xs)->c≠x:=fun c xs r z=>by subst z;rw[r]at mu;exact mu
 by_cases hb:b=x
 ·subst hb;rw[d6]at q;cases q;exact new
 ·rw[l7 hb]at q
  by_cases hbe:b=e
  ·have q':H b=some (.own x):=by
    rcases he with z | z
    ·exact absurd (hbe.trans z) hb
    ·rw[hbe];exact z
   rw[q]at q';cases q'
   obtain⟨v,hv⟩:=heo
   exact⟨v,by rw[hbe];exact hv⟩
  ·refine(ok b u q).stay (fun c v hc r=>k c v ?_ r) (fun c r=>by rw[l7 (nown c b r)];exact r) fun c xs r=>by rw[l7 (ntup c xs r)];exact r
   rcases hc with rfl | hc
   ·exact hbe
   ·rintro rfl
    rcases he with z | z
    ·exact nown c b hc z
    ·rw[hc]at z;cases z;exact hb rfl
end
structure Un(fs ex:List Addr)(H H':Hp)(h h':Heap):Prop where
 keep:∀b o,h.get? b=some o->H b=none->b∉fs->b∉ex->h'.get? b=some o
 slot:∀b o,h.get? b=some o->H b=none->b∈fs->b∉ex->∃sl,h'.get? b=some { o with slots:=sl }
 free:∀b o,h.get? b=some o->H b=none->b∉ex->H' b=none
 there:∀b o,h.get? b=some o->b∉ex->∃o',h'.get? b=some o'
 tups:∀b xs,H b=some (.tup xs)->H' b=some (.tup xs)
 frzs:∀b o u,H b=some (.frz o u)->H' b=some (.frz o u)
 tbls:∀b ps,H b=some (.tbl ps)->∃more,H' b=some (.tbl (ps++more))
section
variable {fs fs' ex ex':List Addr}{H1 H2:Hp}{h1 h2:Heap}{x e:Addr}
theorem Un.any(u:Un fs ex H H1 h h1){ob:Obj}(q:h.get? b=some ob)(n:H b=none)(hx:b∉ex):∃sl,h1.get? b=some { ob with slots:=sl }:=by
 by_cases hb:b∈fs
 ·exact u.slot b ob q n hb hx
 ·exact⟨ob.slots,u.keep b ob q n hb hx⟩
theorem Un.kept(k:∀b u,h.get? b=some u->h'.get? b=some u):Un fs ex H H h h':=
 ⟨fun b ob q _ _ _=>k b ob q,fun b ob q _ _ _=>⟨ob.slots,k b ob q⟩,fun _ _ _ n _=>n,fun b ob q _=>⟨ob,k b ob q⟩,fun _ _ q=>q,fun _ _ _ q=>q,fun _ ps q=>⟨#[],by rw[q];simp⟩⟩
theorem Un.refl:Un fs ex H H h h:=Un.kept fun _ _ q=>q
theorem Un.laid(k:∀b u,h.get? b=some u->h'.get? b=some u)(hp:h.objs.size<=a)(hn:H a=none):Un fs ex H (upd H a o) h h' where
 keep:=fun b u q _ _ _=>k b u q
 slot:=fun b u q _ _ _=>⟨u.slots,k b u q⟩
 free:=fun b u q n _=>by rw[l7 (u7 (A8 (l3 q) hp))];exact n
 there:=fun b u q _=>⟨u,k b u q⟩
 tups:=fun b xs q=>by rw[l7 (d9 q hn)];exact q
 frzs:=fun b u xs q=>by rw[l7 (d9 q hn)];exact q
 tbls:=fun b ps q=>⟨#[],by rw[l7 (d9 q hn),q];simp⟩
theorem Un.write(mu:Mut (H x))(he:e=x\/H e=some (.own x))(k:∀b u,b≠e->h.get? b=some u->h'.get? b=some u)(heo:∃u,h'.get? e=some u):Un fs ex H (upd H x o) h h':=by
 have hx:∀b,H b=none->b≠x:=fun b n z=>by subst z;rw[n]at mu;exact mu
 have hb:∀b,H b=none->b≠e:=fun b n z=>by
  subst z
  rcases he with r | r
  ·exact hx b n r
  ·rw[n]at r;cases r
 have hm:∀b u,H b=some u->¬Mut (some u)->b≠x:=fun b u q nm z=>by subst z;rw[q]at mu;exact nm mu
 refine⟨fun b u q n _ _=>k b u (hb b n) q,fun b u q n _ _=>⟨u.slots,k b u (hb b n) q⟩,fun b u q n _=>by rw[l7 (hx b n)];exact n,fun b u q _=>?_,
  fun b xs q=>by rw[l7 (hm b _ q fun z=>z)];exact q,fun b u xs q=>by rw[l7 (hm b _ q fun z=>z)];exact q,fun b ps q=>⟨#[],by rw[l7 (hm b _ q fun z=>z),q];simp⟩⟩
 by_cases hbe:b=e
 ·subst hbe;exact heo
 ·exact⟨u,k b u hbe q⟩
end
def trk(h:Heap)(H:Hp):List Addr:=(E7 h.objs.size).filter fun a=>(H a).isSome
def b1t(h:Heap)(H:Hp):Heap:=PySem.W.hideAll h (trk h H)
theorem b6G(h:Heap)(H:Hp):(b1t h H).objs.size=h.objs.size:=PySem.W.hideAll_size _ _
theorem b9j{o:Obj}(e:h.get? b=some o)(n:H b=none):(b1t h H).get? b=some o:=
 PySem.W.hideAll_get _ e fun hm=>by
  have q:(H b).isSome=true:=(a5a.mp hm).2
  rw[n]at q;simp at q
theorem c1w{o:Obj}(e:(b1t h H).get? b=some o):h.get? b=some o/\H b=none:=by
 have e':h.get? b=some o:=PySem.W.of_hideAll (trk h H) e
 refine⟨e',?_⟩
 cases q:H b with
 | none=>rfl
 | some x=>
  have hm:b∈trk h H:=a5a.mpr ⟨a1g.mpr (l3 e'),by simp[q]⟩
  have z:(b1t h H).get? b=none:=PySem.W.hideAll_none (trk h H) hm
  rw[z]at e;cases e
def c1W(g h:Heap)(L:Addr):List (Addr×Obj):=(E7 h.objs.size).filterMap fun a=>if a=L\/(g.get? a).isSome=true then none else (h.get? a).map fun o=>(a,o)
def rest(g h:Heap)(L d:Addr):List (Addr×Obj):=(c1W g h L).filter fun p=>decide (p.1≠d)
structure Mod(K:Fg)(mg:Str->Option Value)(base:Heap):Prop where
 kin:K.In base
 glob:base.Ns u9 mg
 blt:∃mb,base.Ns builtinsNs mb/\∀x:Str,x ≠ "__name__" -> mb x=R4 x
 nolimit:base.NoLimit
structure Cx where
 prog:C2
 w:World
 K:Fg
 mg:Str->Option Value
 base:Heap
 A:G8
 N:List Str
 s₀:l5
 H₀:Hp
 env:Env
 outer:List Env
 stack:List Env
 ex:List Addr
 fn:Str->Bool
 calm:Bool
 pn:List (Addr×Obj)
 xe:Value->l5->Prop
variable{X:Cx}
def frs(l:List Env):List Addr:=l.filterMap (·.frame)
abbrev Cx.fs(X:Cx):List Addr:=frs X.outer
def Vis(sc:Scope)(x:Str):Prop:=sc.names.lookup x=some .local\/sc.names.lookup x=some .cell\/sc.names.lookup x=some .free
def Loc(sc:Scope)(x:Str):Prop:=sc.names.lookup x=some .local\/sc.names.lookup x=some .cell
def c7d(env:Env)(h:Heap)(m:Str->Option Value)(x:Str)(u:Value):Prop:=
 (env.kindOf x=some .local/\m x=some u)\/((env.kindOf x=some .cell\/env.kindOf x=some .free)/\∃c,env.cells.lookup x=some c/\h.IsCell c (some u))
structure Cx.Ok(X:Cx):Prop where
 mod:Mod X.K X.mg X.base
 kind:X.env.scope.kind=.function
 glob:X.env.globals=u9
 blt:X.env.builtins=builtinsNs
 above:X.s₀.heap.objs.size<=X.env.locals
 inj:∀x y c,X.env.cells.lookup x=some c->X.env.cells.lookup y=some c->x=y
 has:∀x,(X.env.kindOf x=some .cell\/X.env.kindOf x=some .free)->∃c,X.env.cells.lookup x=some c
 cab:∀x c,X.fn x=true->X.env.cells.lookup x=some c->X.s₀.heap.objs.size<=c
 hd:X.calm=true->X.A.handled=none
 frames:X.A.frames=some X.stack
 stk:X.stack=X.outer\/(X.stack=X.env::X.outer/\X.env.frame=some X.env.locals)
 exf:∀b∈X.ex,b≠X.env.locals/\∀x c,X.env.cells.lookup x=some c->c≠b
 bs:∀b o,X.base.get? b=some o->X.s₀.heap.get? b=some o/\X.H₀ b=none
 bsz:X.base.objs.size<=X.s₀.heap.objs.size
 noex:∀b o,X.base.get? b=some o->b∉X.ex
 exfs:∀b∈X.ex,b∉X.fs
 funs:X.s₀.heap.FunFrames X.base X.outer
 frf:∀b∈X.fs,X.H₀ b=none
structure Inv(X:Cx)(pins:List (Addr×Obj))(σ:List (Option V))(H:Hp)(s:l5):Prop where
 ok:X.Ok
 os:s.os=X.s₀.os
 bare:b0w s.gens
 base:Un X.fs X.ex X.H₀ H X.s₀.heap s.heap
 loc:∃m,s.heap.Ns X.env.locals m/\∀(i:Nat) (x:Str) (v:V),X.N[i]? = some x->σ[i]? = some (some v)->Vis X.env.scope x->∃u,E1 v u/\c7d X.env s.heap m x u
 cell:∀x c,X.env.cells.lookup x=some c->∃v,s.heap.IsCell c v
 free:H X.env.locals=none
 freeC:∀x c,X.env.cells.lookup x=some c->H c=none
 pin:∀p∈X.pn++pins,s.heap.get? p.1=some p.2/\H p.1=none/\p.1≠X.env.locals/\p.1∉X.fs/\∀v,p.2.data≠.cell v
 hok:HOk X.prog X.w H s.heap
 len:σ.length=X.N.length
section
variable {σ:List (Option V)}
theorem Cx.Ok.nofr(ok:X.Ok){o:Obj}(e:X.base.get? b=some o):b∉X.fs:=fun hb=>by
 have:=(ok.funs.mem hb).1
 rw[e]at this;cases this
theorem Inv.bs(I:Inv X pins σ H s):∀b o,X.base.get? b=some o->s.heap.get? b=some o/\H b=none:=fun b o e=>
 ⟨I.base.keep b o (I.ok.bs b o e).1 (I.ok.bs b o e).2 (I.ok.nofr e) (I.ok.noex b o e),I.base.free b o (I.ok.bs b o e).1 (I.ok.bs b o e).2 (I.ok.noex b o e)⟩
theorem Inv.bk(I:Inv X pins σ H s):∀b o,X.base.get? b=some o->s.heap.get? b=some o:=fun b o e=>(I.bs b o e).1
theorem Inv.mod(I:Inv X pins σ H s):Mod X.K X.mg X.base:=I.ok.mod
theorem Inv.kIn(I:Inv X pins σ H s):X.K.In s.heap:=I.ok.mod.kin.keeps I.bk
theorem Inv.lt(I:Inv X pins σ H s):X.env.locals<s.heap.objs.size:=let⟨_,hn,_⟩:=I.loc;hn.lt
theorem Inv.sz(I:Inv X pins σ H s):X.s₀.heap.objs.size<=s.heap.objs.size:=F6 I.ok.above (b6Z I.lt)
theorem Inv.nofs(I:Inv X pins σ H s)(h:s.heap.objs.size<=a):a∉X.fs:=fun hb=>by
 obtain⟨_,o,ho,_⟩:=I.ok.funs.mem hb
 exact absurd (A8 (l3 ho) (F6 I.sz h)) (G0 _)
theorem Inv.cne(I:Inv X pins σ H s):∀x c,X.env.cells.lookup x=some c->c≠X.env.locals:=fun x c e z=>by
 obtain⟨v,o,ho,hd⟩:=I.cell x c e
 obtain⟨m,⟨o',es,ep,ho',hd',_⟩,_⟩:=I.loc
 rw[z,ho']at ho;cases ho;rw[hd']at hd;cases hd
theorem Inv.funs(I:Inv X pins σ H s):s.heap.FunFrames X.base X.outer:=by
 have all:∀(l:List Env),(∀b∈frs l,b∈X.fs)->X.s₀.heap.FunFrames X.base l->s.heap.FunFrames X.base l:=by
  intro l
  induction l with
  | nil=>intro _ _;trivial
  | cons env r ih=>
   intro hs hl
   obtain⟨hk,⟨L,o,hf,hn,ho,hd⟩,hr⟩:=hl
   have hL:L∈X.fs:=hs L (by unfold frs;rw[a6H,hf];exact D8)
   obtain⟨sl,e⟩:=I.base.slot L o ho (I.ok.frf L hL) hL fun z=>I.ok.exfs L z hL
   exact⟨hk,⟨L,_,hf,hn,e,hd⟩,ih (fun b hb=>hs b (by unfold frs;rw[a6H,hf];exact A9 _ hb)) hr⟩
 exact all X.outer (fun _ hb=>hb) I.ok.funs
theorem Inv.stack(I:Inv X pins σ H s):s.heap.FunFrames X.base X.stack:=by
 rcases I.ok.stk with e | ⟨e,hf⟩
 ·rw[e];exact I.funs
 ·rw[e]
  obtain⟨m,hn,_⟩:=I.loc
  refine .cons (by rw[I.ok.kind];decide) hf hn ?_ I.funs
  exact Heap.get?_none_of_le (F6 I.ok.bsz I.ok.above)
theorem Inv.stkSub(I:Inv X pins σ H s):∀b∈frs X.stack,b∈X.env.locals::X.fs:=fun b hb=>by
 rcases I.ok.stk with e | ⟨e,hf⟩
 ·rw[e]at hb;exact A9 _ hb
 ·rw[e]at hb
  unfold frs at hb
  rw[a6H,hf]at hb
  exact hb
theorem Inv.stkFree(I:Inv X pins σ H s):∀b∈frs X.stack,H b=none:=fun b hb=>by
 rcases d5.mp (I.stkSub b hb)with e | hb
 ·rw[e];exact I.free
 ·obtain⟨_,o,ho,_⟩:=I.ok.funs.mem hb
  exact I.base.free b o ho (I.ok.frf b hb) fun z=>I.ok.exfs b z hb
theorem Inv.step{g':Array GenState}{t':Nat}{d':Drawn}{ch:List Addr}(I:Inv X pins σ H s)
  (hch:∀b∈ch,(b∈X.ex\/X.s₀.heap.objs.size<=b)/\b≠X.env.locals/\(∀x c,X.env.cells.lookup x=some c->c≠b)/\∀p∈X.pn++pins,p.1≠b)
  (keep:∀b o,b≠X.env.locals->b∉X.fs->b∉ch->s.heap.get? b=some o->H b=none->h'.get? b=some o)
  (slot:∀b o,b≠X.env.locals->b∈X.fs->b∉ch->s.heap.get? b=some o->H b=none->∃sl,h'.get? b=some { o with slots:=sl }) (free:∀b o,b∉ch->s.heap.get? b=some o->H b=none->H' b=none)
  (there:∀b o,b∉ch->s.heap.get? b=some o->∃o',h'.get? b=some o')
  (tups:∀b xs,H b=some (.tup xs)->H' b=some (.tup xs)) (frzs:∀b o u,H b=some (.frz o u)->H' b=some (.frz o u)) (tbls:∀b ps,H b=some (.tbl ps)->∃more,H' b=some (.tbl (ps++more)))
  (ns:∀m,s.heap.Ns X.env.locals m->h'.Ns X.env.locals m) (hok:HOk X.prog X.w H' h') (hg:b0w g') :
  Inv X pins σ H' { s with heap:=h',gens:=g',drawn:=d',toks:=t' }:=by
 have neL:∀b o,X.s₀.heap.get? b=some o->b≠X.env.locals:=fun b o e=>u7 (A8 (l3 e) I.ok.above)
 have neC:∀b o,X.s₀.heap.get? b=some o->b∉X.ex->b∉ch:=fun b o e hx hb=>by
  rcases(hch b hb).1 with z | z
  ·exact hx z
  ·exact absurd (A8 (l3 e) z) (G0 _)
 have cellK:∀x c,X.env.cells.lookup x=some c->∀v,s.heap.IsCell c v->h'.IsCell c v:=fun x c e v ⟨o,ho,hd⟩=>by
  have nch:c∉ch:=fun z=>(hch c z).2.2.1 x c e rfl
  by_cases hc:c∈X.fs
  ·obtain⟨sl,q⟩:=slot c o (I.cne x c e) hc nch ho (I.freeC x c e)
   exact⟨_,q,hd⟩
  ·exact⟨o,keep c o (I.cne x c e) hc nch ho (I.freeC x c e),hd⟩
 refine⟨I.ok,I.os,hg,⟨fun b o e n hb hx=>?_,fun b o e n hb hx=>?_,fun b o e n hx=>?_,fun b o e hx=>?_,fun b xs e=>tups b xs (I.base.tups b xs e),fun b o xs e=>frzs b o xs (I.base.frzs b o xs e),fun b ps e=>?_⟩,?_,fun x c e=>?_,?_,fun x c e=>?_,fun p hp=>?_,hok,I.len⟩
 ·exact keep b o (neL b o e) hb (neC b o e hx) (I.base.keep b o e n hb hx) (I.base.free b o e n hx)
 ·obtain⟨sl,e1⟩:=I.base.slot b o e n hb hx
  obtain⟨sl',e2⟩:=slot b _ (neL b o e) hb (neC b o e hx) e1 (I.base.free b o e n hx)
  exact⟨sl',e2⟩
 ·obtain⟨o',e1⟩:=I.base.there b o e hx
  exact free b o' (neC b o e hx) e1 (I.base.free b o e n hx)
 ·obtain⟨o',e1⟩:=I.base.there b o e hx
  exact there b o' (neC b o e hx) e1
 ·obtain⟨m1,e1⟩:=I.base.tbls b ps e
  obtain⟨m2,e2⟩:=tbls b _ e1
  exact⟨m1++m2,by rw[e2,Array.append_assoc]⟩
 ·obtain⟨m,hn,hl⟩:=I.loc
  refine⟨m,ns m hn,fun i x v e1 e2 e3=>?_⟩
  obtain⟨u,r,l⟩:=hl i x v e1 e2 e3
  refine⟨u,r,?_⟩
  rcases l with l | ⟨k,c,e,z⟩
  ·exact .inl l
  ·exact .inr ⟨k,c,e,cellK x c e _ z⟩
 ·obtain⟨v,z⟩:=I.cell x c e
  exact⟨v,cellK x c e v z⟩
 ·obtain⟨m,⟨o,_,_,ho,_⟩,_⟩:=I.loc
  exact free _ o (fun z=>(hch _ z).2.1 rfl) ho I.free
 ·obtain⟨v,o,ho,hd⟩:=I.cell x c e
  exact free c o (fun z=>(hch c z).2.2.1 x c e rfl) ho (I.freeC x c e)
 ·obtain⟨e,n,ne,nf,d⟩:=I.pin p hp
  have nch:p.1∉ch:=fun z=>(hch p.1 z).2.2.2 p hp rfl
  exact⟨keep p.1 p.2 ne nf nch e n,free p.1 p.2 nch e n,ne,nf,d⟩
theorem Inv.un(I:Inv X pins σ H s)(u:Un X.fs [] H H' s.heap h')(hok:HOk X.prog X.w H' h'):Inv X pins σ H' { s with heap:=h',toks:=t' }:=by
 obtain⟨m,⟨o,es,ep,ho,r⟩,_⟩:=id I.loc
 obtain⟨sl,hL⟩:=u.any ho I.free (by simp)
 exact I.step (g':=s.gens) (d':=s.drawn) (ch:=[]) (fun _ z=>nomatch z) (fun b o _ hb _ e n=>u.keep b o e n hb (by simp)) (fun b o _ hb _ e n=>u.slot b o e n hb (by simp)) (fun b o _ e n=>u.free b o e n (by simp)) (fun b o _ e=>u.there b o e (by simp)) u.tups u.frzs u.tbls (fun m' hm=>by
  obtain⟨o',es',ep',ho',r'⟩:=hm
  rw[ho]at ho';cases ho'
  exact⟨_,es',ep',hL,r'⟩) hok I.bare
theorem Inv.call{g':Array GenState}{d':Drawn}{ch:List Addr}(I:Inv X pins σ H s)(u:Un (frs X.stack) ch H H' s.heap h')(hok:HOk X.prog X.w H' h')(hg:b0w g')
  (hch:∀b∈ch,(b∈X.ex\/X.s₀.heap.objs.size<=b)/\b≠X.env.locals/\(∀x c,X.env.cells.lookup x=some c->c≠b)/\∀p∈X.pn++pins,p.1≠b) :
  Inv X pins σ H' { s with heap:=h',gens:=g',drawn:=d',toks:=t' }:=by
 obtain⟨m,⟨o,es,ep,ho,r⟩,_⟩:=id I.loc
 obtain⟨sl,hL⟩:=u.any ho I.free fun z=>(hch _ z).2.1 rfl
 exact I.step (ch:=ch) hch (fun b o hL hb hc e n=>u.keep b o e n (fun z=>(d5.mp (I.stkSub b z)).elim hL hb) hc) (fun b o _ _ hc e n=>u.any e n hc) (fun b o hc e n=>u.free b o e n hc) (fun b o hc e=>u.there b o e hc) u.tups u.frzs u.tbls (fun m' hm=>by
  obtain⟨o',es',ep',ho',r'⟩:=hm
  rw[ho]at ho';cases ho'
  exact⟨_,es',ep',hL,r'⟩) hok hg
theorem Inv.turned{it:Addr}(I:Inv X pins σ H s)(k:∀b o,b≠it->s.heap.get? b=some o->h'.get? b=some o)(hn:H it=none)(hL:it≠X.env.locals)
  (h1:it∈X.ex\/X.s₀.heap.objs.size<=it) (h2:∀x c,X.env.cells.lookup x=some c->c≠it) (h3:∀p∈X.pn++pins,p.1≠it):Inv X pins σ H { s with heap:=h',toks:=t' }:=by
 have nit:∀b u,H b=some u->b≠it:=fun b u e z=>by rw[z,hn]at e;cases e
 refine I.step (g':=s.gens) (d':=s.drawn) (ch:=[it]) (fun b hb=>?_) (fun b o _ _ hc e _=>k b o (fun z=>hc (by simp[z])) e) (fun b o _ _ hc e _=>⟨o.slots,k b o (fun z=>hc (by simp[z])) e⟩) (fun _ _ _ _ n=>n)
  (fun b o hc e=>⟨o,k b o (fun z=>hc (by simp[z])) e⟩) (fun _ _ e=>e) (fun _ _ _ e=>e) (fun b ps e=>⟨#[],by rw[e];simp⟩) (fun m hm=>?_) (fun b u e=>?_) I.bare
 ·have e:b=it:=by simpa using hb
  subst e
  exact⟨h1,hL,h2,h3⟩
 ·obtain⟨o,es,ep,ho,r⟩:=hm
  exact⟨o,es,ep,k _ o (Ne.symm hL) ho,r⟩
 ·refine(I.hok b u e).stay (fun c v hc q=>k c v ?_ q) (fun _ q=>q) fun _ _ q=>q
  rcases hc with z | z
  ·rw[z];exact nit b u e
  ·exact nit c _ z
theorem Inv.tok(I:Inv X pins σ H s)(t:Nat):Inv X pins σ H { s with toks:=t }:=I.un (h':=s.heap) (t':=t) Un.refl I.hok
theorem Inv.kept(I:Inv X pins σ H s)(k:∀b u,s.heap.get? b=some u->h'.get? b=some u):Inv X pins σ H { s with heap:=h',toks:=t' }:=I.un (Un.kept k) (I.hok.kept k)
theorem Inv.laid(I:Inv X pins σ H s)(k:∀b u,s.heap.get? b=some u->h'.get? b=some u)(hp:s.heap.objs.size<=a)(new:V9 X.prog X.w (upd H a o) h' a o) :
  Inv X pins σ (upd H a o) { s with heap:=h',toks:=t' }:=I.un (Un.laid k hp (I.hok.fresh hp)) (I.hok.laid k hp new)
theorem Inv.write{x e:Addr}(I:Inv X pins σ H s)(mu:Mut (H x))(he:e=x\/H e=some (.own x))(k:∀b u,b≠e->s.heap.get? b=some u->h'.get? b=some u)(heo:∃u,h'.get? e=some u)
  (new:V9 X.prog X.w (upd H x o) h' x o):Inv X pins σ (upd H x o) { s with heap:=h',toks:=t' }:=I.un (Un.write mu he k heo) (I.hok.write mu he k heo new)
theorem Inv.weak{σ':List (Option V)}(I:Inv X pins σ H s)(hl:σ'.length=σ.length)(w:∀(i:Nat) v,σ'[i]? = some (some v)->σ[i]? = some (some v)):Inv X pins σ' H s:=
 ⟨I.ok,I.os,I.bare,I.base,let⟨m,hn,hl'⟩:=I.loc; ⟨m,hn,fun i x v e1 e2 e3=>hl' i x v e1 (w i v e2) e3⟩,I.cell,I.free,I.freeC,I.pin,I.hok,hl.trans I.len⟩
theorem Inv.pins_of{pins':List (Addr×Obj)}(I:Inv X pins σ H s)(h:∀p∈pins',s.heap.get? p.1=some p.2/\H p.1=none/\p.1≠X.env.locals/\p.1∉X.fs/\∀v,p.2.data≠.cell v):Inv X pins' σ H s:=
 ⟨I.ok,I.os,I.bare,I.base,I.loc,I.cell,I.free,I.freeC,fun p hp=>(u8.mp hp).elim (fun z=>I.pin p (C9 _ z)) (h p),I.hok,I.len⟩
theorem b2U{N:List Str}(hN:N.Nodup){j:Nat}{x:Str}(a:N[i]? = some x)(b:N[j]? = some x):i=j:=by
 obtain⟨h1,e1⟩:=o3.mp a
 obtain⟨h2,e2⟩:=o3.mp b
 exact(List.getElem_inj hN).mp (e1.trans e2.symm)
theorem b0d{M:Model}{A:G8}{E:Value->l5->Prop}{x:Str}{Q:Unit->l5->Prop}(I:Inv X pins σ H s)(hN:X.N.Nodup)(hi:X.N[i]? = some x)(hx:Loc X.env.scope x)(r:E1 v u)
  (h:∀s',Inv X pins (σ.set i (some v)) H s'->(∃a,Heap.SameBut a s.heap s'.heap/\(a=X.env.locals\/X.env.cells.lookup x=some a))->Q () s') (hf:X.fn x=true\/X.env.scope.names.lookup x=some .local:=by first | exact .inl rfl | exact .inr rfl | assumption):wpAny M A (storeName X.env x u) Q E s:=by
 obtain⟨m,hn,hl⟩:=id I.loc
 have hcls:(X.env.scope.kind == .class||(X.env.scope.kind == .module&&X.env.locals != X.env.globals))=false:=by rw[I.ok.kind];rfl
 have hiσ:i<σ.length:=by rw[I.len];exact(o3.mp hi).1
 have cne:=I.cne
 have tracked:∀ {a:Addr} {h':Heap},(∃o,s.heap.get? a=some o/\H a=none)->Heap.SameBut a s.heap h'->HOk X.prog X.w H h':=fun {a h'} ha hs b ob e=>by
  obtain⟨_,_,hfree⟩:=ha
  refine(I.hok b ob e).stay (fun c w' hc q=>(hs.2 c ?_).trans q) (fun _ q=>q) fun _ _ q=>q
  rintro rfl
  rcases hc with rfl | hc
  ·rw[hfree]at e;cases e
  ·rw[hfree]at hc;cases hc
 rcases hx with hk | hk
 ·refine wpAny_storeName_local hk hn (fun h' hn' hs=>?_) hcls
  obtain⟨oL,_,_,hoL,_⟩:=id hn
  refine h _ ⟨I.ok,I.os,I.bare,⟨fun b o e n hb hx=>?_,fun b o e n hb hx=>?_,I.base.free,fun b o e hx=>?_,I.base.tups,I.base.frzs,I.base.tbls⟩,⟨_,hn',fun j y v' e1 e2 e3=>?_⟩,fun y c e=>?_,I.free,I.freeC,fun p hp=>?_,tracked ⟨oL,hoL,I.free⟩ hs,by simpa using I.len⟩ ⟨_,hs,.inl rfl⟩
  ·exact(hs.2 b (u7 (A8 (l3 e) I.ok.above))).trans (I.base.keep b o e n hb hx)
  ·obtain⟨sl,e1⟩:=I.base.slot b o e n hb hx
   exact⟨sl,(hs.2 b (u7 (A8 (l3 e) I.ok.above))).trans e1⟩
  ·obtain⟨o',e1⟩:=I.base.there b o e hx
   exact⟨o',(hs.2 b (u7 (A8 (l3 e) I.ok.above))).trans e1⟩
  ·by_cases hj:j=i
   ·subst hj
    rw[hi]at e1;cases e1
    rw[J9 hiσ]at e2
    cases e2
    exact⟨u,r,.inl ⟨hk,by simp⟩⟩
   ·rw[L9 (Ne.symm hj)]at e2
    obtain⟨u',r',q⟩:=hl j y v' e1 e2 e3
    refine⟨u',r',?_⟩
    rcases q with ⟨k,e⟩ | ⟨k,c,e,z⟩
    ·refine .inl ⟨k,?_⟩
     have:y≠x:=fun e=>hj (b2U hN e1 (e ▸ hi))
     simp[this,e]
    ·exact .inr ⟨k,c,e,z.sameBut hs (cne y c e)⟩
  ·obtain⟨w',z⟩:=I.cell y c e
   exact⟨w',z.sameBut hs (cne y c e)⟩
  ·obtain⟨e,n,ne,nf,d⟩:=I.pin p hp
   exact⟨(hs.2 p.1 ne).trans e,n,ne,nf,d⟩
 ·have hfn:X.fn x=true:=by
   rcases hf with z | z
   ·exact z
   ·rw[z]at hk;cases hk
  obtain⟨c,hc⟩:=I.ok.has x (.inl hk)
  obtain⟨w',z⟩:=I.cell x c hc
  refine wpAny_storeName_cell I.ok.kind hk hc z (fun h' hc' hs=>?_)
  obtain⟨oc,hoc,hocd⟩:=id z
  refine h { s with heap:=h' } ⟨I.ok,I.os,I.bare,⟨fun b o e n hb hx=>?_,fun b o e n hb hx=>?_,I.base.free,fun b o e hx=>?_,I.base.tups,I.base.frzs,I.base.tbls⟩,⟨m,hn.sameBut hs (Ne.symm (cne x c hc)),fun j y v' e1 e2 e3=>?_⟩,fun y c' e=>?_,I.free,I.freeC,fun p hp=>?_,tracked ⟨oc,hoc,I.freeC x c hc⟩ hs,by simpa using I.len⟩ ⟨c,hs,.inr hc⟩
  ·exact(hs.2 b (u7 (A8 (l3 e) (I.ok.cab x c hfn hc)))).trans (I.base.keep b o e n hb hx)
  ·obtain⟨sl,e1⟩:=I.base.slot b o e n hb hx
   exact⟨sl,(hs.2 b (u7 (A8 (l3 e) (I.ok.cab x c hfn hc)))).trans e1⟩
  ·obtain⟨o',e1⟩:=I.base.there b o e hx
   exact⟨o',(hs.2 b (u7 (A8 (l3 e) (I.ok.cab x c hfn hc)))).trans e1⟩
  ·by_cases hj:j=i
   ·subst hj
    rw[hi]at e1;cases e1
    rw[J9 hiσ]at e2
    cases e2
    exact⟨u,r,.inr ⟨.inl hk,c,hc,hc'⟩⟩
   ·rw[L9 (Ne.symm hj)]at e2
    obtain⟨u',r',q⟩:=hl j y v' e1 e2 e3
    refine⟨u',r',?_⟩
    rcases q with q | ⟨k,c',e,z'⟩
    ·exact .inl q
    ·refine .inr ⟨k,c',e,z'.sameBut hs ?_⟩
     rintro rfl
     exact hj (b2U hN e1 (I.ok.inj _ _ _ e hc ▸ hi))
  ·by_cases hcc:c'=c
   ·subst hcc;exact⟨_,hc'⟩
   ·obtain⟨w2,z2⟩:=I.cell y c' e
    exact⟨w2,z2.sameBut hs hcc⟩
  ·obtain⟨e,n,ne,nf,d⟩:=I.pin p hp
   refine⟨(hs.2 p.1 ?_).trans e,n,ne,nf,d⟩
   intro q
   rw[q,hoc]at e
   have q':oc=p.2:=Option.some.inj e
   exact d w' (by rw[<-q'];exact hocd)
theorem a6c{M:Model}{A:G8}{E:Value->l5->Prop}{x:Str}{Q:Unit->l5->Prop}(I:Inv X pins σ H s)(hN:X.N.Nodup)(hi:X.N[i]? = some x)(hx:Loc X.env.scope x)(r:E1 v u)
  (h:∀s',Inv X pins (σ.set i (some v)) H s'->Q () s') (hf:X.fn x=true\/X.env.scope.names.lookup x=some .local:=by first | exact .inl rfl | exact .inr rfl | assumption):wpAny M A (storeName X.env x u) Q E s:=
 b0d I hN hi hx r (fun s' I' _=>h s' I') hf
theorem Inv.call'{s':l5}{ch:List Addr}(I:Inv X pins σ H s)(ho:s'.os=s.os)(u:Un (frs X.stack) ch H H' s.heap s'.heap)(hok:HOk X.prog X.w H' s'.heap)(hg:b0w s'.gens)
  (hch:∀b∈ch,(b∈X.ex\/X.s₀.heap.objs.size<=b)/\b≠X.env.locals/\(∀x c,X.env.cells.lookup x=some c->c≠b)/\∀p∈X.pn++pins,p.1≠b):Inv X pins σ H' s':=by
 obtain⟨h',g',d',t',o'⟩:=s'
 have e:o'=s.os:=ho
 subst e
 exact I.call (g':=g') (t':=t') (d':=d') u hok hg hch
end
abbrev XK:=Value->Option Addr->Hp->Prop
abbrev St:=List (Option V)
variable{σ:St}
abbrev VK:=V->Hp->Prop
abbrev TE:=St->Hp->VK->Prop
variable{ta te:TE}
abbrev TT:=St->Hp->(Bool->Hp->Prop)->Prop
abbrev TA:=St->Hp->(List V->Hp->Prop)->Prop
structure a6E where
 nx:St->Hp->Prop
 rt:VK
 bk:St->Hp->Prop:=fun _ _=>False
 ct:St->Hp->Prop:=fun _ _=>False
abbrev TS:=a6E->St->Hp->Prop
variable{tb:TS}
def EP(X:Cx)(pins:List (Addr×Obj))(σ:St)(Q:VK)(u:Value)(s':l5):Prop:=∃v H',Inv X pins σ H' s'/\E1 v u/\Q v H'
def TP(X:Cx)(pins:List (Addr×Obj))(σ:St)(Q:Bool->Hp->Prop)(b:Bool)(s':l5):Prop:=∃H',Inv X pins σ H' s'/\Q b H'
def AP(X:Cx)(pins:List (Addr×Obj))(σ:St)(Q:List V->Hp->Prop)(us:List Value)(s':l5):Prop:=∃vs H',Inv X pins σ H' s'/\E4 vs us/\Q vs H'
def SP(X:Cx)(pins:List (Addr×Obj))(D:a6E)(f:Flow)(s':l5):Prop:=
 match f with
 | .next=>∃σ' H',Inv X pins σ' H' s'/\D.nx σ' H'
 | .brk=>∃σ' H',Inv X pins σ' H' s'/\D.bk σ' H'
 | .cont=>∃σ' H',Inv X pins σ' H' s'/\D.ct σ' H'
 | .ret u=>∃v σ' H',Inv X pins σ' H' s'/\E1 v u/\D.rt v H'
def PE(X:Cx)(e:Expr)(t:TE):Prop:=
 ∀(pins:List (Addr×Obj)) (s:l5) (σ:St) (H:Hp) (Q:VK),Inv X pins σ H s->t σ H Q->wpAny (model X.prog X.w) X.A (eval e X.env) (EP X pins σ Q) X.xe s
def PT(X:Cx)(e:Expr)(t:TT):Prop:=
 ∀(pins:List (Addr×Obj)) (s:l5) (σ:St) (H:Hp) (Q:Bool->Hp->Prop),Inv X pins σ H s->t σ H Q->wpAny (model X.prog X.w) X.A (isTrue e X.env (eval e X.env)) (TP X pins σ Q) X.xe s
def PW(X:Cx)(e:Expr)(t:TT):Prop:=
 ∀(whole:Sem Value) (pins:List (Addr×Obj)) (s:l5) (σ:St) (H:Hp) (Q:Bool->Hp->Prop),Inv X pins σ H s->t σ H Q->wpAny (model X.prog X.w) X.A (isTrue e X.env whole) (TP X pins σ Q) X.xe s
theorem PW.pt{t:TT}(h:PW X e t):PT X e t:=h _
def PA(X:Cx)(es:List Expr)(t:TA):Prop:=
 ∀(pos:Pos) (pins:List (Addr×Obj)) (s:l5) (σ:St) (H:Hp) (Q:List V->Hp->Prop),Inv X pins σ H s->t σ H Q->wpAny (model X.prog X.w) X.A (spliced (W8 pos (i8 es X.env))) (AP X pins σ Q) X.xe s
def PS(X:Cx)(st:Stmt)(t:TS):Prop:=
 ∀(pins:List (Addr×Obj)) (s:l5) (σ:St) (H:Hp) (D:a6E),Inv X pins σ H s->t D σ H->wpAny (model X.prog X.w) X.A (exec st X.env) (SP X pins D) X.xe s
def PSs(X:Cx)(st:List Stmt)(t:TS):Prop:=
 ∀(pins:List (Addr×Obj)) (s:l5) (σ:St) (H:Hp) (D:a6E),Inv X pins σ H s->t D σ H->wpAny (model X.prog X.w) X.A (execs st X.env) (SP X pins D) X.xe s
theorem thn{α:Type}{t:Sem α}{Q Q':α->l5->Prop}{M:Model}{A:G8}{E:Value->l5->Prop}(h:wpAny M A t Q E s)(hQ:∀a s,Q a s->Q' a s):wpAny M A t Q' E s:=a0K h hQ fun _ _ x=>x
section
def c6(i:Nat):TE:=fun σ H Q=>∃v,σ[i]? = some (some v)/\Q v H
def tC(v:V):TE:=fun _ H Q=>Q v H
theorem c3M{x:Str}(hN:X.N[i]? = some x)(hv:Vis X.env.scope x)(hd:(x == ("__debug__" : Str))=false:=by decide)(hcd:(x == ("__classdict__" : Str))=false:=by decide):PE X (.Name x pos) (c6 i):=by
 intro pins s σ H Q I h
 obtain⟨v,e,h⟩:=h
 obtain⟨m,hn,hl⟩:=I.loc
 obtain⟨u,r,l⟩:=hl i x v hN e hv
 have fin:EP X pins σ Q u s:=⟨v,H,I,r,h⟩
 rcases l with ⟨hk,hm⟩ | ⟨hk,c,hc,hcell⟩
 ·exact wpAny_Name (c6H I.ok.kind hk hn hm fin) hd
 ·rcases hk with hk | hk
  ·exact wpAny_Name (c6I I.ok.kind hk hc hcell fin) hd
  ·exact wpAny_Name (wpAny_loadName_free I.ok.kind hk hc hcell fin hcd) hd
theorem c3V{i j pos}:PE X (.Constant (.int i) j pos) (tC (.int i)):=fun _ _ _ H _ I h=>wpAny_Constant_int ⟨.int i,H,I.tok _,⟨_,rfl⟩,h⟩
theorem c6i{b j pos}:PE X (.Constant (.bool b) j pos) (tC (.bl b)):=fun _ _ _ H _ I h=>Constant_bool ⟨.bl b,H,I,rfl,h⟩
theorem c3S{j pos}:PE X (.Constant .none j pos) (tC .non):=fun _ _ _ H _ I h=>Constant_none ⟨.non,H,I,rfl,h⟩
theorem c3O{x j pos}:PE X (.Constant (.str x) j pos) (tC (.str x)):=fun _ _ _ H _ I h=>Calls.Constant_str ⟨.str x,H,I.tok _,⟨_,rfl⟩,h⟩
def Gl(X:Cx)(x:Str):Prop:=X.env.kindOf x=some .globalImplicit
theorem b1q{E:Value->l5->Prop}{x:Str}(I:Inv X pins σ H s)(hg:Gl X x)(hm:X.mg x=some u)(h:Q u s)
  (hd:(x == ("__debug__" : Str))=false:=by decide):wpAny (model X.prog X.w) X.A (eval (.Name x pos) X.env) Q E s:=
 Calls.Name_function_global I.ok.kind hg (Calls.loadGlobal_global (by rw[I.ok.glob];exact I.mod.glob.keeps I.bk) hm h) hd
theorem a4v{E:Value->l5->Prop}{x:Str}(I:Inv X pins σ H s)(hg:Gl X x)(hm:X.mg x=none)(hv:R4 x=some u)(h:Q u s)
  (hn:x ≠ "__name__" := by decide) (hd:(x == ("__debug__" : Str))=false:=by decide):wpAny (model X.prog X.w) X.A (eval (.Name x pos) X.env) Q E s:=by
 obtain⟨mb,h1,h2⟩:=I.mod.blt
 exact Calls.Name_function_global I.ok.kind hg (Calls.loadGlobal_builtin (by rw[I.ok.glob];exact I.mod.glob.keeps I.bk) hm (by rw[I.ok.blt];exact h1.keeps I.bk) ((h2 x hn).trans hv) h) hd
theorem c0W{x:Str}(hg:Gl X x)(hm:X.mg x=some u)(r:E1 v u)(hd:(x == ("__debug__" : Str))=false:=by decide):PE X (.Name x pos) (tC v):=
 fun _ _ _ H _ I h=>b1q I hg hm ⟨v,H,I,r,h⟩ hd
theorem c1b{x:Str}(hg:Gl X x)(hm:X.mg x=none)(hv:R4 x=some u)(r:E1 v u)(hn:x ≠ "__name__" := by decide)(hd:(x == ("__debug__" : Str))=false:=by decide):PE X (.Name x pos) (tC v):=
 fun _ _ _ H _ I h=>a4v I hg hm hv ⟨v,H,I,r,h⟩ hn hd
variable {a b:Expr}{tb:TE}
def PC(X:Cx)(op:CmpOp)(a b:Expr)(t:TE):Prop:=
 ∀(pins:List (Addr×Obj)) (s:l5) (σ:St) (H:Hp) (Q:VK),Inv X pins σ H s->t σ H Q ->
  wpAny (model X.prog X.w) X.A (eval a X.env) (fun v s₁=>wpAny (model X.prog X.w) X.A (eval b X.env) (fun u s₂=>wpAny (model X.prog X.w) X.A (u6 op v u) (EP X pins σ Q) X.xe s₂) X.xe s₁) X.xe s
def tB(t:TE):TT:=fun σ H Q=>t σ H fun x H1=>∃c,x=.bl c/\Q c H1
theorem c3X{op:CmpOp}{t:TE}(h:PC X op a b t)(h1:O3 op b=false:=by first | exact nobehind _ (by decide) (by decide) | rfl):PE X (.Compare a [op] [b] pos) t:=fun pins s σ H Q I hw=>wpAny_Compare1 (h pins s σ H Q I hw) h1
theorem b8w{op:CmpOp}{t:TE}(h:PC X op a b t)(h1:O3 op b=false:=by first | exact nobehind _ (by decide) (by decide) | rfl):PT X (.Compare a [op] [b] pos) (tB t):=by
 intro pins s σ H Q I hw
 refine c5t (thn (h pins s σ H _ I hw) fun v s1 h1=>thn h1 fun u s2 h2=>thn h2 fun c s3 ⟨x,H1,I1,r1,q1⟩=>?_) h1
 obtain⟨d,rfl,q⟩:=q1
 cases r1
 exact J0 ⟨H1,I1,q⟩
theorem c3A{t:TE}(h:PE X e t)(he:∀whole,isTrue e X.env whole=(do let v <-whole;b7j e.pos;a3U [v] (truthy v)):=by intro _;rfl):PT X e (tB t):=by
 intro pins s σ H Q I hw
 refine isTrue_plain (thn (h pins s σ H _ I hw) fun v s1 ⟨x,H1,I1,r1,q1⟩=>?_) (he _)
 obtain⟨d,rfl,q⟩:=q1
 cases r1
 exact J0 ⟨H1,I1,q⟩
variable {tA tB':TT}{rest:List Expr}
def a9A(t u:TT):TT:=fun σ H Q=>t σ H fun c H1=>if c=true then u σ H1 Q else Q false H1
def tOr(t u:TT):TT:=fun σ H Q=>t σ H fun c H1=>if c=true then Q true H1 else u σ H1 Q
def a4b(t:TT):TT:=fun σ H Q=>t σ H fun c H1=>Q (!c) H1
theorem c0D(ha:PT X a tA):PW X (.BoolOp .And [a] pos) tA:=by
 intro wh pins s σ H Q I h
 refine isTrue_and (thn (ha pins s σ H Q I h) fun c s1 e=>?_)
 cases c with
 | true=>exact isTrue_and_nil e
 | false=>exact e
theorem c3y(ha:PT X a tA):PW X (.BoolOp .Or [a] pos) tA:=by
 intro wh pins s σ H Q I h
 refine isTrue_or (thn (ha pins s σ H Q I h) fun c s1 e=>?_)
 cases c with
 | false=>exact isTrue_or_nil e
 | true=>exact e
theorem c3z(ha:PT X a tA)(hb:PW X (.BoolOp .And (b::rest) pos) tB'):PW X (.BoolOp .And (a::b::rest) pos) (a9A tA tB'):=by
 intro wh pins s σ H Q I h
 refine isTrue_and (thn (ha pins s σ H _ I h) fun c s1 ⟨H1,I1,q1⟩=>?_)
 cases c with
 | true=>exact hb wh pins s1 σ H1 Q I1 q1
 | false=>exact⟨H1,I1,q1⟩
theorem c6b(ha:PT X a tA)(hb:PW X (.BoolOp .Or (b::rest) pos) tB'):PW X (.BoolOp .Or (a::b::rest) pos) (tOr tA tB'):=by
 intro wh pins s σ H Q I h
 refine isTrue_or (thn (ha pins s σ H _ I h) fun c s1 ⟨H1,I1,q1⟩=>?_)
 cases c with
 | true=>exact⟨H1,I1,q1⟩
 | false=>exact hb wh pins s1 σ H1 Q I1 q1
theorem c3B(ha:PT X a tA):PT X (.UnaryOp .Not a pos) (a4b tA):=by
 intro pins s σ H Q I h
 exact isTrue_not (ha pins s σ H (fun c H1=>Q (!c) H1) I h)
def a0a(ta tb:TE):TE:=fun σ H Q=>ta σ H fun x H1=>∃c,x=.bl c/\if c=true then tb σ H1 Q else Q (.bl false) H1
def c0m(ta tb:TE):TE:=fun σ H Q=>ta σ H fun x H1=>∃c,x=.bl c/\if c=true then Q (.bl true) H1 else tb σ H1 Q
def b2v(ta:TE):TE:=fun σ H Q=>ta σ H fun x H1=>∃c,x=.bl c/\Q (.bl (!c)) H1
theorem c3Q{op}{t:TE}(h:PE X a t):PE X (.BoolOp op [a] pos) t:=fun pins s σ H Q I hw=>BoolOp_one (h pins s σ H Q I hw)
theorem c3Z(ha:PE X a ta)(hb:PE X (.BoolOp .And (b::rest) pos) tb):PE X (.BoolOp .And (a::b::rest) pos) (a0a ta tb):=by
 intro pins s σ H Q I h
 refine BoolOp_and (thn (ha pins s σ H _ I h) fun v s1 ⟨x,H1,I1,r1,q1⟩=>?_)
 obtain⟨c,rfl,q1⟩:=q1
 cases r1
 refine J0 ?_
 cases c with
 | true=>exact hb pins s1 σ H1 Q I1 q1
 | false=>exact⟨.bl false,H1,I1,rfl,q1⟩
theorem c6d(ha:PE X a ta)(hb:PE X (.BoolOp .Or (b::rest) pos) tb):PE X (.BoolOp .Or (a::b::rest) pos) (c0m ta tb):=by
 intro pins s σ H Q I h
 refine BoolOp_or (thn (ha pins s σ H _ I h) fun v s1 ⟨x,H1,I1,r1,q1⟩=>?_)
 obtain⟨c,rfl,q1⟩:=q1
 cases r1
 refine J0 ?_
 cases c with
 | false=>exact hb pins s1 σ H1 Q I1 q1
 | true=>exact⟨.bl true,H1,I1,rfl,q1⟩
theorem c3R(ha:PE X a ta):PE X (.UnaryOp .Not a pos) (b2v ta):=by
 intro pins s σ H Q I h
 refine UnaryOp_ (thn (ha pins s σ H _ I h) fun v s1 ⟨x,H1,I1,r1,q1⟩=>?_)
 obtain⟨c,rfl,q1⟩:=q1
 cases r1
 exact not_of (J0 ⟨.bl (!c),H1,I1,rfl,q1⟩)
def tIf(t:TT)(ta tb:TE):TE:=fun σ H Q=>t σ H fun c H1=>if c=true then ta σ H1 Q else tb σ H1 Q
theorem b8F(hc:PT X c tA)(ha:PE X a ta)(hb:PE X b tb):PE X (.IfExp c a b pos) (tIf tA ta tb):=by
 intro pins s σ H Q I h
 refine wpAny_IfExp (thn (hc pins s σ H _ I h) fun d s1 ⟨H1,I1,q1⟩=>?_)
 cases d with
 | true=>exact ha pins s1 σ H1 Q I1 q1
 | false=>exact hb pins s1 σ H1 Q I1 q1
end
def SqL(K:Fg)(H:Hp)(a:Addr)(xs:List V):Prop:=
 Rd H a (.lst xs) \/
  ∃(o:Obj) (its:Array Value) (n:Nat),K.lookup a=some o/\o.cls=.type "list" /\ o.dict=none/\o.data=.seq its n/\its.size<=q9/\E4 xs its.toList
def SqT(K:Fg)(H:Hp)(a:Addr)(xs:List V):Prop:=
 Rd H a (.tup xs) \/
  ∃(o:Obj) (its:Array Value) (n:Nat),K.lookup a=some o/\o.cls=.type "tuple" /\ o.data=.seq its n/\its.size<=q9/\E4 xs its.toList
def c7b:Value->Option V
 | .none=>some .non
 | .bool b=>some (.bl b)
 | .int i _=>some (.int i)
 | .str x _=>some (.str x)
 | .bytes b _=>some (.byt b)
 | .float b _=>some (.flt b)
 | .ref a=>some (.ref a)
 | .type n=>some (.ty n)
 | _=>none
theorem E1.abs{x:V}(r:E1 x u):c7b u=some x:=by
 cases x with
 | non=>cases r;rfl
 | bl _=>cases r;rfl
 | int _=>obtain⟨t,rfl⟩:=r;rfl
 | str _=>obtain⟨t,rfl⟩:=r;rfl
 | byt _=>obtain⟨t,rfl⟩:=r;rfl
 | flt _=>obtain⟨t,rfl⟩:=r;rfl
 | ref _=>cases r;rfl
 | ty _=>cases r;rfl
theorem E1.inj{x:V}(r:E1 x u)(q:E1 y u):x=y:=Option.some.inj (r.abs.symm.trans q.abs)
theorem E4.inj:∀ {xs ys:List V} {us:List Value},E4 xs us->E4 ys us->xs=ys
 | _,_,_,.nil,.nil=>rfl
 | _,_,_,.cons r t,.cons r' t'=>by rw[r.inj r',E4.inj t t']
section
variable {ys:List V}
theorem SqL.of{K:Fg}(h:H a=some (.lst xs)):SqL K H a xs:=.inl (.inl h)
theorem SqT.of{K:Fg}(h:H a=some (.tup xs)):SqT K H a xs:=.inl (.inl h)
theorem Inv.list(I:Inv X pins σ H s)(h:SqL X.K H a xs):∃its:List Value,E4 xs its/\PlainL s.heap a its.toArray/\xs.length<=q9:=by
 rcases h with h | ⟨o,its,n,hk,hc,hd,hs,hz,r⟩
 ·obtain⟨z,its,n,r,e⟩:=h.ok I.hok
  exact⟨its,r,⟨_,n,e,rfl,rfl,rfl⟩,z⟩
 ·refine⟨its.toList,r,⟨o,n,I.kIn a o hk,hc,hd,by simpa using hs⟩,?_⟩
  have e:=r.length
  simp only[a0q]at e
  omega
theorem Inv.tuple(I:Inv X pins σ H s)(h:SqT X.K H a xs):∃its:List Value,E4 xs its/\IsTup s.heap a its.toArray/\xs.length<=q9:=by
 rcases h with h | ⟨o,its,n,hk,hc,hs,hz,r⟩
 ·obtain⟨z,its,r,p⟩:=h.ok I.hok
  exact⟨its,r,p,z⟩
 ·refine⟨its.toList,r,⟨o,I.kIn a o hk,hc,n,by simpa using hs⟩,?_⟩
  have e:=r.length
  simp only[a0q]at e
  omega
theorem Inv.list_inj(I:Inv X pins σ H s)(h:SqL X.K H a xs)(h':SqL X.K H a ys):xs=ys:=by
 obtain⟨its,r,⟨o,n,e,_,_,d⟩,_⟩:=I.list h
 obtain⟨its',r',⟨o',n',e',_,_,d'⟩,_⟩:=I.list h'
 rw[e]at e';cases e'
 rw[d]at d'
 injection d' with d1 _
 have:its=its':=by simpa using congrArg Array.toList d1
 subst this
 exact r.inj r'
end
abbrev Cx.wish(X:Cx)(E:Value->l5->Prop):Cx:={ X with xe:=E }
abbrev Cx.nox(X:Cx):Cx:=X.wish fun _ _=>False
theorem Cx.Ok.wish(ok:X.Ok)(E:Value->l5->Prop):(X.wish E).Ok:=
 ⟨ok.mod,ok.kind,ok.glob,ok.blt,ok.above,ok.inj,ok.has,ok.cab,ok.hd,ok.frames,ok.stk,ok.exf,ok.bs,ok.bsz,ok.noex,ok.exfs,ok.funs,ok.frf⟩
theorem Cx.Ok.unwish{E:Value->l5->Prop}(ok:(X.wish E).Ok):X.Ok:=
 ⟨ok.mod,ok.kind,ok.glob,ok.blt,ok.above,ok.inj,ok.has,ok.cab,ok.hd,ok.frames,ok.stk,ok.exf,ok.bs,ok.bsz,ok.noex,ok.exfs,ok.funs,ok.frf⟩
section
variable {E:Value->l5->Prop}
theorem Inv.wish(I:Inv X pins σ H s)(E:Value->l5->Prop):Inv (X.wish E) pins σ H s:=⟨I.ok.wish E,I.os,I.bare,I.base,I.loc,I.cell,I.free,I.freeC,I.pin,I.hok,I.len⟩
theorem Inv.unwish(I:Inv (X.wish E) pins σ H s):Inv X pins σ H s:=⟨I.ok.unwish,I.os,I.bare,I.base,I.loc,I.cell,I.free,I.freeC,I.pin,I.hok,I.len⟩
theorem SP.unwish{D:a6E}{f:Flow}{s':l5}(h:SP (X.wish E) pins D f s'):SP X pins D f s':=by
 cases f with
 | next=>obtain⟨σ',H',I,q⟩:=h;exact⟨σ',H',I.unwish,q⟩
 | brk=>obtain⟨σ',H',I,q⟩:=h;exact⟨σ',H',I.unwish,q⟩
 | cont=>obtain⟨σ',H',I,q⟩:=h;exact⟨σ',H',I.unwish,q⟩
 | ret u=>obtain⟨v,σ',H',I,r,q⟩:=h;exact⟨v,σ',H',I.unwish,r,q⟩
theorem PSs.nox{st:List Stmt}{t:TS}(h:PSs X.nox st t):PSs X st t:=fun pins s σ H D I hw=>
 a0K (h pins s σ H D (I.wish _) hw) (fun _ _ q=>q.unwish) fun _ _ z=>False.elim z
end
section
variable {st:Stmt}{rest:List Stmt}{t u:TS}
def D3:TS:=fun D σ H=>D.nx σ H
def z6(t u:TS):TS:=fun D σ H=>t { D with nx:=u D } σ H
theorem c0J:PSs X [] D3:=fun _ _ σ H _ I h=>a8l ⟨σ,H,I,h⟩
theorem b8y(h1:PS X st t)(h2:PSs X rest u):PSs X (st::rest) (z6 t u):=by
 intro pins s σ H D I h
 refine wpAny_execs_cons (thn (h1 pins s σ H { D with nx:=u D } I h) fun f s1 q=>?_)
 cases f with
 | next=>
  obtain⟨σ',H',I',q⟩:=q
  exact h2 pins s1 σ' H' D I' q
 | ret v=>exact q
 | brk=>exact q
 | cont=>exact q
theorem c0I(h1:PS X st t):PSs X [st] t:=by
 intro pins s σ H D I h
 refine wpAny_execs_cons (thn (h1 pins s σ H D I h) fun f s1 q=>?_)
 cases f with
 | next=>exact a8l q
 | ret v=>exact q
 | brk=>exact q
 | cont=>exact q
theorem Inv.quiet(I:Inv X pins σ H s):interactive X.env=false:=by simp[interactive,I.ok.kind]
def a0B(te:TE):TS:=fun D σ H=>te σ H fun _ H1=>D.nx σ H1
theorem c0K(he:PE X e te)(hs:a1S e none pos.line X.env=pure false:=by rfl):PS X (.Expr e pos) (a0B te):=by
 intro pins s σ H D I h
 exact wpAny_Expr_any (thn (he pins s σ H _ I h) fun v s1 ⟨x,H1,I1,r1,q1⟩=>⟨σ,H1,I1,q1⟩) I.quiet hs
def F8(te:TE):TS:=fun D σ H=>te σ H D.rt
theorem c3D(he:PE X e te):PS X (.Return (some e) pos) (F8 te):=by
 intro pins s σ H D I h
 exact wpAny_Return_some (thn (he pins s σ H _ I h) fun v s1 ⟨x,H1,I1,r1,q1⟩=>⟨x,σ,H1,I1,r1,q1⟩)
def K6(c:TT)(t u:TS):TS:=fun D σ H=>c σ H fun b H1=>if b=true then t D σ H1 else u D σ H1
theorem c6c{a b:List Stmt}{tc:TT}(hc:PT X c tc)(ha:PSs X a t)(hb:PSs X b u):PS X (.If c a b pos) (K6 tc t u):=by
 intro pins s σ H D I h
 refine wpAny_If (thn (hc pins s σ H _ I h) fun d s1 ⟨H1,I1,q1⟩=>?_)
 cases d with
 | true=>exact ha pins s1 σ H1 D I1 q1
 | false=>exact hb pins s1 σ H1 D I1 q1
end
abbrev TG:=V->St->Hp->(St->Hp->Prop)->Prop
variable{g:TG}
abbrev TGs:=List V->St->Hp->(St->Hp->Prop)->Prop
def PG(X:Cx)(target:Expr)(t:TG):Prop:=
 ∀(pins:List (Addr×Obj)) (s:l5) (σ:St) (H:Hp) (v:V) (u:Value) (Q:St->Hp->Prop),Inv X pins σ H s->E1 v u->t v σ H Q ->
  wpAny (model X.prog X.w) X.A (a9Q target X.env u) (fun _ s'=>∃σ' H',Inv X pins σ' H' s'/\Q σ' H') X.xe s
def PGs(X:Cx)(ts:List Expr)(t:TGs):Prop:=
 ∀(pins:List (Addr×Obj)) (s:l5) (σ:St) (H:Hp) (vs:List V) (us:List Value) (Q:St->Hp->Prop),Inv X pins σ H s->E4 vs us->t vs σ H Q ->
  wpAny (model X.prog X.w) X.A (assignInOrder ((a0L ts X.env).map (·.2)) us) (fun _ s'=>∃σ' H',Inv X pins σ' H' s'/\Q σ' H') X.xe s
abbrev a9N:=V->V->V->Hp->(Hp->Prop)->Prop
def b9H(X:Cx)(t:a9N):Prop:=
 ∀(pins:List (Addr×Obj)) (s:l5) (σ:St) (H:Hp) (o i v:V) (ov iv u:Value) (Q:Hp->Prop),Inv X pins σ H s->E1 o ov->E1 i iv->E1 v u->t o i v H Q ->
  wpAny (model X.prog X.w) X.A (c2L ov iv u) (fun _ s'=>∃H',Inv X pins σ H' s'/\Q H') X.xe s
abbrev TIp:=V->V->Hp->VK->Prop
def PIp(X:Cx)(op:a9u)(t:TIp):Prop:=
 ∀(pins:List (Addr×Obj)) (s:l5) (σ:St) (H:Hp) (x y:V) (v u:Value) (Q:VK),Inv X pins σ H s->E1 x v->E1 y u->t x y H Q ->
  wpAny (model X.prog X.w) X.A (inplaceOp op v u) (EP X pins σ Q) X.xe s
section
def u4(i:Nat):TG:=fun v σ H Q=>Q (σ.set i (some v)) H
theorem b1c{x:Str}(hN:X.N.Nodup)(hi:X.N[i]? = some x)(hx:Loc X.env.scope x)(hf:X.fn x=true\/X.env.scope.names.lookup x=some .local:=by first | exact .inl rfl | exact .inr rfl | assumption):PG X (.Name x pos) (u4 i):=by
 intro pins s σ H v u Q I r h
 exact b3M (a6c I hN hi hx r (fun s' I'=>⟨_,H,I',h⟩) hf)
def b1w:TGs:=fun vs σ H Q=>vs=[]/\Q σ H
def a1A(t:TG)(u:TGs):TGs:=fun vs σ H Q=>∃v r,vs=v::r/\t v σ H fun σ' H'=>u r σ' H' Q
theorem b5q:PGs X [] b1w:=by
 intro pins s σ H vs us Q I r h
 obtain⟨e,h⟩:=h
 subst e
 cases r
 exact assignInOrder_nil ⟨σ,H,I,h⟩
theorem a8P{t:TG}{u:TGs}(h1:PG X e t)(h2:PGs X es u)
  (hs:(a0L (e::es) X.env).map (·.2)=a9Q e X.env::(a0L es X.env).map (·.2):=by rfl):PGs X (e::es) (a1A t u):=by
 intro pins s σ H vs us Q I r h
 obtain⟨v,vr,e1,h⟩:=h
 subst e1
 cases r with
 | cons r rr=>
  rw[hs]
  refine assignInOrder_cons (thn (h1 pins s σ H _ _ _ I r h) fun _ s1 ⟨σ1,H1,I1,q1⟩=>?_)
  exact h2 pins s1 σ1 H1 _ _ Q I1 rr q1
def b1v(K:Fg)(n:Nat)(t:TGs):TG:=fun v σ H Q=>∃a xs,v=.ref a/\SqT K H a xs/\xs.length=n/\t xs σ H Q
theorem b8D{k:Nat}{t:TGs}{n:Nat}(hc:X.calm=true)(h:PGs X es t)
  (hn:(a0L es X.env).length=n:=by rfl) (hst:(a0L es X.env).findIdx? (·.1)=none:=by rfl):PG X (.Tuple es k pos) (b1v X.K n t):=by
 intro pins s σ H v u Q I r hw
 obtain⟨a,xs,e1,hq,hl,hw⟩:=hw
 subst e1
 cases r
 obtain⟨its,rv,ht,hz⟩:=I.tuple hq
 refine assign_Tuple_tuple (I.ok.hd hc) ht (by simp[hn,<-hl,rv.length]) hst fun h' hx=>?_
 have I1:Inv X pins σ H { s with heap:=h' }:=I.kept (t':=s.toks) fun b o e=>hx b o (u7 (l3 e)) e
 exact h pins _ σ H xs _ Q I1 (by simpa using rv) hw
def b6I(to ti:TE)(t:a9N):TG:=fun v σ H Q=>to σ H fun o H1=>ti σ H1 fun i H2=>t o i v H2 fun H3=>Q σ H3
theorem c3L{o i:Expr}{to ti:TE}{t:a9N}(ho:PE X o to)(hi:PE X i ti)(hs:b9H X t)
  (ha:∀v,a9Q (.Subscript o i pos) X.env v=(do
   let ov <-a3U [v] (eval o X.env)
   let iv <-a3U [v,ov] (eval i X.env)
   b7j pos
   a3U [v,ov,iv] (c2L ov iv v)
   release [v,ov,iv] []):=by intro _;rfl):PG X (.Subscript o i pos) (b6I to ti t):=by
 intro pins s σ H v u Q I r h
 rw[ha]
 refine d4 (a1R (thn (ho pins s σ H _ I h) fun ov s1 ⟨x,H1,I1,r1,q1⟩=>?_))
 refine d4 (a1R (thn (hi pins s1 σ H1 _ I1 q1) fun iv s2 ⟨y,H2,I2,r2,q2⟩=>?_))
 refine d4 (c2J (d4 (a1R (thn (hs pins s2 σ H2 x y v ov iv u _ I2 r1 r2 r q2) fun _ s3 ⟨H3,I3,q3⟩=>?_))))
 exact wpAny_release ⟨σ,H3,I3,q3⟩
def E5(te:TE)(g:TG):TS:=fun D σ H=>te σ H fun x H1=>g x σ H1 D.nx
theorem c3H(he:PE X e te)(hg:PG X tg g)(hs:swapsWithSole [tg] e pos.line X.env=pure false:=by rfl)(hw:swappedStores [tg] e X.env=pure none:=by rfl)
  (h1:(a0L [tg] X.env).map (·.2)=[a9Q tg X.env]:=by rfl):PS X (.Assign [tg] e pos) (E5 te g):=by
 intro pins s σ H D I h
 refine wpAny_Assign_stores (thn (he pins s σ H _ I h) fun v s1 ⟨x,H1,I1,r1,q1⟩=>?_) hs hw
 rw[h1]
 exact thn (hg pins s1 σ H1 x v _ I1 r1 q1) fun _ s2 q=>q
theorem c3C{x:Str}(hN:X.N.Nodup)(hi:X.N[i]? = some x)(hx:Loc X.env.scope x)(he:PE X e te)(hs:a1S e (some (.Name x pos')) pos.line X.env=pure false:=by rfl)(hf:X.fn x=true\/X.env.scope.names.lookup x=some .local:=by first | exact .inl rfl | exact .inr rfl | assumption) :
  PS X (.Assign [.Name x pos'] e pos) (E5 te (u4 i)):=by
 intro pins s σ H D I h
 refine wpAny_Assign_Name (thn (he pins s σ H _ I h) fun v s1 ⟨y,H1,I1,r1,q1⟩=>?_) hs
 exact a6c I1 hN hi hx r1 (fun s2 I2=>⟨_,H1,I2,q1⟩) hf
def c0n(i:Nat)(te:TE)(ti:TIp):TS:=fun D σ H=>∃x,σ[i]? = some (some x)/\te σ H fun y H1=>ti x y H1 fun z H2=>D.nx (σ.set i (some z)) H2
theorem c3G{x:Str}{op:a9u}{ti:TIp}(hN:X.N.Nodup)(hi:X.N[i]? = some x)(hx:Loc X.env.scope x)(he:PE X e te)(ho:PIp X op ti)(hf:X.fn x=true\/X.env.scope.names.lookup x=some .local:=by first | exact .inl rfl | exact .inr rfl | assumption) :
  PS X (.AugAssign (.Name x pos') op e pos) (c0n i te ti):=by
 intro pins s σ H D I h
 obtain⟨v,e1,h⟩:=h
 obtain⟨m,hn,hl⟩:=I.loc
 have vis:Vis X.env.scope x:=by rcases hx with k | k;exact .inl k;exact .inr (.inl k)
 obtain⟨u,r,l⟩:=hl i x v hi e1 vis
 refine wpAny_AugAssign_Name ?_
 have go:wpAny (model X.prog X.w) X.A (eval e X.env) (fun w s₂=>wpAny (model X.prog X.w) X.A (inplaceOp op u w) (fun r s₃=>wpAny (model X.prog X.w) X.A (storeName X.env x r) (fun _=>SP X pins D .next) X.xe s₃) X.xe s₂) X.xe s:=by
  refine thn (he pins s σ H _ I h) fun w s1 ⟨y,H1,I1,r1,q1⟩=>?_
  refine thn (ho pins s1 σ H1 v y u w _ I1 r r1 q1) fun z s2 ⟨zv,H2,I2,r2,q2⟩=>?_
  exact a6c I2 hN hi hx r2 (fun s3 I3=>⟨_,H2,I3,q2⟩) hf
 rcases l with ⟨hk,hm⟩ | ⟨hk,c,hc,hcell⟩
 ·exact c6H I.ok.kind hk hn hm go
 ·rcases hk with hk | hk
  ·exact c6I I.ok.kind hk hc hcell go
  ·rcases hx with k | k
   ·have:X.env.scope.names.lookup x=some .free:=hk
    rw[k]at this;cases this
   ·have:X.env.scope.names.lookup x=some .free:=hk
    rw[k]at this;cases this
def b5l(to ti te:TE)(tget:V->V->Hp->VK->Prop)(tip:TIp)(tset:a9N):TS:=fun D σ H=>to σ H fun o H1=>ti σ H1 fun i H2=>tget o i H2 fun x H3=>te σ H3 fun y H4=>tip x y H4 fun z H5=>tset o i z H5 fun H6=>D.nx σ H6
def c5b(X:Cx)(t:V->V->Hp->VK->Prop):Prop:=
 ∀(pins:List (Addr×Obj)) (s:l5) (σ:St) (H:Hp) (o i:V) (ov iv:Value) (Q:VK),Inv X pins σ H s->E1 o ov->E1 i iv->t o i H Q ->
  wpAny (model X.prog X.w) X.A (c2M ov iv) (EP X pins σ Q) X.xe s
theorem c0M{o i:Expr}{to ti:TE}{tget:V->V->Hp->VK->Prop}{tip:TIp}{tset:a9N}{op:a9u}{tpos:Pos}(ho:PE X o to)(hi:PE X i ti)(hg:c5b X tget)(he:PE X e te)(hp:PIp X op tip)(hs:b9H X tset)
  (ha:∀ov iv new,augStore i ov iv new=(do a3U [new,ov,iv] (c2L ov iv new);release [new,ov,iv] [];pure .next):=by intros;rfl):PS X (.AugAssign (.Subscript o i tpos) op e pos) (b5l to ti te tget tip tset):=by
 intro pins s σ H D I h
 refine wpAny_AugAssign_SubscriptAny (thn (ho pins s σ H _ I h) fun ov s1 ⟨x1,H1,I1,r1,q1⟩=>?_) ha
 refine thn (hi pins s1 σ H1 _ I1 q1) fun iv s2 ⟨x2,H2,I2,r2,q2⟩=>?_
 refine thn (hg pins s2 σ H2 x1 x2 ov iv _ I2 r1 r2 q2) fun old s3 ⟨x3,H3,I3,r3,q3⟩=>?_
 refine thn (he pins s3 σ H3 _ I3 q3) fun v s4 ⟨x4,H4,I4,r4,q4⟩=>?_
 refine thn (hp pins s4 σ H4 x3 x4 old v _ I4 r3 r4 q4) fun new s5 ⟨x5,H5,I5,r5,q5⟩=>?_
 exact thn (hs pins s5 σ H5 x1 x2 x5 ov iv new _ I5 r1 r2 r5 q5) fun _ s6 ⟨H6,I6,q6⟩=>⟨σ,H6,I6,q6⟩
def ipI(f:Int->Int->Int):TIp:=fun x y H Q=>∃i j,x=.int i/\y=.int j/\Q (.int (f i j)) H
theorem c4L:PIp X .Add (ipI fun i j=>i+j):=by
 intro pins s σ H x y v u Q I r1 r2 h
 obtain⟨i,j,e1,e2,q⟩:=h
 subst e1;subst e2
 obtain⟨t,rfl⟩:=r1
 obtain⟨t',rfl⟩:=r2
 exact iadd_int ⟨.int _,H,I.tok _,⟨_,rfl⟩,q⟩
end
section
def a6O(c:TT)(tb:TS):TS:=fun D σ H=>∃W:Nat->St->Hp->Prop,(∃m,W m σ H)/\∀m σ H,W m σ H ->
 c σ H fun b H1=>if b=true then ∃N:St->Hp->Prop,(∀σ' H',N σ' H'->∃m',m'<m/\W m' σ' H')/\tb { D with nx:=N,ct:=N,bk:=D.nx } σ H1 else D.nx σ H1
theorem b8z{body:List Stmt}{tc:TT}(hp:c5z (model X.prog X.w) X.A X.env X.xe)(hc:PT X c tc)(hb:PSs X body tb):PS X (.While c body [] pos) (a6O tc tb):=by
 intro pins s σ H D I h
 obtain⟨W,⟨m0,w0⟩,turn⟩:=h
 refine wpAny_While (codeAny_whileLoop (fun n s'=>∃σ' H',Inv X pins σ' H' s'/\W n σ' H') ?_ m0 ⟨σ,H,I,w0⟩)
 rintro n s1 ⟨σ1,H1,I1,w1⟩
 refine a0z hp (thn (hc pins s1 σ1 H1 _ I1 (turn n σ1 H1 w1)) fun b s2 ⟨H2,I2,q2⟩=>?_)
 cases b with
 | true=>
  obtain⟨N,hN,q2⟩:=q2
  rw[if_pos rfl]
  refine a0z hp (thn (hb pins s2 σ1 H2 _ I2 q2) fun f s3 q3=>?_)
  cases f with
  | next=>
   obtain⟨σ3,H3,I3,n3⟩:=q3
   obtain⟨m',hm,w3⟩:=hN σ3 H3 n3
   exact⟨m',hm,σ3,H3,I3,w3⟩
  | cont=>
   obtain⟨σ3,H3,I3,n3⟩:=q3
   obtain⟨m',hm,w3⟩:=hN σ3 H3 n3
   exact⟨m',hm,σ3,H3,I3,w3⟩
  | brk=>exact q3
  | ret v=>exact q3
 | false=>
  rw[if_neg t6]
  exact a8l ⟨σ1,H2,I2,q2⟩
end
structure It where
 go:Nat->Hp->Prop
 yld:Nat->Hp->V->Hp->Prop
 stop:Nat->Hp->Prop
def a4V(X:Cx)(pins:List (Addr×Obj))(H:Hp)(b:Addr):Prop:=
 H b=none/\b≠X.env.locals/\b∉X.fs/\(b∈X.ex\/X.s₀.heap.objs.size<=b)/\(∀x c,X.env.cells.lookup x=some c->c≠b)/\∀p∈X.pn++pins,p.1≠b
theorem Inv.fpOk(I:Inv X pins σ H s)(hb:s.heap.objs.size<=b)(hn:H' b=none):a4V X pins H' b:=by
 refine⟨hn,a4Z (A8 I.lt hb),I.nofs hb,.inr (F6 I.sz hb),fun x c e z=>?_,fun p hp z=>?_⟩
 ·obtain⟨v,q⟩:=I.cell x c e
  exact absurd (A8 q.lt (by rw[z];exact hb)) (G0 _)
 ·exact absurd (A8 (l3 (I.pin p hp).1) (by rw[z];exact hb)) (G0 _)
structure b3x(P:C2)(w:World)(K:Fg)(tg:Expr)(J:It)(fp:List Addr)(it:Addr)(tn:Nat->Heap->Prop):Prop where
 mem:it∈fp
 obj:∀i h,tn i h->∀b∈fp,∃o,h.get? b=some o/\∀v,o.data≠.cell v
 keep:∀i h h',tn i h->(∀b∈fp,∀o,h.get? b=some o->h'.get? b=some o)->tn i h'
 item:∀(X:Cx),X.prog=P->X.w=w->X.K=K->X.calm=true->∀(i:Nat) (pins:List (Addr×Obj)) (s:l5) (σ:St) (H:Hp) (E:Value->l5->Prop),Inv X pins σ H s->(∀b∈fp,a4V X pins H b)->tn i s.heap->J.go i H ->
  wpAny (model P w) X.A (c5w (.ref it)) (fun r s1=>∃u,r=some u /\
   wpAny (model P w) X.A (a3T tg (.ref it) u) (fun _ s2=>∃x H',Inv X pins σ H' s2/\E1 x u/\J.yld i H x H'/\tn (i+1) s2.heap/\∀b∈fp,H' b=none) E s1) E s
 done:∀(X:Cx),X.prog=P->X.w=w->X.K=K->X.calm=true->∀(i:Nat) (pins:List (Addr×Obj)) (s:l5) (σ:St) (H:Hp) (E:Value->l5->Prop),Inv X pins σ H s->(∀b∈fp,a4V X pins H b)->tn i s.heap->J.stop i H ->
  wpAny (model P w) X.A (c5w (.ref it)) (fun r s1=>r=none/\Inv X pins σ H s1) E s
 self:∀(A:G8) (i:Nat) (s:l5) (Q:Value->l5->Prop) (E:Value->l5->Prop),tn i s.heap->Q (.ref it) s->wpAny (model P w) A (pyIter (.ref it)) Q E s
abbrev TI:=St->Hp->(It->Hp->Prop)->Prop
def PIE(X:Cx)(pins:List (Addr×Obj))(σ:St)(tg:Expr)(R:It->Hp->Prop)(itv:Value)(s2:l5):Prop:=
 ∃(it:Addr) (fp:List Addr) (tn:Nat->Heap->Prop) (J:It) (H':Hp),itv=.ref it/\Inv X pins σ H' s2/\b3x X.prog X.w X.K tg J fp it tn/\tn 0 s2.heap/\(∀b∈fp,a4V X pins H' b)/\R J H'
def PI(X:Cx)(tg iter:Expr)(wi:TI):Prop:=
 ∀(pins:List (Addr×Obj)) (s:l5) (σ:St) (H:Hp) (R:It->Hp->Prop),Inv X pins σ H s->wi σ H R ->
  wpAny (model X.prog X.w) X.A (eval iter X.env) (fun v s1=>wpAny (model X.prog X.w) X.A (pyIter v) (PIE X pins σ tg R) X.xe s1) X.xe s
theorem b9k{M:Model}{A:G8}{E:Value->l5->Prop}{it:Addr}{o:Obj}{n:String}{vs:Array Value}{Q:Unit->l5->Prop}(ho:s.heap.get? it=some o)(hc:o.cls=.type n)(hd:o.data=.fields vs)
  (hn:["enumerate","zip","dict_itemiterator","dict_reverseitemiterator","odict_iterator","itertools.zip_longest","itertools.pairwise"].contains n=false) (hQ:Q () s):wpAny M A (a3T tg (.ref it) u) Q E s:=by
 unfold a3T
 cases tg <;> first
  | exact u0 hQ
  | (cases u <;> first
    | exact u0 hQ
    | (refine d4 (wpAny_load ho ?_)
       rw[hc,hd]
       show wpAny M A (if(["enumerate","zip","dict_itemiterator","dict_reverseitemiterator","odict_iterator","itertools.zip_longest","itertools.pairwise"].contains n&&vs[0]? == some (rawInt _))=true then _ else _) Q E s
       rw[if_neg (by intro h;rw[hn,Bool.false_and]at h;cases h)]
       exact u0 hQ))
def Itl(K:Fg)(a:Addr):It:=
 ⟨fun i H=>∃xs x,SqL K H a xs/\xs[i]? = some x,fun i H x H'=>H'=H/\∀xs,SqL K H a xs->xs[i]? = some x,fun i H=>∃xs,SqL K H a xs/\xs.length<=i⟩
def Itr(lo:Int)(n:Nat):It:=⟨fun i _=>i<n,fun i H x H'=>H'=H/\x=.int (lo+i),fun i _=>n<=i⟩
theorem b5T{P:C2}{K:Fg}(a it:Addr):b3x P w K tg (Itl K a) [it] it (fun i h=>h.IsListIter it a i) where
 mem:=by simp
 obj:=fun i h st b hb=>by
  have e:b=it:=by simpa using hb
  subst e
  obtain⟨o,e,c,d⟩:=st
  exact⟨o,e,fun v z=>by rw[d]at z;cases z⟩
 keep:=fun i h h' st k=>st.at fun o e=>k it (by simp) o e
 item:=by
  intro X hP hw hK hc i pins s σ H E I hf st hg
  subst hP hw hK
  obtain⟨xs,x,hq,hx⟩:=hg
  obtain⟨its,rv,p,hz⟩:=I.list hq
  obtain⟨u,hu,ru⟩:=rv.get hx
  obtain⟨f0,f1,f2,f3,f4,f5⟩:=hf it (by simp)
  refine wpAny_pyNext_list_item st p.isList (x:=u) (by simpa using hu) fun h' st' sb=>?_
  have I1:Inv X pins σ H { s with heap:=h' }:=I.turned (t':=s.toks) (fun b o hb e=>(sb.2 b hb).trans e) f0 f1 f3 f4 f5
  obtain⟨o,e,c,d⟩:=id st'
  exact⟨u,rfl,b9k (s:={ s with heap:=h' }) e c d (by decide) ⟨x,H,I1,ru,⟨rfl,fun ys hy=>by rw[I.list_inj hy hq];exact hx⟩,st',fun b hb=>(hf b hb).1⟩⟩
 done:=by
  intro X hP hw hK hc i pins s σ H E I hf st hg
  subst hP hw hK
  obtain⟨xs,hq,hx⟩:=hg
  obtain⟨its,rv,p,hz⟩:=I.list hq
  obtain⟨f0,f1,f2,f3,f4,f5⟩:=hf it (by simp)
  have hl:=rv.length
  exact wpAny_pyNext_list_end (I.ok.hd hc) st p.isList (by simp;omega) fun h' eb=>⟨rfl,I.turned (t':=s.toks) (fun b o hb e=>eb b o hb e) f0 f1 f3 f4 f5⟩
 self:=fun _ _ _ _ _ st h=>wpAny_pyIter_listiter st h
theorem b3S{P:C2}{K:Fg}(it:Addr)(lo:Int)(n:Nat):b3x P w K tg (Itr lo n) [it] it (fun i h=>IsRangeIter h it (lo+(i:Nat) * 1) ((n:Int) - (i:Nat)) 1) where
 mem:=by simp
 obj:=fun i h st b hb=>by
  have e:b=it:=by simpa using hb
  subst e
  exact⟨_,st,fun v z=>by
   have z':Data.fields _=Data.cell v:=z
   cases z'⟩
 keep:=fun i h h' st k=>k it (by simp) _ st
 item:=by
  intro X hP hw hK hc i pins s σ H E I hf st hg
  subst hP hw hK
  obtain⟨f0,f1,f2,f3,f4,f5⟩:=hf it (by simp)
  have W:=Walks.range (prog:=X.prog) (w:=X.w) (I.ok.hd hc) it lo 1 n
  refine W.item i s _ _ hg st fun v h' tk hv st' kk=>?_
  obtain⟨t,rfl⟩:=hv
  have I1:Inv X pins σ H { s with heap:=h',toks:=tk }:=I.turned (fun b o hb e=>kk b o (by simpa using hb) e) f0 f1 f3 f4 f5
  refine⟨_,rfl,b9k (s:={ s with heap:=h',toks:=tk }) (n := "range_iterator") st' rfl rfl (by decide) ⟨.int (lo+i),H,I1,⟨t,?_⟩,⟨rfl,rfl⟩,st',fun b hb=>(hf b hb).1⟩⟩
  rw[Int.mul_one]
 done:=by
  intro X hP hw hK hc i pins s σ H E I hf st hg
  subst hP hw hK
  obtain⟨f0,f1,f2,f3,f4,f5⟩:=hf it (by simp)
  exact wpAny_pyNext_range_end (I.ok.hd hc) st (by have:n<=i:=hg;omega) fun h' eb=>⟨rfl,I.turned (t':=s.toks) (fun b o hb e=>eb b o hb e) f0 f1 f3 f4 f5⟩
 self:=fun _ _ _ _ _ st h=>wpAny_pyIter_rangeiter st h
section
def U5(K:Fg)(tl:TE):TI:=fun σ H R=>tl σ H fun x H1=>∃a,x=.ref a/\(∃xs,SqL K H1 a xs)/\R (Itl K a) H1
theorem c0S{l:Expr}{tl:TE}(hl:PE X l tl):PI X tg l (U5 X.K tl):=by
 intro pins s σ H R I h
 refine thn (hl pins s σ H _ I h) fun v s1 ⟨x,H1,I1,r1,q1⟩=>?_
 obtain⟨a,e,⟨xs,hq⟩,q⟩:=q1
 subst e
 cases r1
 obtain⟨its,rv,p,hz⟩:=I1.list hq
 refine b3K p.isList ?_
 refine⟨s1.heap.objs.size,[s1.heap.objs.size],_,_,H1,rfl,I1.kept (t':=s1.toks) fun b o e=>g7 _ e,b5T a _,⟨_,y7 _ rfl,rfl,rfl⟩,fun b hb=>?_,q⟩
 have e:b=s1.heap.objs.size:=by simpa using hb
 subst e
 exact I1.fpOk (g9 _) (I1.hok.fresh (g9 _))
theorem b8s{R:It->Hp->Prop}{E:Value->l5->Prop}{lo hi:Int}{t u v:Tok}{tk:Nat}(I:Inv X pins σ H s)(h1 : -(2 ^ 62)<=lo)(h2:lo<2 ^ 62)(h3 : -(2 ^ 62)<=hi)(h4:hi<2 ^ 62)
  (q:R (Itr lo (hi - lo).toNat) H):wpAny (model X.prog X.w) X.A (pyIter (.ref s.heap.objs.size)) (PIE X pins σ tg R) E { s with heap:=s.heap.push { cls:=.type "range",data:=.fields #[.int lo t,.int hi u,.int 1 v] },toks:=tk }:=by
 refine wpAny_pyIter_range (IsRange.new ..) (small_one h1 h2 h3 h4) ?_
 have I1:Inv X pins σ H { s with heap:=s.heap.push { cls:=.type "range",data:=.fields #[.int lo t,.int hi u,.int 1 v] },toks:=tk }:=I.kept fun b o e=>g7 _ e
 refine⟨(s.heap.push { cls:=.type "range",data:=.fields #[.int lo t,.int hi u,.int 1 v] }).objs.size,[(s.heap.push { cls:=.type "range",data:=.fields #[.int lo t,.int hi u,.int 1 v] }).objs.size],_,_,H,rfl,
  I1.kept (t':=tk) fun b o e=>g7 _ e,b3S _ lo (hi - lo).toNat,?_,fun b hb=>?_,q⟩
 ·have e1:lo+((0:Nat):Int) * 1=lo:=by simp
  have e2:(((hi - lo).toNat:Nat):Int) - ((0:Nat):Int)=Builtin.Range.rangeSize lo hi 1:=by rw[rangeSize_one];split <;> omega
  show IsRangeIter _ _ (lo+((0:Nat):Int) * 1) ((((hi - lo).toNat:Nat):Int) - ((0:Nat):Int)) 1
  rw[e1,e2]
  exact y7 _ rfl
 ·have e:b=(s.heap.push { cls:=.type "range",data:=.fields #[.int lo t,.int hi u,.int 1 v] }).objs.size:=by simpa using hb
  subst e
  exact I1.fpOk (g9 _) (I1.hok.fresh (g9 _))
def a1l(ta:TA):TI:=fun σ H R=>ta σ H fun vs H1=>∃j:Int,vs=[.int j] /\ -(2 ^ 62)<=j/\j<2 ^ 62/\R (Itr 0 j.toNat) H1
theorem b6j{a:Expr}{ta:TA}(hg:Gl X "range")(hm:X.mg "range" = none)(ha:PA X [a] ta)(hs:i8 [a] X.env=[(false,eval a X.env)]:=by rfl):PI X tg (.Call (.Name "range" p) [a] [] pos) (a1l ta):=by
 intro pins s σ H R I h
 refine Call_ (a4v I hg hm boot_range (L3 (thn (ha pos pins s σ H _ I h) fun us s1 ⟨vs,H1,I1,r1,q1⟩=>?_) hs rfl))
 obtain⟨j,e,q1,q2,q⟩:=q1
 subst e
 cases r1 with
 | cons r rr=>
  cases rr
  obtain⟨t,rfl⟩:=r
  exact call_range_1 (b8s I1 (by omega) (by omega) q1 q2 (by simpa using q))
def a1q(wi:TI)(g:TG)(tb:TS):TS:=fun D σ H=>wi σ H fun J H1=>∃W:Nat->Nat->St->Hp->Prop,(∃m,W 0 m σ H1)/\∀i m σ H,W i m σ H ->
 (J.stop i H/\D.nx σ H)\/(J.go i H/\∃N:St->Hp->Prop,(∀σ' H',N σ' H'->∃m',m'<m/\W (i+1) m' σ' H')/\∀x H',J.yld i H x H'->g x σ H' fun σ2 H2=>tb { D with nx:=N,ct:=N,bk:=D.nx } σ2 H2)
def a5A(fp:List Addr)(h:Heap):List (Addr×Obj):=fp.filterMap fun b=>(h.get? b).map fun o=>(b,o)
theorem a0W{fp:List Addr}{o:Obj}(hb:b∈fp)(e:h.get? b=some o):(b,o)∈a5A fp h:=c0a.mpr ⟨b,hb,by rw[e];rfl⟩
theorem b6t{fp:List Addr}{p:Addr×Obj}(hp:p∈a5A fp h):p.1∈fp/\h.get? p.1=some p.2:=by
 obtain⟨b,hb,e⟩:=c0a.mp hp
 cases q:h.get? b with
 | none=>rw[q]at e;cases e
 | some o=>
  rw[q]at e
  have e':(b,o)=p:=Option.some.inj e
  subst e'
  exact⟨hb,q⟩
theorem Inv.pinned{fp:List Addr}(I:Inv X pins σ H s)(hf:∀b∈fp,a4V X pins H b)(ho:∀b∈fp,∃o,s.heap.get? b=some o/\∀v,o.data≠.cell v):Inv X (pins++a5A fp s.heap) σ H s:=
 I.pins_of fun p hp=>(u8.mp hp).elim (fun z=>I.pin p (z7 _ z)) fun z=>by
  obtain⟨hb,e⟩:=b6t z
  obtain⟨f0,f1,f2,_⟩:=hf p.1 hb
  obtain⟨o,e',d⟩:=ho p.1 hb
  rw[e]at e';cases e'
  exact⟨e,f0,f1,f2,d⟩
theorem Inv.unpinned{pl:List (Addr×Obj)}(I:Inv X (pins++pl) σ H s):Inv X pins σ H s:=I.pins_of fun p hp=>I.pin p (z7 _ (C9 _ hp))
theorem c3E{iter:Expr}{body:List Stmt}{wi:TI}(hp:c5z (model X.prog X.w) X.A X.env X.xe)(hc:X.calm=true)(hi:PI X tg iter wi)(hg:PG X tg g)(hb:PSs X body tb)
  (hs:∀x,U6 iter X.env x=pure x:=by intro _;rfl):PS X (.For tg iter body [] pos) (a1q wi g tb):=by
 intro pins s σ H D I h
 refine wpAny_For (thn (hi pins s σ H _ I h) fun v s1 h1=>thn h1 fun itv s2 h2=>?_) hs
 obtain⟨it,fp,tn,J,H2,e,I2,T,st2,f2,W,⟨m0,w0⟩,turn⟩:=h2
 subst e
 have stat:∀ {H':Hp},(∀b∈fp,H' b=none)->∀b∈fp,a4V X pins H' b:=fun hn b hb=>⟨hn b hb,(f2 b hb).2⟩
 refine codeAny_forLoop_any (fun n s'=>∃i σ' H',Inv X pins σ' H' s'/\tn i s'.heap/\(∀b∈fp,H' b=none)/\W i n σ' H') ?_ m0 ⟨0,σ,H2,I2,st2,fun b hb=>(f2 b hb).1,w0⟩
 rintro n s3 ⟨i,σ3,H3,I3,st3,fr3,w3⟩
 rcases turn i n σ3 H3 w3 with ⟨stop,qn⟩ | ⟨go,N,hN,step⟩
 ·refine a0z hp (thn (T.done X rfl rfl rfl hc i pins s3 σ3 H3 X.xe I3 (stat fr3) st3 stop) fun r s4 ⟨hr,I4⟩=>?_)
  subst hr
  exact a8l ⟨σ3,H3,I4,qn⟩
 ·refine a0z hp (thn (T.item X rfl rfl rfl hc i pins s3 σ3 H3 X.xe I3 (stat fr3) st3 go) fun r s4 ⟨u,hr,h4⟩=>?_)
  subst hr
  refine a0z hp (thn h4 fun _ s5 ⟨x,H5,I5,r5,y5,st5,fr5⟩=>?_)
  have I5':=I5.pinned (stat fr5) (T.obj _ _ st5)
  refine a0z hp (thn (hg _ s5 σ3 H5 x u _ I5' r5 (step x H5 y5)) fun _ s6 ⟨σ6,H6,I6,q6⟩=>?_)
  refine a0z hp (thn (hb _ s6 σ6 H6 _ I6 q6) fun f s7 q7=>?_)
  have again:∀ {σ7:St} {H7:Hp},Inv X (pins++a5A fp s5.heap) σ7 H7 s7->N σ7 H7->∃m,m<n/\∃i σ' H',Inv X pins σ' H' s7/\tn i s7.heap/\(∀b∈fp,H' b=none)/\W i m σ' H':=fun {σ7 H7} I7 n7=>by
   obtain⟨m',hm,w7⟩:=hN σ7 H7 n7
   refine⟨m',hm,i+1,σ7,H7,I7.unpinned,T.keep _ _ _ st5 fun b hb o e=>(I7.pin (b,o) (z7 _ (z7 _ (a0W hb e)))).1,fun b hb=>?_,w7⟩
   obtain⟨o,e,d⟩:=T.obj _ _ st5 b hb
   exact(I7.pin (b,o) (z7 _ (z7 _ (a0W hb e)))).2.1
  cases f with
  | next=>obtain⟨σ7,H7,I7,n7⟩:=q7;exact again I7 n7
  | cont=>obtain⟨σ7,H7,I7,n7⟩:=q7;exact again I7 n7
  | brk=>obtain⟨σ7,H7,I7,q7⟩:=q7;exact⟨σ7,H7,I7.unpinned,q7⟩
  | ret v=>obtain⟨x7,σ7,H7,I7,r7,q7⟩:=q7;exact⟨x7,σ7,H7,I7.unpinned,r7,q7⟩
end
theorem a1m{K:Fg}{D:a6E}(Pv:Nat->St->Hp->Prop)(h0:Pv 0 σ H)(hl:∀i σ H,i<=xs.length->Pv i σ H->SqL K H a xs)
  (hs:∀i x σ H,xs[i]? = some x->Pv i σ H->g x σ H fun σ2 H2=>tb { D with nx:=Pv (i+1),ct:=Pv (i+1),bk:=D.nx } σ2 H2) (hd:∀σ H,Pv xs.length σ H->D.nx σ H) :
  ∃W:Nat->Nat->St->Hp->Prop,(∃m,W 0 m σ H)/\∀i m σ H,W i m σ H ->
   ((Itl K a).stop i H/\D.nx σ H)\/((Itl K a).go i H/\∃N:St->Hp->Prop,(∀σ' H',N σ' H'->∃m',m'<m/\W (i+1) m' σ' H')/\∀x H',(Itl K a).yld i H x H'->g x σ H' fun σ2 H2=>tb { D with nx:=N,ct:=N,bk:=D.nx } σ2 H2):=by
 refine⟨fun i m σ H=>m=xs.length - i/\i<=xs.length/\Pv i σ H,⟨xs.length,by simp,J7 _,h0⟩,?_⟩
 rintro i m σ H ⟨rfl,hi,p⟩
 have q:=hl i σ H hi p
 by_cases hlt:i<xs.length
 ·refine .inr ⟨⟨xs,xs[i],q,by simp[hlt]⟩,Pv (i+1),fun σ' H' p'=>⟨xs.length - (i+1),by omega,rfl,hlt,p'⟩,fun x H' y=>?_⟩
  obtain⟨e,y⟩:=y
  subst e
  exact hs i x σ _ (y xs q) p
 ·have e:i=xs.length:=by omega
  subst e
  exact .inl ⟨⟨xs,q,g9 _⟩,hd σ H p⟩
theorem Z1{lo:Int}{n:Nat}{D:a6E}(Pv:Nat->St->Hp->Prop)(h0:Pv 0 σ H)
  (hs:∀i σ H,i<n->Pv i σ H->g (.int (lo+i)) σ H fun σ2 H2=>tb { D with nx:=Pv (i+1),ct:=Pv (i+1),bk:=D.nx } σ2 H2) (hd:∀σ H,Pv n σ H->D.nx σ H) :
  ∃W:Nat->Nat->St->Hp->Prop,(∃m,W 0 m σ H)/\∀i m σ H,W i m σ H ->
   ((Itr lo n).stop i H/\D.nx σ H)\/((Itr lo n).go i H/\∃N:St->Hp->Prop,(∀σ' H',N σ' H'->∃m',m'<m/\W (i+1) m' σ' H')/\∀x H',(Itr lo n).yld i H x H'->g x σ H' fun σ2 H2=>tb { D with nx:=N,ct:=N,bk:=D.nx } σ2 H2):=by
 refine⟨fun i m σ H=>m=n - i/\i<=n/\Pv i σ H,⟨n,by simp,J7 _,h0⟩,?_⟩
 rintro i m σ H ⟨rfl,hi,p⟩
 by_cases hlt:i<n
 ·refine .inr ⟨hlt,Pv (i+1),fun σ' H' p'=>⟨n - (i+1),by omega,rfl,hlt,p'⟩,fun x H' y=>?_⟩
  obtain⟨e,y⟩:=y
  subst e y
  exact hs i σ _ hlt p
 ·have e:i=n:=by omega
  subst e
  exact .inl ⟨g9 _,hd σ H p⟩
abbrev R2:=V->V->Hp->VK->Prop
def OpR(X:Cx)(f:Value->Value->Sem Value)(r:R2):Prop:=
 ∀(pins:List (Addr×Obj)) (s:l5) (σ:St) (H:Hp) (x y:V) (v u:Value) (Q:VK),Inv X pins σ H s->E1 x v->E1 y u->r x y H Q ->
  wpAny (model X.prog X.w) X.A (f v u) (EP X pins σ Q) X.xe s
def UnR(X:Cx)(f:Value->Sem Value)(r:V->Hp->VK->Prop):Prop:=
 ∀(pins:List (Addr×Obj)) (s:l5) (σ:St) (H:Hp) (x:V) (v:Value) (Q:VK),Inv X pins σ H s->E1 x v->r x H Q ->
  wpAny (model X.prog X.w) X.A (f v) (EP X pins σ Q) X.xe s
def W0(X:Cx)(f:Value)(r:List V->Hp->VK->Prop):Prop:=
 ∀(pins:List (Addr×Obj)) (s:l5) (σ:St) (H:Hp) (xs:List V) (us:List Value) (Q:VK),Inv X pins σ H s->E4 xs us->r xs H Q ->
  wpAny (model X.prog X.w) X.A (call f us) (EP X pins σ Q) X.xe s
def tOp(r:R2)(ta tb:TE):TE:=fun σ H Q=>ta σ H fun x H1=>tb σ H1 fun y H2=>r x y H2 Q
def rI(C:Int->Int->Prop)(g:Int->Int->V):R2:=fun x y H Q=>∃i j,x=.int i/\y=.int j/\C i j/\Q (g i j) H
def rI0(g:Int->Int->V):R2:=fun x y H Q=>∃i j,x=.int i/\y=.int j/\Q (g i j) H
section
variable {a b:Expr}{tb tc:TE}
theorem c4S(ha:PE X a ta)(hb:PE X b tb){R:V->V->Hp->Prop}(I:Inv X pins σ H s)
  (h:ta σ H fun x H1=>tb σ H1 fun y H2=>R x y H2) {Q:Value->l5->Prop} {f:Value->Value->Sem Value}
  (hf:∀v u s2 x y H2,Inv X pins σ H2 s2->E1 x v->E1 y u->R x y H2->wpAny (model X.prog X.w) X.A (f v u) Q X.xe s2) :
  wpAny (model X.prog X.w) X.A (eval a X.env) (fun v s₁=>wpAny (model X.prog X.w) X.A (eval b X.env) (fun u s₂=>wpAny (model X.prog X.w) X.A (f v u) Q X.xe s₂) X.xe s₁) X.xe s:=by
 refine thn (ha pins s σ H _ I h) fun v s1 ⟨x,H1,I1,r1,q1⟩=>?_
 refine thn (hb pins s1 σ H1 _ I1 q1) fun u s2 ⟨y,H2,I2,r2,q2⟩=>?_
 exact hf v u s2 x y H2 I2 r1 r2 q2
theorem c6e{op:a9u}{r:R2}(ho:OpR X (X8 op) r)(ha:PE X a ta)(hb:PE X b tb):PE X (.BinOp a op b pos) (tOp r ta tb):=by
 intro pins s σ H Q I h
 exact wpAny_BinOp (c4S ha hb I h fun v u s2 x y H2 I2 rx ry q=>ho pins s2 σ H2 x y v u Q I2 rx ry q)
theorem opI{f:Value->Value->Sem Value}{C:Int->Int->Prop}{g:Int->Int->Int}
  (rule:∀(i j:Int) (t u:Tok) (s:l5) (Q:Value->l5->Prop) (E:Value->l5->Prop),C i j->Q (.int (g i j) s.toks) { s with toks:=s.toks+1 }->wpAny (model X.prog X.w) X.A (f (.int i t) (.int j u)) Q E s) :
  OpR X f (rI C fun i j=>.int (g i j)):=by
 intro pins s σ H x y v u Q I rx ry h
 obtain⟨i,j,rfl,rfl,hc,q⟩:=h
 obtain⟨t,rfl⟩:=rx
 obtain⟨t',rfl⟩:=ry
 exact rule i j t t' s _ _ hc ⟨.int (g i j),H,I.tok _,⟨_,rfl⟩,q⟩
theorem c6q{f:Value->Value->Sem Value}{g:Int->Int->Int}
  (rule:∀(i j:Int) (t u:Tok) (s:l5) (Q:Value->l5->Prop) (E:Value->l5->Prop),Q (.int (g i j) s.toks) { s with toks:=s.toks+1 }->wpAny (model X.prog X.w) X.A (f (.int i t) (.int j u)) Q E s) :
  OpR X f (rI0 fun i j=>.int (g i j)):=by
 intro pins s σ H x y v u Q I rx ry h
 obtain⟨i,j,rfl,rfl,q⟩:=h
 obtain⟨t,rfl⟩:=rx
 obtain⟨t',rfl⟩:=ry
 exact rule i j t t' s _ _ ⟨.int (g i j),H,I.tok _,⟨_,rfl⟩,q⟩
theorem c1q{f:Value->Value->Sem Value}{g:Int->Int->Bool}
  (rule:∀(i j:Int) (t u:Tok) (s:l5) (Q:Value->l5->Prop) (E:Value->l5->Prop),Q (.bool (g i j)) s->wpAny (model X.prog X.w) X.A (f (.int i t) (.int j u)) Q E s) :
  OpR X f (rI0 fun i j=>.bl (g i j)):=by
 intro pins s σ H x y v u Q I rx ry h
 obtain⟨i,j,rfl,rfl,q⟩:=h
 obtain⟨t,rfl⟩:=rx
 obtain⟨t',rfl⟩:=ry
 exact rule i j t t' s _ _ ⟨.bl (g i j),H,I,rfl,q⟩
def b9P(i j:Int):Prop:=(-(2 ^ 64)<i/\i<2 ^ 64)\/(-(2 ^ 64)<j/\j<2 ^ 64)
theorem b9P.ok{i j:Int}(h:b9P i j):IntMulOk i j:=by
 rcases h with ⟨h1,h2⟩ | ⟨h1,h2⟩
 ·exact .of_left (intBits_le_64 h1 h2)
 ·exact .of_right (intBits_le_64 h1 h2)
theorem c4m:OpR X (X8 .Add) (rI0 fun i j=>.int (i+j)):=c6q fun _ _ _ _ _ _ _ q=>add_int q
theorem c4b:OpR X (X8 .Sub) (rI0 fun i j=>.int (i - j)):=c6q fun _ _ _ _ _ _ _ q=>sub_int q
theorem c4j:OpR X (X8 .Mult) (rI b9P fun i j=>.int (i * j)):=opI fun _ _ _ _ _ _ _ hc q=>mul_int q hc.ok
theorem c4k:OpR X (X8 .Mod) (rI (fun _ j=>0<j) fun i j=>.int (i % j)):=opI fun i j _ _ _ _ _ hc q=>by
 have h1:(0:Int)<j:=hc
 exact mod_int' (by omega) (by rw[Int.fmod_eq_emod_of_nonneg i (by omega)];exact q)
end
def b2A:V->V->Bool
 | .non,.non=>true | .non,.int _=>true | .int _,.non=>true | .non,.bl _=>true | .bl _,.non=>true | .non,.str _=>true | .str _,.non=>true
 | .int _,.int _=>true | .bl _,.bl _=>true | .str _,.str _=>true | .byt _,.byt _=>true
 | .int _,.str _=>true | .str _,.int _=>true | .bl _,.str _=>true | .str _,.bl _=>true
 | _,_=>false
def rEq:R2:=fun x y H Q=>b2A x y=true/\Q (.bl (decide (x=y))) H
def rNe:R2:=fun x y H Q=>b2A x y=true/\Q (.bl (!decide (x=y))) H
theorem b5x{i j:Int}:decide (V.int i=V.int j)=(i == j):=by
 rw[O0]
 simp
theorem b9s{i j:Bool}:decide (V.bl i=V.bl j)=(i == j):=by
 rw[O0]
 simp
theorem b5w{i j:Str}:decide (V.str i=V.str j)=(i == j):=by
 rw[O0]
 simp
theorem b5y{i j:Array UInt8}:decide (V.byt i=V.byt j)=(i.toList == j.toList):=by
 rw[O0]
 cases i
 cases j
 simp
section
variable {a b:Expr}{tb tc:TE}
theorem K8{Q:VK}{k k':Bool}(I:Inv X pins σ H s)(q:Q (.bl k) H)(e:k=k'):EP X pins σ Q (.bool k') s:=by
 subst e
 exact⟨.bl k,H,I,rfl,q⟩
theorem c6p:OpR X (u6 .Eq) rEq:=by
 intro pins s σ H x y v u Q I rx ry h
 obtain⟨hs,q⟩:=h
 cases x with
 | non=>
  cases rx
  cases y with
  | non=>cases ry;exact PySem.EqNone.eq_none_none (K8 I q (by simp))
  | bl j=>cases ry;exact PySem.EqNone.eq_none_bool (K8 I q (by simp))
  | int j=>obtain⟨t',rfl⟩:=ry;exact PySem.EqNone.eq_none_int (K8 I q (by simp))
  | str j=>obtain⟨t',rfl⟩:=ry;exact PySem.EqNone.eq_none_str (K8 I q (by simp))
  | _=>exact absurd (show false=true from hs) t6
 | bl i=>
  cases rx
  cases y with
  | non=>cases ry;exact PySem.EqNone.eq_bool_none (K8 I q (by simp))
  | bl j=>cases ry;exact eq_bool (K8 I q b9s)
  | str j=>obtain⟨t',rfl⟩:=ry;exact PySem.EqMixed.eq_bool_str (K8 I q (by simp))
  | _=>exact absurd (show false=true from hs) t6
 | int i=>
  obtain⟨t,rfl⟩:=rx
  cases y with
  | non=>cases ry;exact PySem.EqNone.eq_int_none (K8 I q (by simp))
  | int j=>obtain⟨t',rfl⟩:=ry;exact eq_int (K8 I q b5x)
  | str j=>obtain⟨t',rfl⟩:=ry;exact PySem.EqMixed.eq_int_str (K8 I q (by simp))
  | _=>exact absurd (show false=true from hs) t6
 | str i=>
  obtain⟨t,rfl⟩:=rx
  cases y with
  | non=>cases ry;exact PySem.EqNone.eq_str_none (K8 I q (by simp))
  | bl j=>cases ry;exact PySem.EqMixed.eq_str_bool (K8 I q (by simp))
  | int j=>obtain⟨t',rfl⟩:=ry;exact PySem.EqMixed.eq_str_int (K8 I q (by simp))
  | str j=>obtain⟨t',rfl⟩:=ry;exact eq_str (K8 I q b5w)
  | _=>exact absurd (show false=true from hs) t6
 | byt i=>
  obtain⟨t,rfl⟩:=rx
  cases y with
  | byt j=>obtain⟨t',rfl⟩:=ry;exact PySem.W.eq_bytes (K8 I q b5y)
  | _=>exact absurd (show false=true from hs) t6
 | _=>cases y <;> exact absurd (show false=true from hs) t6
theorem c6k:OpR X (u6 .NotEq) rNe:=by
 intro pins s σ H x y v u Q I rx ry h
 obtain⟨hs,q⟩:=h
 cases x with
 | non=>
  cases rx
  cases y with
  | non=>cases ry;exact PySem.EqNone.ne_none_none (K8 I q (by simp))
  | bl j=>cases ry;exact PySem.EqNone.ne_none_bool (K8 I q (by simp))
  | int j=>obtain⟨t',rfl⟩:=ry;exact PySem.EqNone.ne_none_int (K8 I q (by simp))
  | str j=>obtain⟨t',rfl⟩:=ry;exact PySem.EqNone.ne_none_str (K8 I q (by simp))
  | _=>exact absurd (show false=true from hs) t6
 | bl i=>
  cases rx
  cases y with
  | non=>cases ry;exact PySem.EqNone.ne_bool_none (K8 I q (by simp))
  | bl j=>cases ry;exact ne_bool (K8 I q (congrArg not b9s))
  | str j=>obtain⟨t',rfl⟩:=ry;exact PySem.EqMixed.ne_bool_str (K8 I q (by simp))
  | _=>exact absurd (show false=true from hs) t6
 | int i=>
  obtain⟨t,rfl⟩:=rx
  cases y with
  | non=>cases ry;exact PySem.EqNone.ne_int_none (K8 I q (by simp))
  | int j=>obtain⟨t',rfl⟩:=ry;exact ne_int (K8 I q (congrArg not b5x))
  | str j=>obtain⟨t',rfl⟩:=ry;exact PySem.EqMixed.ne_int_str (K8 I q (by simp))
  | _=>exact absurd (show false=true from hs) t6
 | str i=>
  obtain⟨t,rfl⟩:=rx
  cases y with
  | non=>cases ry;exact PySem.EqNone.ne_str_none (K8 I q (by simp))
  | bl j=>cases ry;exact PySem.EqMixed.ne_str_bool (K8 I q (by simp))
  | int j=>obtain⟨t',rfl⟩:=ry;exact PySem.EqMixed.ne_str_int (K8 I q (by simp))
  | str j=>obtain⟨t',rfl⟩:=ry;exact ne_str (K8 I q (congrArg not b5w))
  | _=>exact absurd (show false=true from hs) t6
 | byt i=>
  obtain⟨t,rfl⟩:=rx
  cases y with
  | byt j=>obtain⟨t',rfl⟩:=ry;exact PySem.W.ne_bytes (K8 I q (congrArg not b5y))
  | _=>exact absurd (show false=true from hs) t6
 | _=>cases y <;> exact absurd (show false=true from hs) t6
theorem c6l:OpR X (u6 .Lt) (rI0 fun i j=>.bl (decide (i<j))):=c1q fun _ _ _ _ _ _ _ q=>lt_int q
theorem c6m:OpR X (u6 .LtE) (rI0 fun i j=>.bl (decide (i<=j))):=c1q fun _ _ _ _ _ _ _ q=>le_int q
theorem c6n:OpR X (u6 .Gt) (rI0 fun i j=>.bl (decide (j<i))):=c1q fun _ _ _ _ _ _ _ q=>gt_int q
theorem c6o:OpR X (u6 .GtE) (rI0 fun i j=>.bl (decide (j<=i))):=c1q fun _ _ _ _ _ _ _ q=>ge_int q
theorem b6o:OpR X (u6 .In) (fun x y H Q=>∃i j,x=.str i/\y=.str j/\Q (.bl (!(Builtin.Str.occurrences j i 0 j.length 1).isEmpty)) H):=by
 intro pins s σ H x y v u Q I rx ry h
 obtain⟨i,j,rfl,rfl,q⟩:=h
 obtain⟨t,rfl⟩:=rx
 obtain⟨t',rfl⟩:=ry
 exact in_str (K8 I q rfl)
theorem c1o:OpR X (u6 .IsNot) (fun x y H Q=>y=.non/\Q (.bl (!decide (x=.non))) H):=by
 intro pins s σ H x y v u Q I rx ry h
 obtain⟨rfl,q⟩:=h
 cases ry
 refine isnot_none_gen (K8 I q ?_)
 cases x <;> first
  | (cases rx;rfl)
  | (obtain⟨t,rfl⟩:=rx;rfl)
theorem OpR.or{f:Value->Value->Sem Value}{r r':R2}(h:OpR X f r)(h':OpR X f r'):OpR X f (fun x y H Q=>r x y H Q\/r' x y H Q):=by
 intro pins s σ H x y v u Q I rx ry q
 rcases q with q | q
 ·exact h pins s σ H x y v u Q I rx ry q
 ·exact h' pins s σ H x y v u Q I rx ry q
theorem a4s(b:Expr){op:CmpOp}(h:op≠.In:=by decide)(h2:op≠.NotIn:=by decide):O3 op b=false:=by
 have e1:(op == CmpOp.In)=false:=by cases op <;> first | rfl | exact absurd rfl h
 have e2:(op == CmpOp.NotIn)=false:=by cases op <;> first | rfl | exact absurd rfl h2
 cases b <;> simp[O3,e1,e2]
theorem c0Z{op:CmpOp}{r:R2}(ho:OpR X (u6 op) r)(ha:PE X a ta)(hb:PE X b tb)(hm:O3 op b=false):PE X (.Compare a [op] [b] pos) (tOp r ta tb):=by
 intro pins s σ H Q I h
 exact wpAny_Compare1 (c4S ha hb I h fun v u s2 x y H2 I2 rx ry q=>ho pins s2 σ H2 x y v u Q I2 rx ry q) hm
def C8(t:TE):TT:=fun σ H Q=>t σ H fun x H'=>∃k,x=.bl k/\Q k H'
theorem c0H{op:CmpOp}{r:R2}(ho:OpR X (u6 op) r)(ha:PE X a ta)(hb:PE X b tb)(hm:O3 op b=false):PT X (.Compare a [op] [b] pos) (C8 (tOp r ta tb)):=by
 intro pins s σ H Q I h
 refine c5t (thn (ha pins s σ H _ I h) fun v s1 ⟨x,H1,I1,r1,q1⟩=>thn (hb pins s1 σ H1 _ I1 q1) fun u s2 ⟨y,H2,I2,r2,q2⟩=>
  thn (ho pins s2 σ H2 x y v u _ I2 r1 r2 q2) fun c s3 ⟨z,H3,I3,r3,k,e,q3⟩=>?_) hm
 subst e
 cases r3
 exact J0 ⟨H3,I3,q3⟩
def a4d(r r':R2)(ta tb tc:TE):TE:=fun σ H Q=>ta σ H fun x H1=>tb σ H1 fun y H2=>r x y H2 fun z H3=>∃k,z=.bl k /\
 (if k=true then tc σ H3 fun w' H4=>r' y w' H4 Q else Q (.bl false) H3)
theorem b8K{op op':CmpOp}{r r':R2}(ho:OpR X (u6 op) r)(ho':OpR X (u6 op') r')(ha:PE X a ta)(hb:PE X b tb)(hc:PE X c tc)
  (hm:c5x [op,op'] [b,c]=false:=by with_unfolding_all rfl):PE X (.Compare a [op,op'] [b,c] pos) (a4d r r' ta tb tc):=by
 intro pins s σ H Q I h
 refine Compare_chain (thn (ha pins s σ H _ I h) fun v s1 ⟨x,H1,I1,r1,q1⟩=>chain_link (thn (hb pins s1 σ H1 _ I1 q1) fun u s2 ⟨y,H2,I2,r2,q2⟩=>
  thn (ho pins s2 σ H2 x y v u _ I2 r1 r2 q2) fun d s3 ⟨z,H3,I3,r3,k,e,q3⟩=>?_)) hm
 subst e
 cases r3
 refine J0 ?_
 cases k with
 | false=>exact ite_ff ⟨.bl false,H3,I3,rfl,q3⟩
 | true=>exact ite_tt (chain_last (thn (hc pins s3 σ H3 _ I3 q3) fun w' s4 ⟨z',H4,I4,r4,q4⟩=>ho' pins s4 σ H4 y z' u w' Q I4 r2 r4 q4))
theorem b8x{op op':CmpOp}{r r':R2}(ho:OpR X (u6 op) r)(ho':OpR X (u6 op') r')(ha:PE X a ta)(hb:PE X b tb)(hc:PE X c tc)
  (hm:c5x [op,op'] [b,c]=false:=by with_unfolding_all rfl):PT X (.Compare a [op,op'] [b,c] pos) (C8 (a4d r r' ta tb tc)):=by
 intro pins s σ H Q I h
 refine isTrue_chain (thn (ha pins s σ H _ I h) fun v s1 ⟨x,H1,I1,r1,q1⟩=>test_link (thn (hb pins s1 σ H1 _ I1 q1) fun u s2 ⟨y,H2,I2,r2,q2⟩=>
  thn (ho pins s2 σ H2 x y v u _ I2 r1 r2 q2) fun d s3 ⟨z,H3,I3,r3,k,e,q3⟩=>?_)) hm
 subst e
 cases r3
 refine J0 ?_
 cases k with
 | false=>
  obtain⟨k',e',q'⟩:=q3
  cases e'
  exact ite_ff ⟨H3,I3,q'⟩
 | true=>
  refine ite_tt (test_last (thn (hc pins s3 σ H3 _ I3 q3) fun w' s4 ⟨z',H4,I4,r4,q4⟩=>thn (ho' pins s4 σ H4 y z' u w' _ I4 r2 r4 q4) fun d' s5 ⟨z2,H5,I5,r5,k2,e2,q5⟩=>?_))
  subst e2
  cases r5
  exact J0 ⟨H5,I5,q5⟩
theorem a5K:(q9:Nat)<2 ^ 63:=by rw[sizeLine_eq];decide
theorem b4z:OpR X (X8 .Add) (fun x y H Q=>∃i j,x=.str i/\y=.str j/\i.length+j.length<=q9/\Q (.str (i++j)) H):=by
 intro pins s σ H x y v u Q I rx ry h
 obtain⟨i,j,rfl,rfl,hz,q⟩:=h
 obtain⟨t,rfl⟩:=rx
 obtain⟨t',rfl⟩:=ry
 exact add_str (fun t' tk=>⟨.str (i++j),H,I.tok _,⟨_,rfl⟩,q⟩) hz
theorem a3Z{x:V}(r:E4 [x] us):∃u,us=[u]/\E1 x u:=by
 cases r with
 | cons r1 r2=>cases r2;exact⟨_,rfl,r1⟩
theorem c2o{x:V}(r:E4 [x,y] us):∃u w',us=[u,w']/\E1 x u/\E1 y w':=by
 cases r with
 | cons r1 r2=>
  cases r2 with
  | cons r3 r4=>cases r4;exact⟨_,_,rfl,r1,r3⟩
theorem b9A:W0 X (.builtin "abs") (fun xs H Q=>∃i,xs=[.int i]/\Q (.int (if i<0 then -i else i)) H):=by
 intro pins s σ H xs us Q I r h
 obtain⟨i,rfl,q⟩:=h
 obtain⟨u,rfl,t,rfl⟩:=a3Z r
 exact call_abs_int fun u tk=>⟨.int (if i<0 then -i else i),H,I.tok _,⟨_,rfl⟩,q⟩
theorem b6W(hc:X.calm=true):W0 X (.builtin "min") (fun xs H Q=>∃i j,xs=[.int i,.int j]/\Q (.int (if j<i then j else i)) H):=by
 intro pins s σ H xs us Q I r h
 obtain⟨i,j,rfl,q⟩:=h
 obtain⟨u,w',rfl,⟨t,rfl⟩,⟨t',rfl⟩⟩:=c2o r
 refine min_two_ints (I.ok.hd hc) fun h' tk k=>⟨_,H,I.kept k,?_,q⟩
 by_cases hj:j<i
 ·rw[if_pos hj,if_pos hj];exact⟨_,rfl⟩
 ·rw[if_neg hj,if_neg hj];exact⟨_,rfl⟩
end
structure b5a(h:Heap)(x dx C:Addr)(mA:Str->Option Value):Prop where
 obj:h.get? x=some (U1 C dx)
 ns:h.Ns1 dx mA
 ne:dx≠x
theorem b6z{mA:Str->Option Value}(n:h.Ns1 dx mA):∃od,h.get? dx=some od/\∀name,a4X name od=some (mA name):=by
 obtain⟨o,es,ep,ho,hd,hk,_,hm⟩:=n
 refine⟨o,ho,fun name=>?_⟩
 have e:=hm name
 unfold nsFind findBy at e
 rw[<-Array.find?_toList]at e
 unfold a4X
 rw[hd]
 dsimp only
 split
 ·rename_i y q
  rw[q]at e
  exact congrArg some e
 ·rename_i q
  rw[q]at e
  have a:es.toList.any (·.refKey)=false:=by
   rw[List.any_eq_false]
   intro y hy
   obtain⟨z,t,hkey⟩:=hk y (Array.mem_toList_iff.mp hy)
   simp[DictEntry.refKey,hkey]
  have a':¬es.toList.any (·.refKey)=true:=by rw[a];exact t6
  rw[if_neg a']
  exact congrArg some e
theorem b5a.look{x:Addr}{mA:Str->Option Value}(I:b5a h x dx C mA):∃od,PySem.W.InstAt h x (U1 C dx) C (some od)/\∀name,a4X name od=some (mA name):=
 let⟨od,ho,hl⟩:=b6z I.ns
 ⟨od,⟨I.obj,rfl,rfl,ho⟩,hl⟩
section
variable {prog:C2}{A:G8}{E:Value->l5->Prop}{K:Fg}{x:Addr}{mA:Str->Option Value}{name:Str}{v:Value}
theorem c1L{expr:Bool}(X:K.In s.heap)(I:b5a s.heap x dx C mA)(hg:a1p K C name=true)(hh:a2N K C=true)
  (ha:D7 K (.ref C) name=some none) (hv:mA name=some v) (hv':b9T v=true) (h:Q v { s with toks:=s.toks+1 }) :
  wpAny (model prog w) A (getAttr (.ref x) name expr) Q E s:=by
 obtain⟨od,J,hl⟩:=I.look
 exact PySem.W.get_value X J (a5Q hg).1 (PySem.W.findObj_own hh ha rfl (by rw[hl,hv])) hv' h
theorem b9l{pl:Sem Bool}{Q:Value×List Value->l5->Prop}(X:K.In s.heap)(I:b5a s.heap x dx C mA)(hg:a1p K C name=true)
  (hf:D7 K (.ref C) name=some (some (.ref f))) (ht:a7x K (.ref f)=true) (hv:mA name=none) (h:Q (.ref f,[.ref x]) s) :
  wpAny (model prog w) A (b7k (.ref x) name pl) Q E s:=by
 obtain⟨od,J,hl⟩:=I.look
 exact PySem.W.method_fn X J (a5Q hg).1 (a5Q hg).2 hf (beq_iff_eq.mp ht) (by show(a4X name od).map (·.isSome)=some false;rw[hl,hv];rfl) h
theorem c0o{ns:List Str}{Q:Unit->l5->Prop}(X:K.In s.heap)(I:b5a s.heap x dx C mA)
  (hs:D7 K (.ref C) "__setattr__" = some (some (.builtin "object.__setattr__"))) (hp:a7v K C=true) (ht:a9r K C name=some none) (hh:a2N K C=true)
  (hw:PySem.Within mA ns) (hsz:ns.length<=q9)
  (h:∀h',b5a h' x dx C (fun y=>if y=name then some v else mA y)->Heap.SameBut dx s.heap h'->Q () { s with heap:=h',toks:=s.toks+2 }) :
  wpAny (model prog w) A (setAttr (.ref x) name v) Q E s:=by
 obtain⟨od,J,hl⟩:=I.look
 refine PySem.W.set_plain X J hs (PySem.W.osa_open (s:={ s with toks:=s.toks+1 }) (r:=none) X J hp ht fun b=>?_)
 obtain⟨cd,hc,hd'⟩:=PySem.W.any_some hh
 have hx:s.heap.get? x=some ⟨.ref C,some dx,.plain,#[]⟩:=I.obj
 refine d4 (u0 (d4 (d4 (wpAny_loadPart hx (d4 (PySem.W.Looks.here (s:={ s with toks:=s.toks+1 }) (PySem.W.looks_clsIn X hc) ?_))))))
 rw[hd']
 refine u0 (a:=some dx) (d4 (u0 (d4 ?_)))
 refine wpAny_nsSet1 (s:={ s with toks:=s.toks+1 }) I.ns fun h' hn2 hs2=>?_
 obtain⟨oD,esD,epD,hoD,hdD,hcD⟩:=hn2.count (PySem.Within.cons name v hw)
 refine d4 (wpAny_lookBehind hoD (by rw[hdD];exact pastItsLine_dict (F6 hcD (by rw[C0];omega))) ?_)
 exact u0 (h _ ⟨(hs2.2 _ (Ne.symm I.ne)).trans I.obj,hn2,I.ne⟩ hs2)
theorem b9a{R:b7m->l5->Prop}{vs:List Value}{kw:List (Str×Value)}(X:K.In s.heap)(hm:a3P K C=true)
  (hi:D7 K (.ref C) "__init__" = some (some (.ref f))) (hf:PySem.W.typeIn K (.ref f)=some (.type "function"))
  (h:a3V (model prog w) (A.under (.builtin "type.__call__" ⟨.ref C::vs,kw⟩)) (.call (.ref f) ⟨.ref (s.heap.objs.size+1)::vs,kw⟩) (PySem.W.InitBack (s.heap.objs.size+1) R)
   { s with heap:=(s.heap.push M8).push (U1 C s.heap.objs.size) }) :
  a3V (model prog w) A (.call (.ref C) ⟨vs,kw⟩) R s:=by
 obtain⟨hh,g,d,t,os⟩:=s
 exact PySem.W.make_core (PySem.W.makes_of X hm) (PySem.W.looks_findIn X hi) (fun self=>PySem.W.bind_fn X self hf) (.inl rfl) h
end
def a2q(f:Str)(v:V):List (Str×V)->List (Str×V)
 | []=>[(f,v)]
 | (g,x)::r=>if g=f then (g,v)::r else (g,x)::a2q f v r
theorem a7G(f g:Str)(v:V):∀fs:List (Str×V),(a2q f v fs).lookup g=if g=f then some v else fs.lookup g
 | []=>by
  show a1Q g [(f,v)]=_
  by_cases h:g=f
  ·have hb:(g == f)=true:=beq_iff_eq.mpr h
   simp only[a1Q,hb,if_pos h]
  ·have hb:(g == f)=false:=beq_eq_false_iff_ne.mpr h
   simp only[a1Q,hb,if_neg h]
 | (k,x)::r=>by
  have ih:=a7G f g v r
  rw[show a2q f v ((k,x)::r)=(if k=f then (k,v)::r else (k,x)::a2q f v r)from rfl]
  by_cases hk:k=f
  ·rw[if_pos hk]
   by_cases h:g=k
   ·have hb:(g == k)=true:=beq_iff_eq.mpr h
    simp only[a1Q,hb,if_pos (h.trans hk)]
   ·have hb:(g == k)=false:=beq_eq_false_iff_ne.mpr h
    simp only[a1Q,hb,if_neg (fun e:g=f=>h (e.trans hk.symm))]
  ·rw[if_neg hk]
   by_cases h:g=k
   ·have hb:(g == k)=true:=beq_iff_eq.mpr h
    simp only[a1Q,hb,if_neg (fun e:g=f=>hk (h.symm.trans e))]
   ·have hb:(g == k)=false:=beq_eq_false_iff_ne.mpr h
    simp only[a1Q,hb]
    exact ih
theorem a7m(f:Str)(v:V):∀fs:List (Str×V),f∈(a2q f v fs).map (·.1)/\∀g,g∈fs.map (·.1)->g∈(a2q f v fs).map (·.1)
 | []=>⟨by simp[a2q],fun g h=>by simp at h⟩
 | (k,x)::r=>by
  obtain⟨i1,i2⟩:=a7m f v r
  rw[show a2q f v ((k,x)::r)=(if k=f then (k,v)::r else (k,x)::a2q f v r)from rfl]
  by_cases hk:k=f
  ·rw[if_pos hk]
   subst hk
   exact⟨by simp,fun g h=>by simpa using h⟩
  ·rw[if_neg hk]
   refine⟨?_,fun g h=>?_⟩
   ·rw[E8]
    exact A9 _ i1
   ·rw[E8]at h ⊢
    rcases d5.mp h with e | e
    ·exact d5.mpr (.inl e)
    ·exact A9 _ (i2 g e)
theorem a7H(f:Str)(v:V):∀fs:List (Str×V),(a2q f v fs).length<=fs.length+1
 | []=>by simp[a2q]
 | (k,x)::r=>by
  have ih:=a7H f v r
  rw[show a2q f v ((k,x)::r)=(if k=f then (k,v)::r else (k,x)::a2q f v r)from rfl]
  by_cases hk:k=f
  ·rw[if_pos hk,C0,C0];omega
  ·rw[if_neg hk,C0,C0];omega
theorem a4U.some_of{o:Option Value}(r:a4U (some v) o):∃u,o=some u/\E1 v u:=by
 cases o with
 | none=>exact(show False from r).elim
 | some u=>exact⟨u,rfl,r⟩
theorem a4U.none_of{o:Option Value}(r:a4U none o):o=none:=by
 cases o with
 | none=>rfl
 | some u=>exact(show False from r).elim
theorem b6H(r:E1 v u):b9T u=true:=by
 cases v with
 | non=>cases (show u=Value.none from r);rfl
 | bl b=>cases (show u=Value.bool b from r);rfl
 | int i=>obtain⟨t,e⟩:=(show ∃t,u=Value.int i t from r);cases e;rfl
 | str x=>obtain⟨t,e⟩:=(show ∃t,u=Value.str x t from r);cases e;rfl
 | byt b=>obtain⟨t,e⟩:=(show ∃t,u=Value.bytes b t from r);cases e;rfl
 | flt b=>obtain⟨t,e⟩:=(show ∃t,u=Value.float b t from r);cases e;rfl
 | ref a=>cases (show u=Value.ref a from r);rfl
 | ty n=>cases (show u=Value.type n from r);rfl
section
variable {P:C2}{fs fs':List (Str×V)}
theorem a8c(hok:HOk P w H h)(e:H a=some (.ins C dx fs)):∃mA,b5a h a dx C mA/\(∀f,a4U (fs.lookup f) (mA f))/\PySem.Within mA (fs.map (·.1))/\fs.length<=1000/\H dx=some (.own a):=by
 obtain⟨d,z,ne,ob,mA,n,r,q⟩:=(show V9 P w H h a (.ins C dx fs)from hok a _ e)
 exact⟨mA,⟨ob,n,ne⟩,r,q,z,d⟩
end
structure Cls(K:Fg)(C:Addr):Prop where
 pg:a1p K C Str.empty=true
 hd:a2N K C=true
 po:a7v K C=true
 sa:D7 K (.ref C) "__setattr__" = some (some (.builtin "object.__setattr__"))
theorem Cls.get{K:Fg}(c:Cls K C)(f:Str):a1p K C f=true:=c.pg
def a2o(K:Fg)(C:Addr)(f:Str):Prop:=D7 K (.ref C) f=some none
theorem a2o.taker{K:Fg}{f:Str}(n:a2o K C f):a9r K C f=some none:=by
 unfold a9r
 rw[show D7 K (.ref C) f=some none from n]
 rfl
structure Con(K:Fg)(C:Addr)(f:Str)(v:V)(u:Value):Prop where
 at_:D7 K (.ref C) f=some (some u)
 rel:E1 v u
 get:a7u K u "__get__" = some none
 cp:PySem.W.copiedNames.contains f=false
structure c5c(K:Fg)(C:Addr)(m:Str)(f:Addr):Prop where
 at_:D7 K (.ref C) m=some (some (.ref f))
 fn:a7x K (.ref f)=true
 kp:R6 K (.ref f)=true
section
variable {fs:List (Str×V)}{f:Str}{A:G8}{E:Value->l5->Prop}
theorem b4N{b:Bool}(I:Inv X pins σ H s)(e:H a=some (.ins C dx fs))(c:Cls X.K C)(n:a2o X.K C f)(l:fs.lookup f=some v)
  (h:∀u s',Inv X pins σ H s'->E1 v u->Q u s'):wpAny (model X.prog X.w) A (getAttr (.ref a) f b) Q E s:=by
 obtain⟨mA,O,r,_,_,_⟩:=a8c I.hok e
 obtain⟨u,hu,ru⟩:=a4U.some_of (v:=v) (o:=mA f) (by rw[<-l];exact r f)
 exact c1L I.kIn O (c.get f) c.hd n hu (b6H ru) (h u _ (I.tok _) ru)
theorem b4M{m:Str}{g:Addr}{pl:Sem Bool}{Q:Value×List Value->l5->Prop}(I:Inv X pins σ H s)(e:H a=some (.ins C dx fs))(c:Cls X.K C)(k:c5c X.K C m g)(l:fs.lookup m=none)
  (h:Q (.ref g,[.ref a]) s):wpAny (model X.prog X.w) A (b7k (.ref a) m pl) Q E s:=by
 obtain⟨mA,O,r,_,_,_⟩:=a8c I.hok e
 have hn:mA m=none:=a4U.none_of (by rw[<-l];exact r m)
 exact b9l I.kIn O (c.get m) k.at_ k.fn hn h
theorem b4a{Q:Unit->l5->Prop}(I:Inv X pins σ H s)(e:H a=some (.ins C dx fs))(c:Cls X.K C)(n:a2o X.K C f)(hl:fs.length<1000)(ry:E1 y u)
  (h:∀s',Inv X pins σ (upd H a (.ins C dx (a2q f y fs))) s'->Q () s'):wpAny (model X.prog X.w) A (setAttr (.ref a) f u) Q E s:=by
 obtain⟨mA,O,r,wi,_,ho⟩:=a8c I.hok e
 have hz:(fs.map (·.1)).length<=q9:=by rw[b7,sizeLine_eq];omega
 refine c0o I.kIn O c.sa c.po n.taker c.hd wi hz fun h' O' sb=>h _ ?_
 have hd:∃o,h'.get? dx=some o:=let⟨o,_,_,e',_⟩:=O'.ns; ⟨o,e'⟩
 refine I.write (x:=a) (e:=dx) (by rw[e];exact True.intro) (.inr ho) (fun b q hb z=>(sb.2 b hb).trans z) hd ?_
 refine⟨by rw[l7 O.ne];exact ho,?_,O.ne,O'.obj,_,O'.ns,fun g=>?_,fun g hg=>?_⟩
 ·have:=a7H f y fs;omega
 ·show a4U ((a2q f y fs).lookup g) (if g=f then some u else mA g)
  rw[a7G]
  by_cases q:g=f
  ·rw[if_pos q,if_pos q];exact ry
  ·rw[if_neg q,if_neg q];exact r g
 ·by_cases q:g=f
  ·rw[q];exact(a7m f y fs).1
  ·refine(a7m f y fs).2 g (wi g fun z=>hg ?_)
   show(if g=f then some u else mA g)=none
   rw[if_neg q];exact z
theorem Inv.made(I:Inv X pins σ H s):Inv X pins σ (upd (upd H s.heap.objs.size (.own (s.heap.objs.size+1))) (s.heap.objs.size+1) (.ins C s.heap.objs.size []))
  { s with heap:=(s.heap.push M8).push (U1 C s.heap.objs.size) }:=by
 have e1:(s.heap.push M8).get? s.heap.objs.size=some M8:=y7 s.heap rfl
 have e2:((s.heap.push M8).push (U1 C s.heap.objs.size)).get? (s.heap.objs.size+1)=some (U1 C s.heap.objs.size):=by
  have:=y7 (s.heap.push M8) (o:=U1 C s.heap.objs.size) rfl
  rwa [c5s]at this
 have e3:(s.heap.push M8).Ns s.heap.objs.size (fun _=>none):=⟨M8,#[],_,e1,rfl,(fun e he=>absurd he (by simp)),fun _=>rfl⟩
 have I1:=I.laid (a:=s.heap.objs.size) (o:=.own (s.heap.objs.size+1)) (h':=s.heap.push M8) (t':=s.toks) (fun b u q=>g7 _ q) (g9 _) ⟨_,e1⟩
 refine I1.laid (a:=s.heap.objs.size+1) (o:=.ins C s.heap.objs.size []) (t':=s.toks) (fun b u q=>g7 _ q) (Nat.le_of_eq (c5s _ _)) ?_
 have ne:s.heap.objs.size≠s.heap.objs.size+1:=u7 (c5l _)
 refine⟨by rw[l7 ne,d6],J7 _,ne,e2,fun _=>none,(Heap.Ns1.of_empty e3).at fun o q=>g7 _ q,fun _=>True.intro,fun y hy=>absurd rfl hy⟩
theorem c1V{prog:C2}{env:Env}(hb:W9 e f env (eval e env)=eval e env)
  (h:wpAny (model prog w) A (eval e env) (fun o s₁=>wpAny (model prog w) A (getAttr o f true) Q E s₁) E s):wpAny (model prog w) A (eval (.Attribute e f pos) env) Q E s:=
 Attribute_any_ h (by rw[arm_eval_Attribute,hb])
end
def a3h(K:Fg)(ta:TE)(f:Str):TE:=fun σ H Q=>ta σ H fun x H1=>∃a C dx fs v,x=.ref a/\H1 a=some (.ins C dx fs)/\Cls K C/\a2o K C f/\fs.lookup f=some v/\Q v H1
def b6d(K:Fg)(ta tv:TE)(f:Str):TS:=fun D σ H=>tv σ H fun y H1=>ta σ H1 fun x H2=>∃a C dx fs,x=.ref a/\H2 a=some (.ins C dx fs)/\Cls K C/\a2o K C f/\fs.length<1000 /\
 D.nx σ (upd H2 a (.ins C dx (a2q f y fs)))
section
variable {o value:Expr}{f:Str}{tpos:Pos}{tv:TE}
theorem c3W(he:PE X e ta)(hb:W9 e f X.env (eval e X.env)=eval e X.env):PE X (.Attribute e f pos) (a3h X.K ta f):=by
 intro pins s σ H Q I h
 refine c1V hb (thn (he pins s σ H _ I h) fun u s1 ⟨x,H1,I1,rx,a,C,dx,fs,v,ex,ea,c,n,l,q⟩=>?_)
 subst ex
 obtain rfl:u=Value.ref a:=rx
 exact b4N I1 ea c n l fun u' s2 I2 ru=>⟨v,H1,I2,ru,q⟩
theorem c3F(ha:PE X o ta)(hv:PE X value tv)(hs:a1S value (some (.Attribute o f pos')) pos.line X.env=pure false):PS X (.Assign [.Attribute o f pos'] value pos) (b6d X.K ta tv f):=by
 intro pins s σ H D I h
 refine plainObj_wpAny_Assign_Attribute (thn (hv pins s σ H _ I h) fun u s1 ⟨y,H1,I1,ry,q⟩=>thn (ha pins s1 σ H1 _ I1 q) fun ov s2 ⟨x,H2,I2,rx,a,C,dx,fs,ex,ea,c,n,l,q2⟩=>?_) hs
 subst ex
 obtain rfl:ov=Value.ref a:=rx
 exact b4a I2 ea c n l ry fun s3 I3=>⟨σ,_,I3,q2⟩
end
section
variable {A:G8}{E:Value->l5->Prop}{c:Value}{b:Bool}
inductive a7s(K:Fg)(H:Hp):V->Value->Prop where
 | non:a7s K H .non (.type "NoneType")
 | bl (x:Bool):a7s K H (.bl x) (.type "bool")
 | int (i:Int):a7s K H (.int i) (.type "int")
 | str (x:Str):a7s K H (.str x) (.type "str")
 | flt (x:UInt64):a7s K H (.flt x) (.type "float")
 | lst {a:Addr} {xs:List V} (e:H a=some (.lst xs)):a7s K H (.ref a) (.type "list")
 | frz {a:Addr} {o:Obj} {xs:List V} (e:H a=some (.frz o (.lst xs))):a7s K H (.ref a) (.type "list")
 | tup {a:Addr} {xs:List V} (e:H a=some (.tup xs)):a7s K H (.ref a) (.type "tuple")
 | dK {a:Addr} {kvs:List (Key×V)} (e:H a=some (.dK kvs)):a7s K H (.ref a) (.type "dict")
 | dT {a:Addr} {kvs:List (List Key×V)} (e:H a=some (.dT kvs)):a7s K H (.ref a) (.type "dict")
 | ins {a C dx:Addr} {fs:List (Str×V)} (e:H a=some (.ins C dx fs)) (cl:Cls K C) (ha:D7 K (.ref C) "__class__" = some (some (.builtin "object.__class__")))
   (hn:a7u K (.builtin "object.__class__") "__get__" = some (some (.builtin "getset_descriptor.__get__"))) (htk:b9Y K (.builtin "object.__class__")=some true)
   (hm:c2H K C (.type "object")=some true):a7s K H (.ref a) (.ref C)
theorem b6C{x:V}{t:Value}(I:Inv X pins σ H s)(rx:E1 x u)(ty:a7s X.K H x t)(e:c2f X.K t c=some b)(h:∀tk,Q (.bool b) { s with toks:=tk }) :
  wpAny (model X.prog X.w) A (call (.builtin "isinstance") [u,c]) Q E s:=by
 cases ty with
 | non=>cases (show u=Value.none from rx);exact L1 PySem.W.kitx_none I.kIn True.intro e (fun z=>nomatch z) h
 | bl y=>cases (show u=Value.bool y from rx);exact L1 PySem.W.kitx_bool I.kIn True.intro e (fun z=>nomatch z) h
 | int i=>obtain⟨t,q⟩:=(show ∃t,u=Value.int i t from rx);cases q;exact L1 PySem.W.kitx_int I.kIn True.intro e (fun z=>nomatch z) h
 | str y=>obtain⟨t,q⟩:=(show ∃t,u=Value.str y t from rx);cases q;exact L1 PySem.W.kitx_str I.kIn True.intro e (fun z=>nomatch z) h
 | flt y=>obtain⟨t,q⟩:=(show ∃t,u=Value.float y t from rx);cases q;exact L1 PySem.W.kitx_float I.kIn True.intro e (fun z=>nomatch z) h
 | @lst a xs ea=>
  cases (show u=Value.ref a from rx)
  obtain⟨_,_,n,_,h1⟩:=(show V9 X.prog X.w H s.heap a (.lst xs)from I.hok a _ ea)
  exact L1 b7d I.kIn ⟨_,h1,rfl⟩ e (fun z=>nomatch z) h
 | @frz a ob xs ea=>
  cases (show u=Value.ref a from rx)
  obtain⟨_,_,_,n,_,h1⟩:=(show V9 X.prog X.w H s.heap a (.frz ob (.lst xs))from I.hok a _ ea)
  exact L1 b7d I.kIn ⟨_,h1,rfl⟩ e (fun z=>nomatch z) h
 | @tup a xs ea=>
  cases (show u=Value.ref a from rx)
  obtain⟨_,_,_,p⟩:=(show V9 X.prog X.w H s.heap a (.tup xs)from I.hok a _ ea)
  obtain⟨o,h1,h2,_⟩:=p
  exact L1 PySem.W.kitx_tuple I.kIn ⟨o,h1,h2⟩ e (fun z=>nomatch z) h
 | @dK a kvs ea=>
  cases (show u=Value.ref a from rx)
  obtain⟨_,_,vs,_,p⟩:=(show V9 X.prog X.w H s.heap a (.dK kvs)from I.hok a _ ea)
  obtain⟨o,es,ep,h1,h2,_⟩:=p
  exact L1 b7e I.kIn ⟨o,h1,h2.1⟩ e (fun z=>nomatch z) h
 | @dT a kvs ea=>
  cases (show u=Value.ref a from rx)
  obtain⟨_,_,xs,_,o,es,ep,h1,h2,_⟩:=(show V9 X.prog X.w H s.heap a (.dT kvs)from I.hok a _ ea)
  exact L1 b7e I.kIn ⟨o,h1,h2.1⟩ e (fun z=>nomatch z) h
 | @ins a C dx fs ea cl ha hn htk hm=>
  cases (show u=Value.ref a from rx)
  obtain⟨mA,O,_⟩:=a8c I.hok ea
  obtain⟨od,J,_⟩:=O.look
  exact L1 (PySem.W.kitx_own (cl.get _) cl.hd ha hn htk hm) I.kIn J e (fun z=>nomatch z) h
end
structure P7(k:Nat)(A:G8):Prop where
 hd:A.handled=none
 dp:A.depth+3 * k+5<recursionLimit
 un:A.units+16 * k+200<cLine
theorem P7.mono{j k:Nat}{A:G8}(r:P7 k A)(h:j<=k):P7 j A:=⟨r.hd,by have:=r.dp;omega,by have:=r.un;omega⟩
theorem P7.deeper{k:Nat}{A:G8}(r:P7 (k+1) A)(env:Env):P7 k (A.deeper env):=
 ⟨r.hd,by have:=r.dp;show A.depth+1+3 * k+5<_;omega,by have:=r.un;show A.units+3+16 * k+200<_;omega⟩
theorem b4J{A:G8}{kw:List (Str×Value)}:(A.under (.builtin "type.__call__" ⟨.ref C::us,kw⟩)).depth=A.depth+1:=by
 first | rfl | simp[Around.under,Code.weight,Code.isCreation,Code.isGuard,Code.isCaller,Code.frames,Code.isFrame,guardIds]
theorem b4I{A:G8}{kw:List (Str×Value)}:(A.under (.builtin "type.__call__" ⟨.ref C::us,kw⟩)).units=A.units+1:=by
 first | rfl | simp[Around.under,Code.cUnits,Code.frames,Code.isFrame]
theorem P7.make{k:Nat}{A:G8}(r:P7 (k+1) A)(C:Addr)(us:List Value)(kw:List (Str×Value)):P7 k (A.under (.builtin "type.__call__" ⟨.ref C::us,kw⟩)):=
 ⟨r.hd,by have:=r.dp;rw[b4J];omega,by have:=r.un;rw[b4I];omega⟩
theorem P7.depth{k:Nat}{A:G8}(r:P7 k A):A.depth<recursionLimit:=by have:=r.dp;omega
theorem P7.units{k:Nat}{A:G8}(r:P7 k A):A.units+64<cLine:=by have:=r.un;omega
theorem P7.units0{k:Nat}{A:G8}(r:P7 k A):A.units<cLine:=by have:=r.un;omega
def i9:TA:=fun _ H Q=>Q [] H
def b6(ta:TE)(tr:TA):TA:=fun σ H Q=>ta σ H fun x H1=>tr σ H1 fun xs H2=>Q (x::xs) H2
section
variable {t:TA}
theorem c4a:PA X [] i9:=fun _ _ _ _ H Q I h=>Calls.spliced_nil ⟨[],H,I,.nil,h⟩
theorem c1c(ha:PE X e te)(hr:PA X es t)(hs:i8 (e::es) X.env=(false,eval e X.env)::i8 es X.env:=by rfl):PA X (e::es) (b6 te t):=by
 intro pos pins s σ H Q I h
 rw[hs]
 show wpAny _ _ (spliced ((false,eval e X.env)::W8 pos (i8 es X.env))) _ _ s
 refine Calls.spliced_cons (thn (ha pins s σ H _ I h) fun u s1 ⟨x,H1,I1,r1,q1⟩=>?_)
 exact thn (hr pos pins s1 σ H1 _ I1 q1) fun us s2 ⟨xs,H2,I2,r2,q2⟩=>⟨x::xs,H2,I2,.cons r1 r2,q2⟩
def a0S(t:TA):TE:=fun σ H Q=>t σ H fun xs H1=>xs.length<=q9/\∀p,H1 p=none->Q (.ref p) (upd H1 p (.tup xs))
def a0T(t:TA):TE:=fun σ H Q=>t σ H fun xs H1=>xs.length<=q9/\∀p,H1 p=none->Q (.ref p) (upd H1 p (.lst xs))
theorem c3N{x1}(h:PA X es t):PE X (.Tuple es x1 pos) (a0S t):=by
 intro pins s σ H Q I hq
 refine wpAny_Tuple_spliced (thn (h pos pins s σ H _ I hq) fun us s1 ⟨xs,H1,I1,r,z,q⟩=>⟨by rw[<-r.length];exact z,?_⟩)
 have hf:H1 s1.heap.objs.size=none:=I1.hok.fresh (g9 _)
 refine⟨.ref s1.heap.objs.size,upd H1 s1.heap.objs.size (.tup xs),I1.laid (t':=s1.toks) (fun b u e=>g7 _ e) (g9 _) ?_,rfl,q _ hf⟩
 exact⟨z,us,r,⟨_,y7 _ rfl,rfl,_,rfl⟩⟩
theorem c3U(h:PA X es t):PE X (.List es pos) (a0T t):=by
 intro pins s σ H Q I hq
 refine wpAny_List_spliced (thn (h pos pins s σ H _ I hq) fun us s1 ⟨xs,H1,I1,r,z,q⟩=>⟨by rw[<-r.length];exact z,?_⟩)
 have hf:H1 s1.heap.objs.size=none:=I1.hok.fresh (g9 _)
 refine⟨.ref s1.heap.objs.size,upd H1 s1.heap.objs.size (.lst xs),I1.laid (t':=s1.toks) (fun b u e=>g7 _ e) (g9 _) ?_,rfl,q _ hf⟩
 exact⟨z,us,0,r,y7 _ rfl⟩
end
abbrev Sp:=List V->Hp->VK->XK->Prop
abbrev CXT:=List Env->Hp->l5->XK->Value->l5->Prop
variable{CX:CXT}
structure b5b(P:C2)(w:World)(K:Fg)(mg:Str->Option Value)(base:Heap)(A:G8)(outer:List Env)(s:l5)(H:Hp):Prop where
 frames:A.frames=some outer
 mod:Mod K mg base
 bs:∀b o,base.get? b=some o->s.heap.get? b=some o/\H b=none
 bsz:base.objs.size<=s.heap.objs.size
 funs:s.heap.FunFrames base outer
 frf:∀b∈frs outer,H b=none
 hok:HOk P w H s.heap
 bare:b0w s.gens
def CE(outer:List Env)(P:C2)(w:World)(H:Hp)(s:l5)(Q:VK)(u:Value)(s':l5):Prop:=
 ∃v H',s'.os=s.os/\b0w s'.gens/\Un (frs outer) [] H H' s.heap s'.heap/\HOk P w H' s'.heap/\E1 v u/\Q v H'
def CR(CX:CXT)(outer:List Env)(P:C2)(w:World)(H:Hp)(s:l5)(Q:VK)(E:XK)(r:b7m)(s':l5):Prop:=
 match r with
 | .ok (.ret u)=>CE outer P w H s Q u s'
 | .ok _=>False
 | .error e=>CX outer H s E e s'
structure K0(P:C2)(w:World)(K:Fg)(mg:Str->Option Value)(base:Heap)(CX:CXT)(k:Nat)(f:Addr)(fd:X9)(ps:List Str)(sp:Sp):Prop where
 len:∀vs H Q E,sp vs H Q E->vs.length=ps.length
 run:∀(A:G8) (outer:List Env) (s:l5) (H:Hp) (args:Args) (us:List Value) (vs:List V) (Q:VK) (E:XK),P7 k A->b5b P w K mg base A outer s H->b7n s fd args (ps.zip us)->E4 vs us->sp vs H Q E ->
  a3V (model P w) A (.call (.ref f) args) (CR CX outer P w H s Q E) s
theorem b5b.make{P:C2}{K:Fg}{mg:Str->Option Value}{base:Heap}{A:G8}{outer:List Env}(e:b5b P w K mg base A outer s H)(C:Addr)(us:List Value)(kw:List (Str×Value)) :
  b5b P w K mg base (A.under (.builtin "type.__call__" ⟨.ref C::us,kw⟩)) outer s H:=⟨by first | exact e.frames | (simpa[Around.under,Code.envs,Code.isFrame,pushEnvs]using e.frames),e.mod,e.bs,e.bsz,e.funs,e.frf,e.hok,e.bare⟩
section
variable {s':l5}
theorem Inv.env0(I:Inv X pins σ H s):b5b X.prog X.w X.K X.mg X.base X.A X.stack s H:=
 ⟨I.ok.frames,I.ok.mod,I.bs,F6 I.ok.bsz I.sz,I.stack,I.stkFree,I.hok,I.bare⟩
theorem Inv.after{Q:VK}(I:Inv X pins σ H s)(h:CE X.stack X.prog X.w H s Q u s'):EP X pins σ Q u s':=by
 obtain⟨v,H',os,bare,un,hok,r,q⟩:=h
 obtain⟨hh,g,d,t,os'⟩:=s'
 obtain rfl:os'=s.os:=os
 exact⟨v,H',I.call (h':=hh) (g':=g) (d':=d) (t':=t) (ch:=[]) un hok bare (fun b z=>absurd z (by simp)),r,q⟩
end
def v7(sp:Sp)(dvs:List V)(E:XK)(t:TA):TE:=fun σ H Q=>t σ H fun vs H1=>sp (vs++dvs) H1 Q E
def b0c(C:Addr)(m:Str)(sp:Sp)(dvs:List V)(E:XK)(ta:TE)(t:TA):TE:=fun σ H Q=>ta σ H fun x H1=>∃a dx fs,x=.ref a/\H1 a=some (.ins C dx fs)/\fs.lookup m=none /\
 t σ H1 fun vs H2=>sp (x::(vs++dvs)) H2 Q E
def a8z(C:Addr)(sp:Sp)(dvs:List V)(E:XK)(t:TA):TE:=fun σ H Q=>t σ H fun vs H1=>∀x dx,H1 x=none->H1 dx=none->dx≠x ->
 sp (.ref x::(vs++dvs)) (upd (upd H1 dx (.own x)) x (.ins C dx [])) (fun v H2=>v=.non/\Q (.ref x) H2) E
def a3L(K:Fg)(fd:X9)(ps:List Str)(ds:List Value):Prop:=
 ∀(s:l5) (us:List Value),K.In s.heap->(us++ds).length=ps.length->b7n s fd ⟨us,[]⟩ (ps.zip (us++ds))
theorem a3L.all{K:Fg}{fd:X9}(h:∀us:List Value,us.length=ps.length->bindArgs fd ⟨us,[]⟩=pure (ps.zip us)):a3L K fd ps []:=fun s us _ hl=>by
 rw[c5o]at hl ⊢
 exact .of_eq (h us hl)
def a7t(CX:CXT)(X:Cx)(E:XK):Prop:=∀(pins:List (Addr×Obj)) (σ:St) (H:Hp) (s:l5) (e:Value) (s':l5),Inv X pins σ H s->CX X.stack H s E e s'->X.xe e s'
section
variable {k:Nat}{fd:X9}{sp:Sp}{dvs:List V}{ds:List Value}{E:XK}{x m:Str}{apos:Pos}{o:Expr}{t:TA}
theorem b8k{Q:VK}{vs:List V}(F:K0 X.prog X.w X.K X.mg X.base CX k f fd ps sp)(hr:P7 k X.A)(hb:a3L X.K fd ps ds)(hd:E4 dvs ds)(hx:a7t CX X E)
  (I:Inv X pins σ H s) (r:E4 vs us) (h:sp (vs++dvs) H Q E):wpAny (model X.prog X.w) X.A (call (.ref f) us) (EP X pins σ Q) X.xe s:=by
 have r2:E4 (vs++dvs) (us++ds):=r.append hd
 have hl:(us++ds).length=ps.length:=by rw[<-r2.length];exact F.len _ _ _ _ h
 refine wpAny_call (b5d (F.run X.A X.stack s H ⟨us,[]⟩ (us++ds) (vs++dvs) Q E hr I.env0 (hb s us I.kIn hl) r2 h) fun r s' hq=>?_)
 cases r with
 | error e=>exact hx pins σ H s e s' I hq
 | ok fl=>
  cases fl with
  | ret u=>exact I.after hq
  | next=>exact False.elim hq
  | brk=>exact False.elim hq
  | cont=>exact False.elim hq
theorem c1a(F:K0 X.prog X.w X.K X.mg X.base CX k f fd ps sp)(hr:P7 k X.A)(hg:Gl X x)(hm:X.mg x=some (.ref f))(hk:R6 X.K (.ref f)=true)(hb:a3L X.K fd ps ds)(hd:E4 dvs ds)(hx:a7t CX X E)
  (ha:PA X (e::es) t) (hdb:(x == ("__debug__" : Str))=false:=by decide) (he:i8 (e::es) X.env=(false,eval e X.env)::i8 es X.env:=by rfl) (hpl:(W8 pos (i8 es X.env)).any (·.1)=false:=by rfl) :
  PE X (.Call (.Name x p) (e::es) [] pos) (v7 sp dvs E t):=by
 intro pins s σ H Q I h
 refine a0r (b1q I hg hm ?_ hdb)
 refine a6F (h₀:=X.base) I.ok.mod.kin hk (thn (ha pos pins s σ H _ I h) fun us s1 ⟨vs,H1,I1,r,q⟩=>⟨I1.kIn,?_⟩) he hpl
 exact b8k F hr hb hd hx I1 r q
theorem c0U{pl:Sem Bool}(he:PE X o ta)(c:Cls X.K C)(hm:c5c X.K C m f)(F:K0 X.prog X.w X.K X.mg X.base CX k f fd ps sp)(hr:P7 k X.A)(hb:a3L X.K fd ps ds)(hd:E4 dvs ds)(hx:a7t CX X E)(ha:PA X (e::es) t)
  (hst:i8 (e::es) X.env=(false,eval e X.env)::i8 es X.env:=by rfl) (hpl:(W8 pos (i8 es X.env)).any (·.1)=false:=by rfl)
  (ht:eval (.Call (.Attribute o m apos) (e::es) [] pos) X.env=(do
   let ov <-eval o X.env
   b7j apos.atName
   let(f,first) <-a3U [ov] (b7k ov m pl)
   callWith pos f first (W8 pos (i8 (e::es) X.env)) (a9t pos (a2G [] X.env))):=by rfl) :
  PE X (.Call (.Attribute o m apos) (e::es) [] pos) (b0c C m sp dvs E ta t):=by
 intro pins s σ H Q I h
 refine PySem.W.methodCall_KW (pl:=pl) (thn (he pins s σ H _ I h) fun u s1 ⟨x,H1,I1,rx,a,dx,fs,ex,ea,l,q⟩=>?_) ht
 subst ex
 obtain rfl:u=Value.ref a:=rx
 refine b4M I1 ea c hm l ?_
 refine a6F (first:=[.ref a]) (h₀:=X.base) I.ok.mod.kin hm.kp (thn (ha pos pins s1 σ H1 _ I1 q) fun us s2 ⟨vs,H2,I2,r,q2⟩=>⟨I2.kIn,?_⟩) hst hpl
 exact b8k (us:=.ref a::us) (vs:=.ref a::vs) F hr hb hd hx I2 (.cons rfl r) q2
structure Mk(K:Fg)(C f:Addr):Prop where
 makes:a3P K C=true
 init:D7 K (.ref C) "__init__" = some (some (.ref f))
 fn:a7x K (.ref f)=true
 kp:R6 K (.ref C)=true
theorem b8j{Q:VK}{vs:List V}(M:Mk X.K C f)(F:K0 X.prog X.w X.K X.mg X.base CX k f fd ps sp)(hr:P7 (k+1) X.A)(hb:a3L X.K fd ps ds)(hd:E4 dvs ds)
  (hx:a7t CX X E) (I:Inv X pins σ H s) (r:E4 vs us)
  (h:∀x dx,H x=none->H dx=none->dx≠x->sp (.ref x::(vs++dvs)) (upd (upd H dx (.own x)) x (.ins C dx [])) (fun v H2=>v=.non/\Q (.ref x) H2) E) :
  wpAny (model X.prog X.w) X.A (call (.ref C) us) (EP X pins σ Q) X.xe s:=by
 have hq:=h (s.heap.objs.size+1) s.heap.objs.size (I.hok.fresh (W1 _)) (I.hok.fresh (g9 _)) (u7 (c5l _))
 have I2:=Inv.made (C:=C) I
 have r2:E4 (V.ref (s.heap.objs.size+1)::(vs++dvs)) (Value.ref (s.heap.objs.size+1)::(us++ds)):=.cons rfl (r.append hd)
 have hl:(Value.ref (s.heap.objs.size+1)::us++ds).length=ps.length:=by
  have e:=r2.length
  rw[F.len _ _ _ _ hq]at e
  exact e.symm
 refine wpAny_call (b9a (f:=f) I.kIn M.makes M.init (beq_iff_eq.mp M.fn) (b5d (F.run _ X.stack _ _ ⟨Value.ref (s.heap.objs.size+1)::us,[]⟩ (Value.ref (s.heap.objs.size+1)::(us++ds)) _ _ E (hr.make C us [])
  (I2.env0.make C us []) (hb _ (Value.ref (s.heap.objs.size+1)::us) I2.kIn hl) r2 hq) fun r s' hq'=>?_))
 cases r with
 | error e=>exact hx pins σ _ _ e s' I2 hq'
 | ok fl=>
  cases fl with
  | ret u=>
   obtain⟨v,H',I3,rv,ev,q3⟩:=I2.after hq'
   subst ev
   exact⟨rv,⟨V.ref (s.heap.objs.size+1),H',I3,rfl,q3⟩⟩
  | next=>exact False.elim hq'
  | brk=>exact False.elim hq'
  | cont=>exact False.elim hq'
theorem c0V(M:Mk X.K C f)(F:K0 X.prog X.w X.K X.mg X.base CX k f fd ps sp)(hr:P7 (k+1) X.A)(hg:Gl X x)(hm:X.mg x=some (.ref C))(hb:a3L X.K fd ps ds)(hd:E4 dvs ds)(hx:a7t CX X E)
  (ha:PA X (e::es) t) (hdb:(x == ("__debug__" : Str))=false:=by decide) (he:i8 (e::es) X.env=(false,eval e X.env)::i8 es X.env:=by rfl) (hpl:(W8 pos (i8 es X.env)).any (·.1)=false:=by rfl) :
  PE X (.Call (.Name x p) (e::es) [] pos) (a8z C sp dvs E t):=by
 intro pins s σ H Q I h
 refine a0r (b1q I hg hm ?_ hdb)
 refine a6F (h₀:=X.base) I.ok.mod.kin M.kp (thn (ha pos pins s σ H _ I h) fun us s1 ⟨vs,H1,I1,r,q⟩=>⟨I1.kIn,?_⟩) he hpl
 exact b8j M F hr hb hd hx I1 r q
end
section
variable {k:Nat}{fd:X9}{ks:List Str}{sp:Sp}{E:XK}{x m:Str}{apos kpos:Pos}{o:Expr}{kws:List a6K}{t tk:TA}{nm:Option Str}
structure c7e(K:Fg)(fd:X9)(ps ks:List Str)(g:List Value->List Value->List Value)(gV:List V->List V->List V):Prop where
 to:∀(s:l5) (us ws:List Value),K.In s.heap->(g us ws).length=ps.length->b7n s fd ⟨us,ks.zip ws⟩ (ps.zip (g us ws))
 rel:∀ {vs:List V} {us:List Value} {zs:List V} {ws:List Value},E4 vs us->E4 zs ws->E4 (gV vs zs) (g us ws)
variable {g:List Value->List Value->List Value}{gV:List V->List V->List V}
end
structure A3(N P:List Str)(sc:Scope):Prop where
 kind:sc.kind=.function
 co:sc.isCoroutine=false
 gen:sc.isGenerator=false
 nd:N.Nodup
 pre:N.take P.length=P
 par:∀x∈P,sc.names.lookup x=some .local\/sc.names.lookup x=some .cell
 nofree:∀y∈sc.names,y.2≠.free
theorem b0p{kindOf:Str->Option a5d}{x:Str}:∀ {binds:List (Str×Value)} {m:Str->Option Value},(∀v,(x,v)∉binds)->bindL kindOf binds m x=m x
 | [],_,_=>rfl
 | (n,v)::r,m,h=>by
  unfold bindL
  rw[b0p fun w hw=>h w (A9 _ hw)]
  split
  ·have:x≠n:=by rintro rfl;exact h v D8
   simp[this]
  ·rfl
theorem b0r{kindOf:Str->Option a5d}{x:Str}:∀ {binds:List (Str×Value)} {m:Str->Option Value},(∀v,(x,v)∉binds)->bindC kindOf binds m x=m x
 | [],_,_=>rfl
 | (n,v)::r,m,h=>by
  unfold bindC
  rw[b0r fun w hw=>h w (A9 _ hw)]
  split
  ·rfl
  ·have:x≠n:=by rintro rfl;exact h v D8
   simp[this]
theorem b0q{kindOf:Str->Option a5d}{x:Str}{v:Value}:∀ {P:List Str} {vs:List Value} {i:Nat} {m:Str->Option Value},P.Nodup->P[i]? = some x->vs[i]? = some v->kindOf x=some .local ->
  bindL kindOf (P.zip vs) m x=some v
 | [],_,_,_,_,h,_,_=>by simp at h
 | _::_,[],_,_,_,_,h,_=>by simp at h
 | p::P,w::vs,0,m,nd,h1,h2,hk=>by
  simp at h1 h2;subst h1;subst h2
  show bindL kindOf ((p,w)::P.zip vs) m p=_
  unfold bindL
  rw[b0p fun v hv=>(F0.mp nd).1 (b0u hv).1,if_pos hk]
  simp
 | p::P,w::vs,i+1,m,nd,h1,h2,hk=>by
  show bindL kindOf ((p,w)::P.zip vs) m x=_
  unfold bindL
  exact b0q (i:=i) (F0.mp nd).2 (by simpa using h1) (by simpa using h2) hk
theorem b0s{kindOf:Str->Option a5d}{x:Str}{v:Value}:∀ {P:List Str} {vs:List Value} {i:Nat} {m:Str->Option Value},P.Nodup->P[i]? = some x->vs[i]? = some v->kindOf x≠some .local ->
  bindC kindOf (P.zip vs) m x=some v
 | [],_,_,_,_,h,_,_=>by simp at h
 | _::_,[],_,_,_,_,h,_=>by simp at h
 | p::P,w::vs,0,m,nd,h1,h2,hk=>by
  simp at h1 h2;subst h1;subst h2
  show bindC kindOf ((p,w)::P.zip vs) m p=_
  unfold bindC
  rw[b0r fun v hv=>(F0.mp nd).1 (b0u hv).1,if_neg hk]
  simp
 | p::P,w::vs,i+1,m,nd,h1,h2,hk=>by
  show bindC kindOf ((p,w)::P.zip vs) m x=_
  unfold bindC
  exact b0s (i:=i) (F0.mp nd).2 (by simpa using h1) (by simpa using h2) hk
def a6d(N:List Str)(vs:List V):St:=vs.map some++C7 (N.length - vs.length) none
def b3j(CX:CXT)(P:C2)(w:World)(K:Fg)(mg:Str->Option Value)(base:Heap)(N:List Str)(qual:Str)(scope:Scope)(f:Addr)(cd:Value)(A:G8)(outer:List Env)(s:l5)(H:Hp)(E:XK):Cx where
 prog:=P
 w:=w
 K:=K
 mg:=mg
 base:=base
 A:=A.deeper (b2e qual scope s.heap.objs.size f cd)
 N:=N
 s₀:=s
 H₀:=H
 env:=b2e qual scope s.heap.objs.size f cd
 outer:=outer
 stack:=b2e qual scope s.heap.objs.size f cd::outer
 ex:=[]
 calm:=true
 fn:=fun _=>true
 pn:=[]
 xe:=fun e s'=>wpAny (model P w) (A.deeper (b2e qual scope s.heap.objs.size f cd)) (leaving (b2e qual scope s.heap.objs.size f cd) e) (fun _ s''=>CX outer H s E e s'') (fun e' s''=>CX outer H s E e' s'') s'
theorem b3m{sc:Scope}{n:Nat}{x:Str}(h:sc.names.lookup x=some .cell):∃c,(cellsFrom n sc.names []).lookup x=some c:=by
 have q:=b3B sc.names n [] (.inl h)
 exact U8.mp q
theorem b6F{P:C2}{K:Fg}{mg:Str->Option Value}{base:Heap}{N:List Str}{qual:Str}{scope:Scope}{cd:Value}{A:G8}{outer:List Env}{s1:l5}{E:XK}{vs:List V}
  (S:A3 N ps scope) (hd:A.handled=none) (e0:b5b P w K mg base A outer s H) (hl:vs.length=ps.length) (r:E4 vs us)
  (x:InCallC s s.heap.objs.size (bindL (b2e qual scope s.heap.objs.size f cd).kindOf (ps.zip us) fun _=>none) (cellsFrom (s.heap.objs.size+1) scope.names []) (bindC (b2e qual scope s.heap.objs.size f cd).kindOf (ps.zip us) fun _=>none) s1) :
  Inv (b3j CX P w K mg base N qual scope f cd A outer s H E) [] (a6d N vs) H s1:=by
 have hpl:ps.length<=N.length:=by have:=congrArg b7g S.pre;rw[R7]at this;omega
 obtain⟨h1,tk,rfl,hk⟩:=x.done
 have noA:∀b:Addr,b∉(b3j CX P w K mg base N qual scope f cd A outer s H E).ex:=fun b z=>absurd (show b∈([]:List Addr)from z) (by simp)
 refine⟨⟨e0.mod,S.kind,rfl,rfl,g9 _,fun y z c h1 h2=>?_,fun y hy=>?_,fun y c _ h=>?_,fun _=>hd,Around.frames_deeper e0.frames,.inr ⟨rfl,rfl⟩,fun b z=>absurd z (noA b),e0.bs,e0.bsz,fun b _ _=>noA b,fun b z=>absurd z (noA b),e0.funs,e0.frf⟩,
  rfl,e0.bare,Un.kept hk,⟨_,x.toInCall.ns,fun i y v h1 h2 h3=>?_⟩,fun y c h=>⟨_,x.cell y c h⟩,e0.hok.fresh (g9 _),fun y c h=>?_,fun p hp=>absurd (show p∈([]:List (Addr×Obj))from hp) (by simp),e0.hok.kept hk,?_⟩
 ·exact name_of_addr x.apart (C4 h1) (C4 h2)
 ·have hy:scope.names.lookup y=some .cell\/scope.names.lookup y=some .free:=hy
  rcases hy with hy | hy
  ·exact b3m hy
  ·exact absurd rfl (S.nofree _ (C4 hy))
 ·exact b6Z (x.above y c (C4 h))
 ·have hi:i<vs.length:=by
   unfold a6d at h2
   by_cases hi:i<vs.length
   ·exact hi
   ·rw[M9 (by simpa using hi)]at h2
    rw[M0]at h2
    split at h2 <;> cases h2
  have ha:vs[i]? = some v:=by
   unfold a6d at h2
   rw[C6 (by simpa using hi),c9]at h2
   cases e:vs[i]? with
   | none=>rw[e]at h2;cases h2
   | some a=>rw[e]at h2;cases h2;rfl
  obtain⟨u,hu,rv⟩:=r.get ha
  have hp:ps[i]? = some y:=by
   rw[<-S.pre,List.getElem?_take_of_lt (by omega)];exact h1
  have ndP:ps.Nodup:=by rw[<-S.pre];exact S.nd.sublist (List.take_sublist _ _)
  refine⟨u,rv,?_⟩
  rcases S.par y (V1 hp)with k | k
  ·exact .inl ⟨k,b0q ndP hp hu k⟩
  ·obtain⟨c,e⟩:=b3m (n:=s.heap.objs.size+1) k
   refine .inr ⟨.inl k,c,e,?_⟩
   have q:=x.cell y c e
   rw[b0s ndP hp hu (by show scope.names.lookup y≠_;rw[k];decide)]at q
   exact q
 ·exact e0.hok.fresh (b6Z (x.above y c (C4 h)))
 ·unfold a6d
  show _=N.length
  rw[p5,b7,E9]
  omega
theorem c6u{P:C2}{K:Fg}{mg:Str->Option Value}{base:Heap}{k:Nat}{name qual:Str}{params:Arguments}{body:List Stmt}{scope:Scope}{dV kV doc pm cdv ct oc:Value}{an od:Option Addr}
  {osl:Array (Option Value)} {N ps:List Str} {sp:Sp} (lk:K.lookup f=some ⟨oc,od,.func (Z6 name qual params body scope dV kV doc pm an cdv ct),osl⟩) (hcd:a4Y K cdv qual=true) (S:A3 N ps scope)
  (len:∀vs H Q E,sp vs H Q E->vs.length=ps.length)
  (hbody:∀(A:G8) (outer:List Env) (s:l5) (H:Hp) (vs:List V) (Q:VK) (E:XK),P7 k (A.deeper (b2e qual scope s.heap.objs.size f cdv))->sp vs H Q E ->
   ∃t,PSs (b3j CX P w K mg base N qual scope f cdv A outer s H E) body t/\t { nx:=fun _ H'=>Q .non H',rt:=Q } (a6d N vs) H) :
  K0 P w K mg base CX (k+1) f (Z6 name qual params body scope dV kV doc pm an cdv ct) ps sp:=by
 refine⟨len,fun A outer s H args us vs Q E hr e0 hb r hsp=>?_⟩
 have hl:=len _ _ _ _ hsp
 have KX:K.In s.heap:=e0.mod.kin.keeps fun b o e=>(e0.bs b o e).1
 have lim:s.heap.NoLimit:=e0.mod.nolimit.keeps fun b o e=>(e0.bs b o e).1
 have hkind:∀y∈ps.zip us,scope.names.lookup y.1=some .local\/(scope.names.lookup y.1=some .cell/\((cellsFrom (s.heap.objs.size+1) scope.names []).lookup y.1).isSome=true):=fun⟨n,v⟩ hy=>by
  rcases S.par n (b0u hy).1 with q | q
  ·exact .inl q
  ·exact .inr ⟨q,b3B _ _ _ (.inl q)⟩
 refine codeAny_call_function hr.depth (KX _ _ lk) rfl S.co S.gen rfl (PySem.W.codeRec_of KX hcd) (hb _ _ _ _ ?_)
 refine wpAny_newFunctionEnv_cells S.kind hkind fun env he s1 x=>?_
 subst he
 refine⟨lim.keeps x.toInCall.keep,codeAny_func ?_⟩
 obtain⟨t,ht,hq⟩:=hbody A outer s H vs Q E (hr.deeper _) hsp
 have I:Inv (b3j CX P w K mg base N qual scope f cdv A outer s H E) [] (a6d N vs) H s1:=b6F S hr.hd e0 hl r x
 refine a0K (ht [] s1 (a6d N vs) H _ I hq) (fun fl s' hs=>?_) fun e s' hs=>hs
 have fin:∀ {σ':St} {H':Hp} {v:V} {u:Value},Inv (b3j CX P w K mg base N qual scope f cdv A outer s H E) [] σ' H' s'->E1 v u->Q v H'->CE outer P w H s Q u s':=
  fun {σ' H' v u} J rv q=>⟨v,H',J.os,J.bare,J.base,J.hok,rv,q⟩
 cases fl with
 | ret u=>
  obtain⟨v,σ',H',J,rv,q⟩:=hs
  exact fin J rv q
 | next=>
  obtain⟨σ',H',J,q⟩:=hs
  exact fin (v:=V.non) (u:=Value.none) J rfl q
 | brk=>
  obtain⟨_,_,_,q⟩:=hs
  exact False.elim q
 | cont=>
  obtain⟨_,_,_,q⟩:=hs
  exact False.elim q
section
variable {x:Str}{t:TA}{id T:String}{r:List V->Hp->VK->Prop}
def tCB(r:List V->Hp->VK->Prop)(t:TA):TE:=fun σ H Q=>t σ H fun vs H1=>r vs H1 Q
theorem b8L(hc:W0 X (.builtin id) r)(hg:Gl X x)(hm:X.mg x=none)(hv:R4 x=some (.builtin id))(ha:PA X (e::es) t)(hn:x ≠ "__name__" := by decide)(hdb:(x == ("__debug__" : Str))=false:=by decide)
  (he:i8 (e::es) X.env=(false,eval e X.env)::i8 es X.env:=by rfl) (hpl:(W8 pos (i8 es X.env)).any (·.1)=false:=by rfl):PE X (.Call (.Name x p) (e::es) [] pos) (tCB r t):=by
 intro pins s σ H Q I h
 refine a0r (a4v I hg hm hv ?_ hn hdb)
 exact PyProof.Rows.callWith_builtin1 (thn (ha pos pins s σ H _ I h) fun us s1 ⟨vs,H1,I1,r1,q1⟩=>hc pins s1 σ H1 vs us Q I1 r1 q1) he hpl
theorem b6k(hc:W0 X (.type T) r)(hg:Gl X x)(hm:X.mg x=none)(hv:R4 x=some (.type T))(ha:PA X (e::es) t)(hn:x ≠ "__name__" := by decide)(hdb:(x == ("__debug__" : Str))=false:=by decide)
  (he:i8 (e::es) X.env=(false,eval e X.env)::i8 es X.env:=by rfl) (hpl:(W8 pos (i8 es X.env)).any (·.1)=false:=by rfl):PE X (.Call (.Name x p) (e::es) [] pos) (tCB r t):=by
 intro pins s σ H Q I h
 refine a0r (a4v I hg hm hv ?_ hn hdb)
 exact L3 (thn (ha pos pins s σ H _ I h) fun us s1 ⟨vs,H1,I1,r1,q1⟩=>hc pins s1 σ H1 vs us Q I1 r1 q1) he hpl
end
section
variable {κ:Type}[DecidableEq κ]
def a0w(kvs:List (κ×V))(k:κ):Option V:=(kvs.find? fun kv=>decide (kv.1=k)).map (·.2)
def Y2(kvs:List (κ×V))(k:κ)(v:V):List (κ×V):=
 if(kvs.any fun kv=>decide (kv.1=k))=true then kvs.map (fun kv=>if kv.1=k then (kv.1,v)else kv)else kvs++[(k,v)]
theorem a2U{p:κ×V}{r:List (κ×V)}{k:κ}(e:p.1=k):a0w (p::r) k=some p.2:=by simp[a0w,U7,e]
theorem a2c{p:κ×V}{r:List (κ×V)}{k:κ}(e:¬p.1=k):a0w (p::r) k=a0w r k:=by simp[a0w,U7,e]
theorem a2V(k:κ):∀kvs:List (κ×V),(kvs.any fun kv=>decide (kv.1=k))=(a0w kvs k).isSome
 | []=>rfl
 | p::r=>by
  rw[P3]
  by_cases e:p.1=k
  ·simp only[a2U e,c8s e,Bool.true_or,Option.isSome_some]
  ·rw[a2c e,c8r e,b3J];exact a2V k r
theorem a4u(kvs:List (κ×V))(k:κ)(v:V):(Y2 kvs k v).length<=kvs.length+1:=by
 unfold Y2
 split
 ·rw[b7];omega
 ·rw[p5,C0,a5b];omega
theorem a4U.isSome_eq{o:Option V}{u:Option Value}(r:a4U o u):o.isSome=u.isSome:=by
 cases o with
 | none=>cases u with
  | none=>rfl
  | some _=>exact(show False from r).elim
 | some _=>cases u with
  | none=>exact(show False from r).elim
  | some _=>rfl
theorem a4U.getD{o:Option V}{u:Option Value}{d:V}{d':Value}(r:a4U o u)(rd:E1 d d'):E1 (o.getD d) (u.getD d'):=by
 cases o with
 | none=>cases u with
  | none=>exact rd
  | some _=>exact(show False from r).elim
 | some _=>cases u with
  | none=>exact(show False from r).elim
  | some _=>exact r
theorem KV.val{kvs:List (κ×V)}{vs:List (κ×Value)}(r:KV kvs vs)(k:κ):a4U (a0w kvs k) (c2K vs k):=by
 unfold KV at r
 induction r with
 | nil=>exact True.intro
 | @cons p q ps qs h t ih=>
  obtain⟨h1,h2⟩:=h
  by_cases e:p.1=k
  ·have e':q.1=k:=h1.symm.trans e
   have b:c2K (q::qs) k=some q.2:=by simp[c2K,U7,e']
   rw[a2U e,b];exact h2
  ·have e':¬q.1=k:=fun z=>e (h1.trans z)
   have b:c2K (q::qs) k=c2K qs k:=by simp[c2K,U7,e']
   rw[a2c e,b];exact ih
theorem KV.any{kvs:List (κ×V)}{vs:List (κ×Value)}(r:KV kvs vs)(k:κ):(kvs.any fun kv=>decide (kv.1=k))=vs.any fun kv=>decide (kv.1=k):=by
 unfold KV at r
 induction r with
 | nil=>rfl
 | cons h t ih=>rw[P3,P3,ih,h.1]
theorem KV.repl{kvs:List (κ×V)}{vs:List (κ×Value)}(r:KV kvs vs)(k:κ)(ry:E1 y u) :
  KV (kvs.map fun kv=>if kv.1=k then (kv.1,y)else kv) (vs.map fun kv=>if kv.1=k then (kv.1,u)else kv):=by
 unfold KV at r ⊢
 induction r with
 | nil=>exact .nil
 | @cons p q ps qs h t ih=>
  rw[E8,E8]
  refine .cons ?_ ih
  obtain⟨h1,h2⟩:=h
  by_cases e:p.1=k
  ·rw[if_pos e,if_pos (h1.symm.trans e)];exact⟨h1,ry⟩
  ·rw[if_neg e,if_neg (fun z=>e (h1.trans z))];exact⟨h1,h2⟩
theorem KV.put{kvs:List (κ×V)}{vs:List (κ×Value)}(r:KV kvs vs)(k:κ)(ry:E1 y u):KV (Y2 kvs k y) (stored vs k u):=by
 unfold Y2 stored
 rw[r.any k]
 by_cases e:(vs.any fun kv=>decide (kv.1=k))=true
 ·rw[if_pos e,if_pos e];exact r.repl k ry
 ·rw[if_neg e,if_neg e];exact Paired.snoc r ⟨rfl,ry⟩
theorem KV.length{kvs:List (κ×V)}{vs:List (κ×Value)}(r:KV kvs vs):kvs.length=vs.length:=Paired.length r
end
theorem b0k{P:C2}{k:Key}(r:E1 (kV k) u):(Q2 P w).is k u=true:=by
 cases k with
 | inl i=>obtain⟨t,e⟩:=(show ∃t,u=Value.int i t from r);subst e;exact b2Z P w i t
 | inr x=>obtain⟨t,e⟩:=(show ∃t,u=Value.str x t from r);subst e;exact b2Y P w x t
theorem b0l{P:C2}:∀ {ks:List Key} {us:List Value},E4 (ks.map kV) us->ItemsAre (Q2 P w) ks us
 | [],_,r=>by rw[b5F]at r;cases r;exact .nil
 | k::ks,_,r=>by
  rw[E8]at r
  cases r with
  | cons h t=>exact .cons (b0k h) (b0l t)
abbrev KT(H:Hp):List (List Key×V)->List (List Key×Addr×Value)->Prop:=Paired fun p q=>p.1=q.1/\H q.2.1=some (.tup (p.1.map kV))/\E1 p.2 q.2.2
theorem KT.val{kvs:List (List Key×V)}{xs:List (List Key×Addr×Value)}(r:KT H kvs xs)(k:List Key):a4U (a0w kvs k) ((atKey xs k).map (·.2)):=by
 induction r with
 | nil=>exact True.intro
 | @cons p q ps qs h t ih=>
  obtain⟨h1,_,h2⟩:=h
  by_cases e:p.1=k
  ·have e':q.1=k:=h1.symm.trans e
   have b:atKey (q::qs) k=some q.2:=by simp[atKey,U7,e']
   rw[a2U e,b];exact h2
  ·have e':¬q.1=k:=fun z=>e (h1.trans z)
   have b:atKey (q::qs) k=atKey qs k:=by simp[atKey,U7,e']
   rw[a2c e,b];exact ih
theorem KT.repl{kvs:List (List Key×V)}{xs:List (List Key×Addr×Value)}(r:KT H kvs xs)(k:List Key)(ry:E1 y u) :
  KT H (kvs.map fun kv=>if kv.1=k then (kv.1,y)else kv) (xs.map (putAt k u)):=by
 induction r with
 | nil=>exact .nil
 | @cons p q ps qs h t ih=>
  rw[E8,E8]
  refine .cons ?_ ih
  obtain⟨h1,h2,h3⟩:=h
  unfold putAt
  by_cases e:p.1=k
  ·rw[if_pos e,if_pos (h1.symm.trans e)];exact⟨h1,h2,ry⟩
  ·rw[if_neg e,if_neg (fun z=>e (h1.trans z))];exact⟨h1,h2,h3⟩
theorem KT.put{kvs:List (List Key×V)}{xs:List (List Key×Addr×Value)}(r:KT H kvs xs)(k:List Key)(hb:H b=some (.tup (k.map kV)))(ry:E1 y u) :
  KT H (Y2 kvs k y) (storedH xs k b u):=by
 have e:(kvs.any fun kv=>decide (kv.1=k))=(atKey xs k).isSome:=by
  rw[a2V,(r.val k).isSome_eq,a7M]
 unfold Y2 storedH
 rw[e]
 by_cases q:(atKey xs k).isSome=true
 ·rw[if_pos q,if_pos q];exact r.repl k ry
 ·rw[if_neg q,if_neg q];exact Paired.snoc r ⟨rfl,hb,ry⟩
theorem KT.keeps{kvs:List (List Key×V)}{xs:List (List Key×Addr×Value)}(r:KT H kvs xs)(ht:∀b ys,H b=some (.tup ys)->H' b=some (.tup ys)):KT H' kvs xs:=
 Paired.mapP r fun _ _ z=>⟨z.1,ht _ _ z.2.1,z.2.2⟩
section
variable {P:C2}
theorem c2w{u:HO}(ok:HOk P w H h)(e:Rd H a u):V9 P w H h a u:=e.ok ok
theorem b0m(ok:HOk P w H h)(e:Rd H a (.dK kvs)):kvs.length<=q9/\(a == W7)=false/\∃vs,KV kvs vs/\h.DictOf (Q2 P w) a vs:=
 show V9 P w H h a (.dK kvs)from c2w ok e
theorem b3g(ok:HOk P w H h)(e:H a=some (.dK kvs)):kvs.length<=q9/\(a == W7)=false/\∃vs,KV kvs vs/\h.DictOf (Q2 P w) a vs:=b0m ok (.inl e)
theorem a8Z{ks:List Key}(ok:HOk P w H h)(e:H a=some (.tup (ks.map kV))):(b2d (Q2 P w)).is h ks a:=by
 obtain⟨_,its,r,o,h1,h2,n,h3⟩:=(show V9 P w H h a (.tup (ks.map kV))from ok a _ e)
 exact⟨o,its.toArray,n,h1,h2,h3,by simpa using b0l r⟩
theorem b3f{kvs:List (List Key×V)}(ok:HOk P w H h)(e:Rd H a (.dT kvs)):kvs.length<=q9/\(a == W7)=false /\
  ∃xs,KT H kvs xs/\h.DictOfH (b2d (Q2 P w)) a xs:=by
 obtain⟨z,y,xs,r,o,es,ep,h1,h2,h3,h4,h5⟩:=(show V9 P w H h a (.dT kvs)from c2w ok e)
 refine⟨z,y,xs,r,o,es,ep,h1,h2,h3,h4,fun x hx=>?_,h5⟩
 have all:∀ {l:List (List Key×V)} {m:List (List Key×Addr×Value)},KT H l m->∀x∈m,(b2d (Q2 P w)).is h x.1 x.2.1:=by
  intro l m q
  induction q with
  | nil=>intro x hx;exact nomatch hx
  | @cons p q ps qs hq t ih=>
   intro x hx
   rcases d5.mp hx with e | hx
   ·subst e
    exact a8Z ok (by rw[<-hq.1];exact hq.2.1)
   ·exact ih x hx
 exact all r x hx
theorem b9q{kvs:List (List Key×V)}(ok:HOk P w H h)(e:H a=some (.dT kvs)):kvs.length<=q9/\(a == W7)=false /\
  ∃xs,KT H kvs xs/\h.DictOfH (b2d (Q2 P w)) a xs:=b3f ok (.inl e)
end
def a3C(H:Hp)(a:Addr)(y:V)(r:Option V):Prop:=
 (∃kvs k,Rd H a (.dK kvs)/\y=kV k/\r=a0w kvs k)\/∃kvs k b,Rd H a (.dT kvs)/\y=.ref b/\H b=some (.tup (k.map kV))/\r=a0w kvs k
def a4W(H:Hp)(a:Addr)(y v:V)(H':Hp):Prop:=
 (∃kvs k,H a=some (.dK kvs)/\y=kV k/\kvs.length<q9/\H'=upd H a (.dK (Y2 kvs k v))) \/
 ∃kvs k b,H a=some (.dT kvs)/\y=.ref b/\H b=some (.tup (k.map kV))/\kvs.length<q9/\H'=upd H a (.dT (Y2 kvs k v))
theorem a3C.k{k:Key}(e:H a=some (.dK kvs)):a3C H a (kV k) (a0w kvs k):=.inl ⟨kvs,k,.inl e,rfl,rfl⟩
theorem a4W.k{k:Key}(e:H a=some (.dK kvs))(hl:kvs.length<q9):a4W H a (kV k) v (upd H a (.dK (Y2 kvs k v))):=.inl ⟨kvs,k,e,rfl,hl,rfl⟩
theorem a4W.t{kvs:List (List Key×V)}{k:List Key}(e:H a=some (.dT kvs))(eb:H b=some (.tup (k.map kV)))(hl:kvs.length<q9) :
  a4W H a (.ref b) v (upd H a (.dT (Y2 kvs k v))):=.inr ⟨kvs,k,b,e,rfl,eb,hl,rfl⟩
section
variable {r:Value}{o:Option V}{A:G8}{E:Value->l5->Prop}
theorem Inv.big(I:Inv X pins σ H s):W7<s.heap.objs.size:=by
 have h:u9<s.heap.objs.size:=(I.mod.glob.keeps I.bk).lt
 exact Nat.lt_trans (by decide) h
theorem c7a(hu:A.units+1<cLine)(I:Inv X pins σ H s)(g:a3C H a y o)(ry:E1 y u)(h:∀s',Inv X pins σ H s'->Q (.bool o.isSome) s') :
  wpAny (model X.prog X.w) A (u6 .In u (.ref a)) Q E s:=by
 rcases g with ⟨kvs,k,e,ey,l⟩ | ⟨kvs,k,b,e,ey,eb,l⟩
 ·subst ey
  obtain⟨z,hd,vs,rel,dd⟩:=b0m I.hok e
  refine wpAny_in_of (b0k ry) hd dd.mapOf ?_
  rw[<-(rel.val k).isSome_eq,<-l]
  exact h _ (I.tok _)
 ·subst ey
  cases (show u=Value.ref b from ry)
  obtain⟨z,hd,xs,rel,dd⟩:=b3f I.hok e
  refine wpAny_in_heap (a5c hu) (a8Z I.hok eb) hd dd ?_
  have q:=(rel.val k).isSome_eq
  rw[a7M]at q
  rw[<-q,<-l]
  exact h _ (I.tok _)
theorem c1S(hu:A.units+1<cLine)(I:Inv X pins σ H s)(g:a3C H a y o)(ry:E1 y u)(h:∀s',Inv X pins σ H s'->Q (.bool (!o.isSome)) s') :
  wpAny (model X.prog X.w) A (u6 .NotIn u (.ref a)) Q E s:=by
 rcases g with ⟨kvs,k,e,ey,l⟩ | ⟨kvs,k,b,e,ey,eb,l⟩
 ·subst ey
  obtain⟨z,hd,vs,rel,dd⟩:=b0m I.hok e
  refine wpAny_notIn_of (b0k ry) hd dd.mapOf ?_
  rw[<-(rel.val k).isSome_eq,<-l]
  exact h _ (I.tok _)
 ·subst ey
  cases (show u=Value.ref b from ry)
  obtain⟨z,hd,xs,rel,dd⟩:=b3f I.hok e
  refine wpAny_notIn_heap (a5c hu) (a8Z I.hok eb) hd dd ?_
  have q:=(rel.val k).isSome_eq
  rw[a7M]at q
  rw[<-q,<-l]
  exact h _ (I.tok _)
theorem b1C{ob:HO}(I:Inv X pins σ H s)(mu:Mut (H a))(hs:Heap.SameBut a s.heap h')(he:∃q,h'.get? a=some q)(new:V9 X.prog X.w (upd H a ob) h' a ob) :
  Inv X pins σ (upd H a ob) { s with heap:=h',toks:=t' }:=
 I.write (x:=a) (e:=a) mu (.inl rfl) (fun b q hb z=>(hs.2 b hb).trans z) he new
theorem b4T{P:C2}{vs:List (Key×Value)}(z:kvs.length<=q9)(hd:(a == W7)=false)(rel:KV kvs vs)(dd:h'.DictOf (Q2 P w) a vs) :
  V9 P w H' h' a (.dK kvs):=⟨z,hd,vs,rel,dd⟩
theorem b6J{Q:Unit->l5->Prop}(hu:A.units+1<cLine)(I:Inv X pins σ H s)(g:a4W H a y v H')(ry:E1 y u)(rv:E1 v r)(h:∀s',Inv X pins σ H' s'->Q () s') :
  wpAny (model X.prog X.w) A (c2L (.ref a) u r) Q E s:=by
 rcases g with ⟨kvs,k,e,ey,l,eH⟩ | ⟨kvs,k,b,e,ey,eb,l,eH⟩
 ·subst ey eH
  obtain⟨z,hd,vs,rel,dd⟩:=b3g I.hok e
  have hz:vs.length<=q9:=by rw[<-rel.length];exact z
  have hl:(Y2 kvs k v).length<=q9:=by have:=a4u kvs k v;omega
  refine wpAny_setItem_pairs (hsz:=hz) (b0k ry) dd fun h' dd' hs=>h _ ?_
  have he:∃q,h'.get? a=some q:=let⟨q,_,_,hq,_⟩:=dd'; ⟨q,hq⟩
  exact b1C I (by rw[e];exact True.intro) hs he (b4T hl hd (rel.put k rv) dd')
 ·subst ey eH
  cases (show u=Value.ref b from ry)
  obtain⟨z,hd,xs,rel,dd⟩:=b9q I.hok e
  have hz:xs.length<=q9:=by rw[<-Paired.length rel];exact z
  have hl:(Y2 kvs k v).length<=q9:=by have:=a4u kvs k v;omega
  refine wpAny_setItem_heap (hsz:=hz) (a5c hu) (a8Z I.hok eb) dd fun h' dd' hs=>h _ ?_
  obtain⟨q,es,ep,hq,h2,h3,h4,_,h5⟩:=dd'
  refine b1C I (by rw[e];exact True.intro) hs ⟨q,hq⟩ ⟨hl,hd,_,(rel.put k eb rv).keeps fun c ys ec=>?_,q,es,ep,hq,h2,h3,h4,h5⟩
  rw[l7 (L6 ec e (fun z=>nomatch z))]
  exact ec
end
section
variable {k:Key}{A:G8}{E:Value->l5->Prop}
end
def b0C(ty td:TE):TE:=fun σ H Q=>ty σ H fun y H1=>td σ H1 fun x H2=>∃a o,x=.ref a/\a3C H2 a y o/\Q (.bl o.isSome) H2
def a1E(ty td:TE):TE:=fun σ H Q=>ty σ H fun y H1=>td σ H1 fun x H2=>∃a o,x=.ref a/\a3C H2 a y o/\Q (.bl (!o.isSome)) H2
def a0N(td ty tv:TE):TS:=fun D σ H=>tv σ H fun v H1=>td σ H1 fun x H2=>ty σ H2 fun y H3=>∃a H4,x=.ref a/\a4W H3 a y v H4/\D.nx σ H4
section
variable {o i value:Expr}{tpos:Pos}{td ty tv:TE}
theorem b8M(hu:X.A.units+1<cLine)(hi:PE X i ty)(ho:PE X o td):PC X .In i o (b0C ty td):=by
 intro pins s σ H Q I h
 refine thn (hi pins s σ H _ I h) fun iv s1 ⟨y,H1,I1,ry,q1⟩=>thn (ho pins s1 σ H1 _ I1 q1) fun u s2 ⟨x,H2,I2,rx,a,ov,ex,g,q2⟩=>?_
 subst ex
 obtain rfl:u=Value.ref a:=rx
 exact c7a hu I2 g ry fun s3 I3=>⟨.bl ov.isSome,H2,I3,rfl,q2⟩
theorem b6l(hu:X.A.units+1<cLine)(hi:PE X i ty)(ho:PE X o td):PC X .NotIn i o (a1E ty td):=by
 intro pins s σ H Q I h
 refine thn (hi pins s σ H _ I h) fun iv s1 ⟨y,H1,I1,ry,q1⟩=>thn (ho pins s1 σ H1 _ I1 q1) fun u s2 ⟨x,H2,I2,rx,a,ov,ex,g,q2⟩=>?_
 subst ex
 obtain rfl:u=Value.ref a:=rx
 exact c1S hu I2 g ry fun s3 I3=>⟨.bl (!ov.isSome),H2,I3,rfl,q2⟩
theorem c0L(hu:X.A.units+1<cLine)(ho:PE X o td)(hi:PE X i ty)(hv:PE X value tv)(hs:a1S value (some (.Subscript o i pos')) pos.line X.env=pure false) :
  PS X (.Assign [.Subscript o i pos'] value pos) (a0N td ty tv):=by
 intro pins s σ H D I h
 refine wpAny_Assign_Subscript (thn (hv pins s σ H _ I h) fun r s1 ⟨v,H1,I1,rv,q1⟩=>thn (ho pins s1 σ H1 _ I1 q1) fun u s2 ⟨x,H2,I2,rx,q2⟩=>thn (hi pins s2 σ H2 _ I2 q2) fun iv s3 ⟨y,H3,I3,ry,a,H4,ex,g,q3⟩=>?_) hs
 subst ex
 obtain rfl:u=Value.ref a:=rx
 exact b6J hu I3 g ry rv fun s4 I4=>⟨σ,H4,I4,q3⟩
end
theorem b3h{P:C2}(h:Heap)(hb:W7<h.objs.size):V9 P w H (h.push { cls:=.type "dict",data:=.dict #[] }) h.objs.size (.dK []):=
 ⟨J7 _,beq_eq_false_iff_ne.mpr (Ne.symm (u7 hb)),[],.nil,Heap.DictOf.new h⟩
theorem b9r{P:C2}(h:Heap)(hb:W7<h.objs.size):V9 P w H (h.push { cls:=.type "dict",data:=.dict #[] }) h.objs.size (.dT []):=
 ⟨J7 _,beq_eq_false_iff_ne.mpr (Ne.symm (u7 hb)),[],.nil,_,#[],0,y7 _ rfl,⟨rfl,rfl,rfl⟩,rfl,rfl,a2O⟩
def a4c:TE:=fun _ H Q=>∀p,H p=none->Q (.ref p) (upd H p (.dK []))
def b3W:TE:=fun _ H Q=>∀p,H p=none->Q (.ref p) (upd H p (.dT []))
section
theorem b8H:PE X (.Dict [] [] pos) a4c:=fun pins s σ H Q I h=>
 wpAny_Dict_empty ⟨.ref s.heap.objs.size,_,I.laid (a:=s.heap.objs.size) (o:=.dK []) (t':=s.toks) (fun _ _ q=>g7 _ q) (g9 _) (b3h s.heap I.big),rfl,h _ (I.hok.fresh (g9 _))⟩
theorem b8G:PE X (.Dict [] [] pos) b3W:=fun pins s σ H Q I h=>
 wpAny_Dict_empty ⟨.ref s.heap.objs.size,_,I.laid (a:=s.heap.objs.size) (o:=.dT []) (t':=s.toks) (fun _ _ q=>g7 _ q) (g9 _) (b9r s.heap I.big),rfl,h _ (I.hok.fresh (g9 _))⟩
end
def b3V:List (TE×TE)->St->Hp->(List (V×V)->Hp->Prop)->Prop
 | [],_,H,Q=>Q [] H
 | (tk,tv)::r,σ,H,Q=>tk σ H fun x H1=>tv σ H1 fun y H2=>b3V r σ H2 fun ps H3=>Q ((x,y)::ps) H3
abbrev VV:List (V×V)->List (Value×Value)->Prop:=Paired fun p q=>E1 p.1 q.1/\E1 p.2 q.2
def PPs(X:Cx)(pos:Pos)(keys:List (Option Expr))(values:List Expr)(trs:List (TE×TE)):Prop:=
 ∀(pins:List (Addr×Obj)) (s:l5) (σ:St) (H:Hp) (Q:List (V×V)->Hp->Prop),Inv X pins σ H s->b3V trs σ H Q ->
  wpAny (model X.prog X.w) X.A (evalPairs (pairTrees keys values X.env pos)) (fun vs s'=>∃ps H',Inv X pins σ H' s'/\VV ps vs/\Q ps H') X.xe s
theorem c0N:PPs X pos [] [] []:=fun pins s σ H Q I h=>pairTrees_nil_walk ⟨[],H,I,.nil,h⟩
theorem b8B{k v:Expr}{ks:List (Option Expr)}{vs:List Expr}{tk tv:TE}{trs:List (TE×TE)}(hk:PE X k tk)(hv:PE X v tv)(hr:PPs X pos ks vs trs) :
  PPs X pos (some k::ks) (v::vs) ((tk,tv)::trs):=fun pins s σ H Q I h=>
 pairTrees_cons_walk (thn (hk pins s σ H _ I h) fun u s1 ⟨x,H1,I1,rx,q1⟩=>thn (hv pins s1 σ H1 _ I1 q1) fun w2 s2 ⟨y,H2,I2,ry,q2⟩=>
  thn (hr pins s2 σ H2 _ I2 q2) fun ws s3 ⟨ps,H3,I3,rel,q3⟩=>⟨(x,y)::ps,H3,I3,.cons ⟨rx,ry⟩ rel,q3⟩)
def a5I(kvs more:List (Key×V)):List (Key×V):=more.foldl (fun acc kv=>Y2 acc kv.1 kv.2) kvs
theorem KV.merge:∀ {more:List (Key×V)} {rs:List (Key×Value)} {kvs:List (Key×V)} {vs:List (Key×Value)},KV more rs->KV kvs vs->KV (a5I kvs more) (merged vs rs):=by
 intro more rs kvs vs r
 unfold KV at r
 induction r generalizing kvs vs with
 | nil=>intro q;exact q
 | @cons p q ps qs h t ih=>
  intro r0
  have e:KV (Y2 kvs p.1 p.2) (stored vs q.1 q.2):=by
   have:=r0.put p.1 h.2
   rw[<-h.1];exact this
  exact ih e
theorem a5k:∀(more kvs:List (Key×V)),(a5I kvs more).length<=kvs.length+more.length
 | [],kvs=>by show kvs.length<=kvs.length+0;omega
 | p::r,kvs=>by
  have h1:=a5k r (Y2 kvs p.1 p.2)
  have h2:=a4u kvs p.1 p.2
  show(a5I (Y2 kvs p.1 p.2) r).length<=_
  rw[C0];omega
theorem a9o{P:C2}{w:World}:∀ {kvs:List (Key×V)} {ws:List (Value×Value)},VV (kvs.map fun kv=>(kV kv.1,kv.2)) ws->∃rs,Carries (Q2 P w) ws rs/\KV kvs rs
 | [],_,r=>by rw[b5F]at r;cases r;exact⟨[],True.intro,.nil⟩
 | p::kvs,_,r=>by
  rw[E8]at r
  cases r with
  | @cons a b as bs h t=>
   obtain⟨rs,c,q⟩:=a9o (P:=P) (w:=w) t
   obtain⟨b1,b2⟩:=b
   exact⟨(p.1,b2)::rs,⟨b0k h.1,rfl,c⟩,.cons ⟨rfl,h.2⟩ q⟩
def b2w(trs:List (TE×TE)):TE:=fun σ H Q=>∀p,H p=none->b3V trs σ (upd H p (.dK [])) fun ps H2=>H2 p=some (.dK [])/\∃kvs:List (Key×V),ps=kvs.map (fun kv=>(kV kv.1,kv.2))/\kvs.length<=15/\Q (.ref p) (upd H2 p (.dK (a5I [] kvs)))
theorem c0X{keys:List (Option Expr)}{values:List Expr}{trs:List (TE×TE)}(h:PPs X pos keys values trs)(hall:keys.all (·.isSome)=true)(hl:keys.length=values.length)(h0:keys≠[])
  (h15:keys.length<=15):PE X (.Dict keys values pos) (b2w trs):=by
 intro pins s σ H Q I q
 have hn:=I.hok.fresh (g9 s.heap.objs.size)
 have I1:=I.laid (a:=s.heap.objs.size) (o:=.dK []) (h':=s.heap.push { cls:=.type "dict",data:=.dict #[] }) (t':=s.toks) (fun _ _ q=>g7 _ q) (g9 _) (b3h s.heap I.big)
 refine wpAny_Dict_walk (knd:=Q2 X.prog X.w) hall hl h0 h15 (thn (h pins _ σ _ _ I1 (q _ hn)) fun ws s2 ⟨ps,H2,I2,rel,e,kvs,ep,lk,q2⟩=>?_)
 subst ep
 obtain⟨rs,c,rk⟩:=a9o (P:=X.prog) (w:=X.w) rel
 obtain⟨z,hd,vs0,r0,dd⟩:=b3g I2.hok e
 cases r0
 refine⟨rs,c,dd,fun h' dd' hs=>⟨.ref s.heap.objs.size,_,?_,rfl,q2⟩⟩
 have hz:(a5I [] kvs).length<=q9:=by
  have h1:=a5k kvs []
  rw[a5b]at h1
  rw[sizeLine_eq];omega
 have he:∃q,h'.get? s.heap.objs.size=some q:=let⟨q,_,_,hq,_⟩:=dd'; ⟨q,hq⟩
 exact b1C I2 (by rw[e];exact True.intro) hs he (b4T hz hd (rk.merge .nil) dd')
structure M1(X:Cx)(o:Expr)(m:Str)(apos:Pos)(e:Expr)(cpos:Pos):Prop where
 base:W9 o m X.env (eval o X.env)=eval o X.env
 few:((W8 cpos (i8 [e] X.env)).all (fun x => !x.1)&&(a9t cpos (a2G [] X.env)).all (fun x=>x.1.isSome)
  && decide (([e]:List Expr).length+([]:List a6K).length+(if([]:List a6K).isEmpty then 0 else 1)<30))=true
 line:(apos.endLine == cpos.line)=true
 trees:W8 cpos (i8 [e] X.env)=[(false,eval e X.env)]
structure M2(X:Cx)(o:Expr)(m:Str)(apos:Pos)(e f:Expr)(cpos:Pos):Prop where
 base:W9 o m X.env (eval o X.env)=eval o X.env
 few:((W8 cpos (i8 [e,f] X.env)).all (fun x => !x.1)&&(a9t cpos (a2G [] X.env)).all (fun x=>x.1.isSome)
  && decide (([e,f]:List Expr).length+([]:List a6K).length+(if([]:List a6K).isEmpty then 0 else 1)<30))=true
 line:(apos.endLine == cpos.line)=true
 trees:W8 cpos (i8 [e,f] X.env)=[(false,eval e X.env),(false,eval f X.env)]
def IsD(H:Hp)(a:Addr):Prop:=(∃kvs,Rd H a (.dK kvs))\/∃kvs,Rd H a (.dT kvs)
theorem c4K(I:Inv X pins σ H s)(d:IsD H a) :
  s.TypeIs (.ref a) "dict" /\ (∀b,Value.ref a=.ref b->∃ob,s.heap.get? b=some ob/\ob.dict=none)/\(a == W7)=false:=by
 rcases d with ⟨kvs,e⟩ | ⟨kvs,e⟩
 ·obtain⟨_,hd,vs,_,dd⟩:=b0m I.hok e
  refine⟨dd.typeIs,fun b q=>?_,hd⟩
  cases q
  obtain⟨ob,_,_,h1,h2,_⟩:=dd
  exact⟨ob,h1,h2.2.1⟩
 ·obtain⟨_,hd,xs,_,dd⟩:=b3f I.hok e
  refine⟨dd.typeIs,fun b q=>?_,hd⟩
  cases q
  obtain⟨ob,_,_,h1,h2,_⟩:=dd
  exact⟨ob,h1,h2.2.1⟩
section
variable {d:V}{r:Value}{o:Option V}{A:G8}{E:Value->l5->Prop}
theorem c4R(hu:A.units+1<cLine)(I:Inv X pins σ H s)(g:a3C H a y o)(ry:E1 y u)(rd:E1 d r)(h:∀w' s',Inv X pins σ H s'->E1 (o.getD d) w'->Q w' s') :
  wpAny (model X.prog X.w) A (call (.builtin "dict.get") [.ref a,u,r]) Q E s:=by
 rcases g with ⟨kvs,k,e,ey,l⟩ | ⟨kvs,k,b,e,ey,eb,l⟩
 ·subst ey
  obtain⟨z,hd,vs,rel,dd⟩:=b0m I.hok e
  refine call_meetsIn a4A dd.typeIs b3C (b2c _ _ _) (meets_dict_get_default (Q2 X.prog X.w) a (b0k ry) hd r) ⟨_,dd.mapOf,h _ _ (I.tok _) ?_⟩
  rw[l]
  exact(rel.val k).getD rd
 ·subst ey
  cases (show u=Value.ref b from ry)
  obtain⟨z,hd,xs,rel,dd⟩:=b3f I.hok e
  refine call_meetsIn a4A dd.typeIs b3C (b2c _ _ _) (meetsH_dict_get_default (b2d (Q2 X.prog X.w)) a b hd r) ⟨a5c hu,k,xs,a8Z I.hok eb,dd,h _ _ (I.tok _) ?_⟩
  rw[l]
  exact(rel.val k).getD rd
end
def a3i(td ty tx:TE):TE:=fun σ H Q=>td σ H fun x H1=>∃a,x=.ref a/\IsD H1 a/\ty σ H1 fun y H2=>tx σ H2 fun z H3=>∃o,a3C H3 a y o/\Q (o.getD z) H3
section
variable {o f:Expr}{apos cpos:Pos}{td ty tx:TE}
theorem b8I(hu:X.A.units+1<cLine)(ho:PE X o td)(he:PE X e ty)(hf:PE X f tx)(m:M2 X o "get" apos e f cpos):PE X (.Call (.Attribute o "get" apos) [e,f] [] cpos) (a3i td ty tx):=by
 intro pins s σ H Q I h
 refine wpAny_Call_method m.base m.few m.line PySem.F.plainAttrs_dict a4A PySem.F.type_dict_get (thn (ho pins s σ H _ I h) fun u s1 ⟨x,H1,I1,rx,a,ex,d,q1⟩=>?_)
 subst ex
 obtain rfl:u=Value.ref a:=rx
 obtain⟨t1,t2,_⟩:=c4K I1 d
 refine⟨t1,t2,?_⟩
 rw[m.trees]
 refine Calls.callWith_builtin rfl (Calls.evalArgs_plain (Calls.spliced_cons (thn (he pins s1 σ H1 _ I1 q1) fun iv s2 ⟨y,H2,I2,ry,q2⟩=>
  Calls.spliced_cons (thn (hf pins s2 σ H2 _ I2 q2) fun fv s3 ⟨z,H3,I3,rz,ov,g,q3⟩=>Calls.spliced_nil ?_))))
 exact c4R hu I3 g ry rz fun w' s4 I4 rw'=>⟨_,H3,I4,rw',q3⟩
end
section
variable {A:G8}{E:Value->l5->Prop}
theorem b9t(I:Inv X pins σ H s)(e:Rd H a (.dK kvs))(h:∀p s',H p=none->Inv X pins σ (upd H p (.dK kvs)) s'->Q (.ref p) s'):wpAny (model X.prog X.w) A (call (.type "dict") [.ref a]) Q E s:=by
 obtain⟨z,hd,vs,rel,dd⟩:=b0m I.hok e
 refine kt_call_dict hd dd (by rw[<-rel.length];exact z) fun h' dd' hs=>?_
 refine h _ _ (I.hok.fresh (g9 _)) (I.laid (a:=s.heap.objs.size) (o:=.dK kvs) (t':=s.toks) (fun b q hq=>?_) (g9 _) (b4T z (beq_eq_false_iff_ne.mpr (Ne.symm (u7 I.big))) rel dd'))
 exact(hs.2 b (u7 (l3 hq))).trans (g7 _ hq)
end
section
variable {A:G8}{E:Value->l5->Prop}
end
end L2
namespace HT
open PySem PyProof.Rows
section
open PySem.SeqAt
open PySem.AutoSeq1 (wpAny_loadPart')
open PySem.MeetsSeq PySem.MeetsSeq2 PySem.MeetsSeq3
end
section
variable {prog:C2}{w:World}{A:G8}{E:Value->l5->Prop}{s:l5}
def sIx(n d:Nat):Option Int->Nat
 | none=>d
 | some v=>if v<0 then (v+(n:Int)).toNat else min v.toNat n
theorem b0Z(n d k:Nat):sIx n d (some (k:Int))=min k n:=by
 show(if(k:Int)<0 then ((k:Int)+(n:Int)).toNat else min (k:Int).toNat n)=min k n
 rw[if_neg (by omega),z9]
theorem c3e(n d:Nat)(hd:d<=n)(o:Option Int):sIx n d o<=n:=by
 cases o with
 | none=>exact hd
 | some v=>
  show(if v<0 then (v+(n:Int)).toNat else min v.toNat n)<=n
  by_cases hv:v<0
  ·rw[if_pos hv];omega
  ·rw[if_neg hv];exact Nat.min_le_right _ _
theorem b5z(v:Int)(n d:Nat):(if v<0 then max (v+(n:Int)) 0 else min v (n:Int))=((sIx n d (some v):Nat):Int):=by
 show(if v<0 then max (v+(n:Int)) 0 else min v (n:Int))=(((if v<0 then (v+(n:Int)).toNat else min v.toNat n):Nat):Int)
 by_cases hv:v<0
 ·simp only[if_pos hv];omega
 ·simp only[if_neg hv];omega
theorem b4Y(lo hi:Option Int)(n:Nat):Builtin.Slice.sliceAdjust lo hi 1 (n:Int)=(((sIx n 0 lo:Nat):Int),((sIx n n hi:Nat):Int)):=by
 have h1:¬((1:Int)<0):=by omega
 unfold Builtin.Slice.sliceAdjust
 simp only[h1,if_false]
 refine Prod.ext ?_ ?_
 ·cases lo with
  | none=>rfl
  | some v=>exact b5z v n 0
 ·cases hi with
  | none=>rfl
  | some v=>exact b5z v n n
theorem b4s(i j:Nat):Builtin.Slice.slicePlaces (i:Int) (j:Int) 1=j - i:=by
 unfold Builtin.Slice.slicePlaces
 have h1:(1:Int) > 0:=by omega
 simp only[h1,if_true,Int.ediv_one]
 split <;> omega
theorem a8D{v:Value}{o:Option Int}{Q:Option Int->l5->Prop}(p:c2m v o)(h:Q o s):wpAny (model prog w) A (Builtin.Slice.slicePartIndex v) Q E s:=by
 cases p with
 | none=>exact slicePart_none h
 | int i t=>exact slicePart_int h
theorem a6Q{sl:Addr}{vl vu:Value}{lo hi:Option Int}{n:Nat}{Q:Int×Int×Nat->l5->Prop}(hs:s.heap.IsSliceOf sl vl vu .none)(pl:c2m vl lo)(pu:c2m vu hi)
  (h:Q (((sIx n 0 lo:Nat):Int),1,sIx n n hi - sIx n 0 lo) s):wpAny (model prog w) A (Builtin.Slice.sliceApplied (.ref sl) (pure (n:Int))) Q E s:=by
 obtain⟨os,hos,hcs,hds⟩:=id hs
 unfold Builtin.Slice.sliceApplied Builtin.Slice.sliceFields
 refine d4 (d4 (c6J hos hds (x:=vl) rfl (d4 (c6J hos hds (x:=vu) rfl (d4 (c6J hos hds (x:=.none) rfl (u0 ?_)))))))
 refine d4 (slicePart_none ?_)
 show wpAny _ _ (if((1:Int) == 0)=true then _ else _) _ _ s
 rw[if_neg (by decide)]
 refine d4 (a8D pl (d4 (a8D pu (d4 (u0 ?_)))))
 show wpAny _ _ (match Builtin.Slice.sliceAdjust lo hi 1 (n:Int)with | (lo,hi)=>pure (lo,(1:Int),Builtin.Slice.slicePlaces lo hi 1)) _ _ s
 rw[b4Y lo hi n]
 show wpAny _ _ (pure (((sIx n 0 lo:Nat):Int),(1:Int),Builtin.Slice.slicePlaces ((sIx n 0 lo:Nat):Int) ((sIx n n hi:Nat):Int) 1)) _ _ s
 rw[b4s]
 exact u0 h
theorem b8C(xs:Array Value)(i k:Nat):((E7 k).filterMap fun(m:Nat)=>xs[((i:Int)+(m:Int) * 1).toNat]?).toArray=((xs.toList.drop i).take k).toArray:=by
 have e:(fun(m:Nat)=>xs[((i:Int)+(m:Int) * 1).toNat]?)=fun m=>xs[i+m]?:=by
  funext m
  have:((i:Int)+(m:Int) * 1).toNat=i+m:=by omega
  rw[this]
 rw[e]
 have:=pick_run xs i k
 rw[List.filterMap_map]at this
 have e2:((fun x=>xs[x]?) ∘ fun x=>i+x)=fun m=>xs[i+m]?:=rfl
 rw[e2]at this
 rw[this]
theorem a6v{t sl:Addr}{items:Array Value}{vl vu:Value}{lo hi:Option Int}{Q:Value->l5->Prop}(ht:IsTup s.heap t items)(hs:s.heap.IsSliceOf sl vl vu .none)(pl:c2m vl lo)(pu:c2m vu hi)
  (hw:¬(sIx items.size 0 lo=0/\sIx items.size items.size hi=items.size))
  (h:Q (.ref s.heap.objs.size) { s with heap:=s.heap.push { cls:=.type "tuple",data:=.seq ((items.toList.drop (sIx items.size 0 lo)).take (sIx items.size items.size hi - sIx items.size 0 lo)).toArray } })
  (hsz:items.size<=q9):wpAny (model prog w) A (c2M (.ref t) (.ref sl)) Q E s:=by
 have htake:sizeOk (.seq ((items.toList.drop (sIx items.size 0 lo)).take (sIx items.size items.size hi - sIx items.size 0 lo)).toArray):=by
  show((items.toList.drop (sIx items.size 0 lo)).take (sIx items.size items.size hi - sIx items.size 0 lo)).toArray.size<=q9
  rw[o0,R7,a9w,a0q]
  omega
 have hj:sIx items.size items.size hi<=items.size:=c3e _ _ (g9 _) hi
 obtain⟨os,hos,hcs,hds⟩:=id hs
 have hTs:s.TypeIs (.ref sl) "slice" := ⟨os,hos,hcs⟩
 unfold c2M
 try with_reducible refine a1R ?_
 first | refine d4 (u0 ?_) | skip
 refine d4 (wpAny_sequenceKey ht.typeIs (by decide) ?_)
 refine d4 (a6I (name:=Str.ofString "__getitem__") ht.typeIs a0y
  (a3g a0y ht.typeIs entry_tuple_getitem ?_ (args_tuple_getitem _ _)))
 show wpAny _ _ (Builtin.Tuple.tupleItemsOf (.ref t) >>= _) _ _ s
 refine d4 (tupleItemsOf_ ht ?_)
 refine d4 (wpAny_typeOf hTs ?_)
 rw[if_pos (by decide)]
 refine d4 (a6Q hs pl pu ?_)
 have hno:¬((((sIx items.size 0 lo:Nat):Int) == 0&&(1:Int) == 1&&(sIx items.size items.size hi - sIx items.size 0 lo) == items.size)=true):=by
  intro q
  rw[a3R,a3R]at q
  have q1:((sIx items.size 0 lo:Nat):Int)=0:=eq_of_beq q.1.1
  have q2:sIx items.size items.size hi - sIx items.size 0 lo=items.size:=eq_of_beq q.2
  exact hw ⟨by omega,by omega⟩
 show wpAny _ _ (if(((sIx items.size 0 lo:Nat):Int) == 0&&(1:Int) == 1&&(sIx items.size items.size hi - sIx items.size 0 lo) == items.size)=true then _ else _) _ _ s
 rw[if_neg hno,b8C]
 first
  | exact d4 (m:=Builtin.Tuple.tupleExact _) (Q0 (u0 ⟨_,rfl,u0 h⟩) htake)
  | exact d4 (m:=Builtin.Tuple.tupleExact _) (Q0 (d4 (u0 (u0 ⟨_,rfl,u0 h⟩))) htake)
  | exact d4 (d4 (m:=Builtin.Tuple.tupleExact _) (Q0 (u0 (u0 ⟨_,rfl,u0 h⟩)) htake))
  | exact d4 (d4 (m:=Builtin.Tuple.tupleExact _) (Q0 (u0 ⟨_,rfl,u0 h⟩) htake))
end
end HT
namespace L2
open PySem PySem.Spec PyProof.Rows
variable{X:Cx}{pins:List (Addr×Obj)}{σ:St}{H:Hp}{s:l5}{xs:List V}{us:List Value}
abbrev TO:=St->Hp->(Option Int->Hp->Prop)->Prop
def PO(X:Cx)(e:Option Expr)(t:TO):Prop:=
 ∀(pins:List (Addr×Obj)) (s:l5) (σ:St) (H:Hp) (Q:Option Int->Hp->Prop),Inv X pins σ H s->t σ H Q ->
  wpAny (model X.prog X.w) X.A (evalPart e X.env) (fun u s'=>∃o H',Inv X pins σ H' s'/\c2m u o/\Q o H') X.xe s
def a2r:TO:=fun _ H Q=>Q none H
def a7E(t:TE):TO:=fun σ H Q=>t σ H fun x H1=>∃i,x=.int i/\Q (some i) H1
section
variable {e:Expr}{te:TE}{lo hi:Option Expr}{tl th:TO}{pos p2:Pos}
theorem c0Q:PO X none a2r:=by
 intro pins s σ H Q I h
 rw[evalPart_none]
 exact u0 ⟨none,H,I,.none,h⟩
theorem c0P(h:PE X e te):PO X (some e) (a7E te):=by
 intro pins s σ H Q I hw
 rw[evalPart_some]
 refine thn (h pins s σ H _ I hw) fun u s1 ⟨x,H1,I1,r1,q1⟩=>?_
 obtain⟨i,rfl,q⟩:=q1
 obtain⟨t,rfl⟩:=r1
 exact⟨some i,H1,I1,.int i t,q⟩
def SlR(X:Cx)(r:V->Option Int->Option Int->Hp->VK->Prop):Prop:=
 ∀(pins:List (Addr×Obj)) (s:l5) (σ:St) (H:Hp) (x:V) (v vl vu:Value) (lo hi:Option Int) (sl:Addr) (Q:VK),Inv X pins σ H s->E1 x v->s.heap.IsSliceOf sl vl vu .none->c2m vl lo->c2m vu hi->r x lo hi H Q ->
  ∃T id,typeLookup (.type T) "__getitem__" = pure (some (.builtin id))/\s.TypeIs v T/\wpAny (model X.prog X.w) X.A (c2M v (.ref sl)) (EP X pins σ Q) X.xe s
theorem SlR.or{r r':V->Option Int->Option Int->Hp->VK->Prop}(h:SlR X r)(h':SlR X r'):SlR X (fun x lo hi H Q=>r x lo hi H Q\/r' x lo hi H Q):=by
 intro pins s σ H x v vl vu lo hi sl Q I rx hs pl pu q
 rcases q with q | q
 ·exact h pins s σ H x v vl vu lo hi sl Q I rx hs pl pu q
 ·exact h' pins s σ H x v vl vu lo hi sl Q I rx hs pl pu q
def tSl(r:V->Option Int->Option Int->Hp->VK->Prop)(te:TE)(tl th:TO):TE:=fun σ H Q=>te σ H fun x H1=>tl σ H1 fun l H2=>th σ H2 fun u H3=>r x l u H3 Q
theorem b8E{r:V->Option Int->Option Int->Hp->VK->Prop}(hr:SlR X r)(he:PE X e te)(hl:PO X lo tl)(hu:PO X hi th):PE X (.Subscript e (.Slice lo hi none p2) pos) (tSl r te tl th):=by
 intro pins s σ H Q I h
 refine Subscript_ (thn (he pins s σ H _ I h) fun v s1 ⟨x,H1,I1,r1,q1⟩=>?_)
 refine wpAny_Slice (thn (hl pins s1 σ H1 _ I1 q1) fun vl s2 ⟨l,H2,I2,pl,q2⟩=>thn (hu pins s2 σ H2 _ I2 q2) fun vu s3 ⟨u,H3,I3,pu,q3⟩=>?_)
 rw[evalPart_none]
 refine u0 ?_
 have I4:Inv X pins σ H3 { s3 with heap:=s3.heap.push { cls:=.type "slice",data:=.fields #[vl,vu,.none] } }:=I3.kept (t':=s3.toks) fun b ob q=>g7 _ q
 obtain⟨T,id,hT,ht,hg⟩:=hr pins { s3 with heap:=s3.heap.push { cls:=.type "slice",data:=.fields #[vl,vu,.none] } } σ H3 x v vl vu l u s3.heap.objs.size Q I4 r1 (Heap.IsSliceOf.new ..) pl pu q3
 show wpAny (model X.prog X.w) X.A (subscriptTail e (.Slice lo hi none p2) v (.ref s3.heap.objs.size)) (EP X pins σ Q) X.xe { s3 with heap:=s3.heap.push { cls:=.type "slice",data:=.fields #[vl,vu,.none] } }
 exact tail_any (ops:=[.ref s3.heap.objs.size,v]) ht hT hg (by with_unfolding_all rfl)
def a5L(xs:List V)(lo hi:Option Int):List V:=(xs.drop (HT.sIx xs.length 0 lo)).take (HT.sIx xs.length xs.length hi - HT.sIx xs.length 0 lo)
theorem a7J(xs:List V)(lo hi:Option Int):(a5L xs lo hi).length<=xs.length:=by
 unfold a5L
 rw[R7,a9w]
 omega
def c6O(K:Fg):V->Option Int->Option Int->Hp->VK->Prop:=fun x lo hi H Q=>∃a xs,x=.ref a/\SqT K H a xs /\
 ¬(HT.sIx xs.length 0 lo=0/\HT.sIx xs.length xs.length hi=xs.length)/\∀p,H p=none->Q (.ref p) (upd H p (.tup (a5L xs lo hi)))
theorem c2P:SlR X (c6O X.K):=by
 intro pins s σ H x v vl vu lo hi sl Q I rx hs pl pu h
 obtain⟨a,xs,rfl,hx,hw,q⟩:=h
 cases rx
 obtain⟨its,r,ht,hz⟩:=I.tuple hx
 have hlen:its.toArray.size=xs.length:=by rw[o0];exact r.length.symm
 refine⟨"tuple",_,a0y.lookup,ht.typeIs,?_⟩
 refine HT.a6v ht hs pl pu (by rw[hlen];exact hw) ?_ (by rw[hlen];exact hz)
 rw[hlen]
 refine⟨.ref s.heap.objs.size,_,I.laid (t':=s.toks) (o:=.tup (a5L xs lo hi)) (fun b ob q=>g7 _ q) (g9 _) ?_,rfl,q _ (I.hok.fresh (g9 _))⟩
 exact⟨F6 (a7J xs lo hi) hz,_,(r.drop (HT.sIx xs.length 0 lo)).take (HT.sIx xs.length xs.length hi - HT.sIx xs.length 0 lo),IsTup.new _ _⟩
end
def ixN(n:Nat)(i:Int):Option Nat:=if 0<=i then (if i<n then some i.toNat else none)else if -(n:Int)<=i then some (i+n).toNat else none
def atI{α:Type}(xs:List α)(i:Int):Option α:=(ixN xs.length i).bind fun j=>xs[j]?
theorem b5r{n:Nat}{i:Int}{j:Nat}(h:ixN n i=some j):seqIndex? i n=some j/\j<n /\ -(n:Int)<=i/\i<n:=by
 unfold ixN at h
 by_cases h0:0<=i
 ·rw[if_pos h0]at h
  by_cases h1:i<n
  ·rw[if_pos h1]at h
   have e:i.toNat=j:=Option.some.inj h
   exact⟨by rw[c6K h0 h1,e],by omega,by omega,h1⟩
  ·rw[if_neg h1]at h;cases h
 ·rw[if_neg h0]at h
  by_cases h1 : -(n:Int)<=i
  ·rw[if_pos h1]at h
   have e:(i+n).toNat=j:=Option.some.inj h
   exact⟨by rw[c5v (by omega) h1,e],by omega,h1,by omega⟩
  ·rw[if_neg h1]at h;cases h
theorem b1P{α:Type}{xs:List α}{i:Int}{v:α}(h:atI xs i=some v):∃j,seqIndex? i xs.length=some j/\xs[j]? = some v/\j<xs.length /\ -(xs.length:Int)<=i/\i<xs.length:=by
 unfold atI at h
 cases e:ixN xs.length i with
 | none=>rw[e]at h;cases h
 | some j=>
  rw[e]at h
  obtain⟨h1,h2,h3,h4⟩:=b5r e
  exact⟨j,h1,h,h2,h3,h4⟩
theorem Z5{α:Type}{xs:List α}{j:Nat}{v:α}(h:xs[j]? = some v):atI xs (j:Int)=some v:=by
 have hj:j<xs.length:=(o3.mp h).1
 have e:ixN xs.length (j:Int)=some j:=by
  unfold ixN
  rw[if_pos (by omega),if_pos (by omega)];simp
 unfold atI;rw[e];exact h
def b1S(b:Expr):Prop:=∀o i,subscripted b false o i=operate [o,i] (c2M o i)
def IxR(X:Cx)(r:R2):Prop:=
 ∀(value slice:Expr) (pins:List (Addr×Obj)) (s:l5) (σ:St) (H:Hp) (x y:V) (v u:Value) (Q:VK),Inv X pins σ H s->E1 x v->E1 y u->r x y H Q ->
  subscripted slice false v u=operate [v,u] (c2M v u)->wpAny (model X.prog X.w) X.A (subscriptTail value slice v u) (EP X pins σ Q) X.xe s
def MtR(X:Cx)(id:String)(r:V->List V->Hp->VK->Prop):Prop:=
 ∀(pins:List (Addr×Obj)) (s:l5) (σ:St) (H:Hp) (x:V) (xs:List V) (v:Value) (us:List Value) (Q:VK),Inv X pins σ H s->E1 x v->E4 xs us->r x xs H Q ->
  wpAny (model X.prog X.w) X.A (call (.builtin id) (v::us)) (EP X pins σ Q) X.xe s
section
variable {a b:Expr}{ta tb:TE}{pos:Pos}
theorem IxR.or{r r':R2}(h:IxR X r)(h':IxR X r'):IxR X (fun x y H Q=>r x y H Q\/r' x y H Q):=by
 intro value slice pins s σ H x y v u Q I rx ry q hs
 rcases q with q | q
 ·exact h value slice pins s σ H x y v u Q I rx ry q hs
 ·exact h' value slice pins s σ H x y v u Q I rx ry q hs
theorem c6g{r:R2}(hr:IxR X r)(ha:PE X a ta)(hb:PE X b tb)(hs:b1S b):PE X (.Subscript a b pos) (tOp r ta tb):=by
 intro pins s σ H Q I h
 exact Subscript_ (c4S ha hb I h fun v u s2 x y H2 I2 rx ry q=>hr a b pins s2 σ H2 x y v u Q I2 rx ry q (hs _ _))
def c5S(K:Fg):R2:=fun x y H Q=>∃p xs i v,x=.ref p/\y=.int i/\SqL K H p xs/\atI xs i=some v/\Q v H
def c5Q(K:Fg):R2:=fun x y H Q=>∃p xs i v,x=.ref p/\y=.int i/\SqT K H p xs/\atI xs i=some v/\Q v H
def c5R:R2:=fun x y H Q=>∃z i c,x=.str z/\y=.int i/\z.length<=q9/\atI z.cps.toList i=some c/\Q (.str ⟨#[c]⟩) H
theorem c1G:IxR X (c5S X.K):=by
 intro value slice pins s σ H x y v u Q I rx ry h hs
 obtain⟨p,xs,i,z,rfl,rfl,hq,he,q⟩:=h
 cases rx
 obtain⟨t,rfl⟩:=ry
 obtain⟨its,r,pl,hz⟩:=I.list hq
 obtain⟨j,h1,h2,h3,h4,h5⟩:=b1P he
 obtain⟨w,ew,rw'⟩:=r.get h2
 have hl:=r.length
 have hn:=a5K
 have fin:EP X pins σ Q w s:=⟨z,H,I,rw',q⟩
 by_cases h0:0<=i
 ·have hj:i.toNat=j:=by
   rw[c6K h0 h5]at h1
   exact Option.some.inj h1
  exact item_listR pl.isList h0 (by omega) (by rw[hj];simpa using ew) fin hs
 ·have hj:(i+(its.toArray.size:Int)).toNat=j:=by
   rw[c5v (by omega) h4]at h1
   rw[o0,<-hl]
   exact Option.some.inj h1
  exact c5q (x:=w) pl.isList.typeIs slot_list_getitem.lookup
   (wpAny_getItem_list_neg (Q:=fun r s'=>r=w/\EP X pins σ Q r s') pl.isList (by omega) (by rw[o0] <;> omega) (by omega) (by rw[hj];simpa using ew) ⟨rfl,fin⟩) hs
theorem c4G:IxR X (c5Q X.K):=by
 intro value slice pins s σ H x y v u Q I rx ry h hs
 obtain⟨p,xs,i,z,rfl,rfl,hq,he,q⟩:=h
 cases rx
 obtain⟨t,rfl⟩:=ry
 obtain⟨its,r,pl,hz⟩:=I.tuple hq
 obtain⟨j,h1,h2,h3,h4,h5⟩:=b1P he
 obtain⟨w,ew,rw'⟩:=r.get h2
 have hl:=r.length
 have hn:=a5K
 have fin:EP X pins σ Q w s:=⟨z,H,I,rw',q⟩
 exact c5q (x:=w) pl.typeIs slot_tuple_getitem.lookup
  (getItem_tuple (j:=j) (Q:=fun r s'=>r=w/\EP X pins σ Q r s') pl (by omega) (by omega) (by rw[o0,<-hl];exact h1) (by simpa using ew) ⟨rfl,fin⟩) hs
theorem c4H:IxR X c5R:=by
 intro value slice pins s σ H x y v u Q I rx ry h hs
 obtain⟨z,i,c,rfl,rfl,hz,he,q⟩:=h
 obtain⟨t,rfl⟩:=rx
 obtain⟨t',rfl⟩:=ry
 obtain⟨j,h1,h2,h3,h4,h5⟩:=b1P he
 have hl:z.cps.toList.length=z.length:=by simp[Str.length]
 rw[hl]at h1 h4 h5
 have hn:=a5K
 exact tail_any (typeIs_str s z t) slot_str_getitem.lookup (getItem_str (c:=c) (by
  have e1:decide (i < -(2 ^ 63:Int))=false:=c8r (by omega)
  have e2:decide (i ≥ 2 ^ 63)=false:=c8r (by omega)
  rw[e1,e2,c6z]) (by rw[h1];simpa using h2) ⟨.str ⟨#[c]⟩,H,I.tok _,⟨_,rfl⟩,q⟩) hs
def rIx(K:Fg):R2:=fun x y H Q=>c5S K x y H Q\/c5Q K x y H Q\/c5R x y H Q
theorem c4I:IxR X (rIx X.K):=c1G.or (c4G.or c4H)
theorem b4H(its:List Value)(n j:Nat)(u:Value):Obj.mapSeq (·.setIfInBounds j u) { cls:=.type "list",data:=.seq its.toArray n }={ cls:=.type "list",data:=.seq (its.set j u).toArray n }:=by
 simp[Obj.mapSeq]
theorem Inv.lst{pins:List (Addr×Obj)}{σ:St}{H:Hp}{s:l5}{p:Addr}{xs:List V}(I:Inv X pins σ H s)(h:H p=some (.lst xs)) :
  ∃(its:List Value) (n:Nat),E4 xs its/\s.heap.get? p=some { cls:=.type "list",data:=.seq its.toArray n }/\xs.length<=q9:=by
 obtain⟨z,its,n,r,e⟩:=I.hok p _ h
 exact⟨its,n,r,e,z⟩
theorem Inv.lstUpd{p:Addr}{ys:List V}{its its':List Value}{n n':Nat}{f:Obj->Obj}(I:Inv X pins σ H s)(h:H p=some (.lst xs))
  (ho:s.heap.get? p=some { cls:=.type "list",data:=.seq its.toArray n }) (hf:f { cls:=.type "list",data:=.seq its.toArray n }={ cls:=.type "list",data:=.seq its'.toArray n' }) (r:E4 ys its') (hz:ys.length<=q9) (t:Nat) :
  Inv X pins σ (upd H p (.lst ys)) { s with heap:=s.heap.update p f,toks:=t }:=by
 have e:(s.heap.update p f).get? p=some { cls:=.type "list",data:=.seq its'.toArray n' }:=by
  rw[a5q f ho (by rw[hf] <;> rfl),hf]
 refine I.write (x:=p) (e:=p) (by rw[h];trivial) (.inl rfl) (fun b u hb q=>(a4O _ _ (Ne.symm hb)).trans q) ⟨_,e⟩ ?_
 exact⟨hz,its',n',r,e⟩
def c5P:V->V->V->Hp->(Hp->Prop)->Prop:=fun o i v H Q=>∃p xs k j,o=.ref p/\i=.int k/\H p=some (.lst xs)/\ixN xs.length k=some j/\Q (upd H p (.lst (xs.set j v)))
theorem b7R:b9H X c5P:=by
 intro pins s σ H o i v ov iv u Q I ro ri rv h
 obtain⟨p,xs,k,j,rfl,rfl,hp,hj,q⟩:=h
 cases ro
 obtain⟨t,rfl⟩:=ri
 obtain⟨its,n,r,ho,hz⟩:=I.lst hp
 obtain⟨h1,h2,h3,h4⟩:=b5r hj
 have hl:=r.length
 have hn:=a5K
 have I':Inv X pins σ (upd H p (.lst (xs.set j v))) { s with heap:=s.heap.update p (Obj.mapSeq (·.setIfInBounds j u)) }:=
  I.lstUpd hp ho (b4H its n j u) (r.set rv j) (by rw[a0J];exact hz) s.toks
 by_cases h0:0<=k
 ·have hk:k.toNat=j:=by
   rw[c6K h0 h4]at h1
   exact Option.some.inj h1
  exact PySem.W.ki_setAt ho h0 (by omega) (by rw[o0,<-hl];exact h4) (by rw[hk];exact⟨_,I',q⟩)
 ·have hk:(k+(its.toArray.size:Int)).toNat=j:=by
   rw[c5v (by omega) h3]at h1
   rw[o0,<-hl]
   exact Option.some.inj h1
  exact PySem.W.ki_setBack ho (by omega) (by rw[o0,<-hl];exact h3) (by omega) (by rw[hk];exact⟨_,I',q⟩)
theorem b0I(lo hi:Option Int)(n:Nat):(a3S lo hi none n).1=((HT.sIx n 0 lo:Nat):Int)/\(a3S lo hi none n).2.1=((HT.sIx n n hi:Nat):Int)/\(a3S lo hi none n).2.2=1:=by
 refine⟨?_,?_,rfl⟩
 ·cases lo with
  | none=>simp[a3S,HT.sIx]
  | some i=>
   simp only[a3S,HT.sIx,b9Z,show(1:Int) > 0 by decide,if_true]
   by_cases h:i<0
   ·simp only[h,if_true] <;> omega
   ·simp only[h,if_false] <;> omega
 ·cases hi with
  | none=>simp[a3S,HT.sIx]
  | some i=>
   simp only[a3S,HT.sIx,b9Z,show(1:Int) > 0 by decide,if_true]
   by_cases h:i<0
   ·simp only[h,if_true] <;> omega
   ·simp only[h,if_false] <;> omega
theorem a9B(its:List Value)(lo hi:Option Int):slicePick its.toArray lo hi none=((its.drop (HT.sIx its.length 0 lo)).take (HT.sIx its.length its.length hi - HT.sIx its.length 0 lo)).toArray:=by
 obtain⟨h1,h2,h3⟩:=b0I lo hi its.toArray.size
 unfold slicePick
 rw[h1,h2,h3]
 simp only[sliceRange_one,pick_run,o0] <;> rfl
def c3l(K:Fg):V->Option Int->Option Int->Hp->VK->Prop:=fun x lo hi H Q=>∃a xs,x=.ref a/\SqL K H a xs/\∀p,H p=none->Q (.ref p) (upd H p (.lst (a5L xs lo hi)))
theorem b5m:SlR X (c3l X.K):=by
 intro pins s σ H x v vl vu lo hi sl Q I rx hs pl pu h
 obtain⟨a,xs,rfl,hx,q⟩:=h
 cases rx
 obtain⟨its,r,ht,hz⟩:=I.list hx
 have hlen:=r.length
 refine⟨"list",_,slot_list_getitem.lookup,ht.isList.typeIs,?_⟩
 refine wpAny_getItem_list_slice ht.isList hs pl pu .none (by simp) ?_ (by rw[o0] <;> omega)
 rw[a9B,<-hlen]
 refine⟨.ref s.heap.objs.size,_,I.laid (t':=s.toks) (o:=.lst (a5L xs lo hi)) (fun b ob q=>g7 _ q) (g9 _) ?_,rfl,q _ (I.hok.fresh (g9 _))⟩
 exact⟨F6 (a7J xs lo hi) hz,_,0,(r.drop (HT.sIx xs.length 0 lo)).take (HT.sIx xs.length xs.length hi - HT.sIx xs.length 0 lo),y7 _ rfl⟩
def K7:V->Bool
 | .non=>true
 | .bl _=>true
 | .int _=>true
 | .str _=>true
 | _=>false
def eqV:V->V->Bool
 | .non,.non=>true
 | .bl a,.bl b=>a == b
 | .bl a,.int b=>(if a then 1 else 0) == b
 | .int a,.bl b=>a == (if b then 1 else 0)
 | .int a,.int b=>a == b
 | .str a,.str b=>a == b
 | _,_=>false
theorem a9f{A:G8}{y x:V}{u v:Value}(ry:E1 y u)(rx:E1 x v)(fy:K7 y=true)(fx:K7 x=true):SeqAt.EqAt A s u v (eqV y x):=by
 cases y with
 | non=>
  cases ry
  cases x with
  | non=>cases rx;exact SeqAt.EqAt.same _
  | bl b=>cases rx;exact SeqAt.EqAt.none_bool b
  | int b=>obtain⟨t,rfl⟩:=rx;exact SeqAt.EqAt.none_int b t
  | str b=>obtain⟨t,rfl⟩:=rx;exact SeqAt.EqAt.none_str b t
  | _=>exact absurd (show false=true from fx) t6
 | bl a=>
  cases ry
  cases x with
  | non=>cases rx;exact SeqAt.EqAt.bool_none a
  | bl b=>cases rx;exact SeqAt.EqAt.bool_bool a b
  | int b=>obtain⟨t,rfl⟩:=rx;exact SeqAt.EqAt.bool_int a b t
  | str b=>obtain⟨t,rfl⟩:=rx;exact SeqAt.EqAt.bool_str a b t
  | _=>exact absurd (show false=true from fx) t6
 | int a=>
  obtain⟨t',rfl⟩:=ry
  cases x with
  | non=>cases rx;exact SeqAt.EqAt.int_none a t'
  | bl b=>cases rx;exact SeqAt.EqAt.int_bool a t' b
  | int b=>obtain⟨t,rfl⟩:=rx;exact SeqAt.EqAt.int_int a t' b t
  | str b=>obtain⟨t,rfl⟩:=rx;exact SeqAt.EqAt.int_str a t' b t
  | _=>exact absurd (show false=true from fx) t6
 | str a=>
  obtain⟨t',rfl⟩:=ry
  cases x with
  | non=>cases rx;exact SeqAt.EqAt.str_none a t'
  | bl b=>cases rx;exact SeqAt.EqAt.str_bool a t' b
  | int b=>obtain⟨t,rfl⟩:=rx;exact SeqAt.EqAt.str_int a t' b t
  | str b=>obtain⟨t,rfl⟩:=rx;exact SeqAt.EqAt.str_str a t' b t
  | _=>exact absurd (show false=true from fx) t6
 | _=>exact absurd (show false=true from fy) t6
def eqU(x:V)(u:Value):Bool:=match u with
 | .none=>eqV .non x
 | .bool b=>eqV (.bl b) x
 | .int i _=>eqV (.int i) x
 | .str z _=>eqV (.str z) x
 | _=>false
theorem b9o{x y:V}{u:Value}(r:E1 y u)(f:K7 y=true):eqU x u=eqV y x:=by
 cases y with
 | non=>cases r;rfl
 | bl b=>cases r;rfl
 | int i=>obtain⟨t,rfl⟩:=r;rfl
 | str z=>obtain⟨t,rfl⟩:=r;rfl
 | _=>exact absurd (show false=true from f) t6
theorem a6B{x:V}:∀ {xs:List V} {us:List Value},E4 xs us->xs.all K7=true->us.any (eqU x)=xs.any fun y=>eqV y x
 | _,_,.nil,_=>rfl
 | y::xs,u::us,.cons r t,f=>by
  rw[W2,a3R]at f
  rw[P3,P3,b9o r f.1,a6B t f.2]
theorem a4t{A:G8}{x:V}{v:Value}(rx:E1 x v)(fx:K7 x=true):∀ {xs:List V} {us:List Value},E4 xs us->xs.all K7=true->∀u∈us,SeqAt.EqAt A s u v (eqU x u)
 | _,_,.nil,_=>fun u hu=>by cases hu
 | y::xs,u::us,.cons r t,f=>fun u' hu=>by
  rw[W2,a3R]at f
  rcases d5.mp hu with rfl | hu
  ·rw[b9o r f.1];exact a9f r rx f.1 fx
  ·exact a4t rx fx t f.2 u' hu
def inV(x:V)(xs:List V):Bool:=xs.any fun y=>eqV y x
def rIn(K:Fg)(neg:Bool):R2:=fun x y H Q=>∃p xs,y=.ref p/\(SqL K H p xs\/SqT K H p xs)/\K7 x=true/\xs.all K7=true/\Q (.bl (if neg then !inV x xs else inV x xs)) H
theorem b0g:OpR X (u6 .In) (rIn X.K false):=by
 intro pins s σ H x y v u Q I rx ry h
 obtain⟨p,xs,rfl,hq,fx,fs,q⟩:=h
 cases ry
 rcases hq with hq | hq
 ·obtain⟨its,r,pl,hz⟩:=I.list hq
  refine SeqAt.in_listAt (eqU x) pl.isList (fun w hw=>a4t rx fx r fs w (by simpa using hw)) ⟨.bl _,H,I,rfl,?_⟩
  rw[show its.toArray.any (eqU x)=its.any (eqU x) by simp,a6B r fs]
  exact q
 ·obtain⟨its,r,pl,hz⟩:=I.tuple hq
  refine SeqAt.in_tupleAt (eqU x) pl (fun w hw=>a4t rx fx r fs w (by simpa using hw)) ⟨.bl _,H,I,rfl,?_⟩
  rw[show its.toArray.any (eqU x)=its.any (eqU x) by simp,a6B r fs]
  exact q
theorem b1i:OpR X (u6 .NotIn) (rIn X.K true):=by
 intro pins s σ H x y v u Q I rx ry h
 obtain⟨p,xs,rfl,hq,fx,fs,q⟩:=h
 cases ry
 rcases hq with hq | hq
 ·obtain⟨its,r,pl,hz⟩:=I.list hq
  refine SeqAt.notIn_listAt (eqU x) pl.isList (fun w hw=>a4t rx fx r fs w (by simpa using hw)) ⟨.bl _,H,I,rfl,?_⟩
  rw[show its.toArray.any (eqU x)=its.any (eqU x) by simp,a6B r fs]
  exact q
 ·obtain⟨its,r,pl,hz⟩:=I.tuple hq
  refine SeqAt.notIn_tupleAt (eqU x) pl (fun w hw=>a4t rx fx r fs w (by simpa using hw)) ⟨.bl _,H,I,rfl,?_⟩
  rw[show its.toArray.any (eqU x)=its.any (eqU x) by simp,a6B r fs]
  exact q
theorem b1h:OpR X (u6 .NotIn) (fun x y H Q=>∃i j,x=.str i/\y=.str j/\Q (.bl (!(!(Builtin.Str.occurrences j i 0 j.length 1).isEmpty))) H):=by
 intro pins s σ H x y v u Q I rx ry h
 obtain⟨i,j,rfl,rfl,q⟩:=h
 obtain⟨t,rfl⟩:=rx
 obtain⟨t',rfl⟩:=ry
 exact notIn_str ⟨.bl _,H,I,rfl,q⟩
theorem b1K:W0 X (.builtin "len") (fun xs H Q=>∃p ys,xs=[.ref p]/\(SqL X.K H p ys\/SqT X.K H p ys)/\Q (.int ys.length) H):=by
 intro pins s σ H xs us Q I r h
 obtain⟨p,ys,rfl,hq,q⟩:=h
 obtain⟨u,rfl,rx⟩:=a3Z r
 cases rx
 have hn:=a5K
 rcases hq with hq | hq
 ·obtain⟨its,r',pl,hz⟩:=I.list hq
  have hlen:=r'.length
  exact Calls.call_len_list pl.isList (by simp only[o0] <;> omega) ⟨.int ys.length,H,I.tok _,⟨s.toks+1,by rw[o0,hlen]⟩,q⟩
 ·obtain⟨its,r',pl,hz⟩:=I.tuple hq
  have hlen:=r'.length
  exact len_tuple pl (by simp only[o0] <;> omega) ⟨.int ys.length,H,I.tok _,⟨s.toks+1,by rw[o0,hlen]⟩,q⟩
theorem b1J:W0 X (.builtin "len") (fun xs H Q=>∃z,xs=[.str z]/\z.length<=q9/\Q (.int z.length) H):=by
 intro pins s σ H xs us Q I r h
 obtain⟨z,rfl,hz,q⟩:=h
 obtain⟨u,rfl,t,rfl⟩:=a3Z r
 have hn:=a5K
 exact len_str (by omega) ⟨.int z.length,H,I.tok _,⟨_,rfl⟩,q⟩
theorem W0.or{f:Value}{r r':List V->Hp->VK->Prop}(h:W0 X f r)(h':W0 X f r'):W0 X f (fun xs H Q=>r xs H Q\/r' xs H Q):=by
 intro pins s σ H xs us Q I rs q
 rcases q with q | q
 ·exact h pins s σ H xs us Q I rs q
 ·exact h' pins s σ H xs us Q I rs q
theorem b1I:W0 X (.type "list") (fun xs H Q=>∃p ys,xs=[.ref p]/\(SqL X.K H p ys\/SqT X.K H p ys)/\∀l,H l=none->Q (.ref l) (upd H l (.lst ys))):=by
 intro pins s σ H xs us Q I r h
 obtain⟨p,ys,rfl,hq,q⟩:=h
 obtain⟨u,rfl,rx⟩:=a3Z r
 cases rx
 have fin:∀(its:List Value),E4 ys its->ys.length<=q9->∀(h':Heap) (c':Nat),(∀b o',s.heap.get? b=some o'->h'.get? b=some o') ->
   h'.get? s.heap.objs.size=some { cls:=.type "list",dict:=none,data:=.seq its.toArray c',slots := #[] }->EP X pins σ Q (.ref s.heap.objs.size) { s with heap:=h' }:=fun its r' hz h' c' kp e=>
  ⟨.ref s.heap.objs.size,_,I.laid (t':=s.toks) kp (g9 _) (show V9 X.prog X.w _ h' _ (.lst ys)from⟨hz,its,c',r',e⟩),rfl,q _ (I.hok.fresh (g9 _))⟩
 rcases hq with hq | hq
 ·obtain⟨its,r',pl,hz⟩:=I.list hq
  have hlen:=r'.length
  obtain⟨o,ho,hc,n,hd⟩:=pl.isList
  exact call_list_seq p (.inl rfl) ho hc hd (fun h' c' kp e=>fin its r' hz h' c' kp e) (by simp only[o0] <;> omega)
 ·obtain⟨its,r',pl,hz⟩:=I.tuple hq
  have hlen:=r'.length
  obtain⟨o,ho,hc,n,hd⟩:=pl
  exact call_list_seq p (.inr rfl) ho hc hd (fun h' c' kp e=>fin its r' hz h' c' kp e) (by simp only[o0] <;> omega)
def tyV(K:Fg)(T:String)(x:V)(H:Hp):Prop:=match x with
 | .str _=>T = "str"
 | .int _=>T = "int"
 | .ref p=>(T = "list" /\ ∃xs,SqL K H p xs)\/(T = "tuple" /\ ∃o,K.lookup p=some o/\o.cls=.type "tuple" /\ o.dict=none) \/
   (T = "dict" /\ ((∃kvs,H p=some (.dK kvs))\/∃kvs,H p=some (.dT kvs)))\/(T = "set" /\ ∃S n,H p=some (.set S n))
 | _=>False
theorem b7G{T:String}{x:V}{v:Value}(I:Inv X pins σ H s)(r:E1 x v)(ty:tyV X.K T x H) :
  s.TypeIs v T/\∀a,v=.ref a->∃ob,s.heap.get? a=some ob/\ob.dict=none:=by
 cases x with
 | str z=>
  obtain⟨t,rfl⟩:=r
  cases (show T = "str" from ty)
  exact⟨typeIs_str s z t,fun _ e=>nomatch e⟩
 | int i=>
  obtain⟨t,rfl⟩:=r
  cases (show T = "int" from ty)
  exact⟨typeIs_int s i t,fun _ e=>nomatch e⟩
 | ref p=>
  cases r
  rcases ty with ⟨rfl,xs,hq⟩ | ⟨rfl,o,hk,hc,hd⟩ | ⟨rfl,hk⟩ | ⟨rfl,S,n,hk⟩
  ·obtain⟨its,_,pl,_⟩:=I.list hq
   refine⟨pl.isList.typeIs,fun a e=>?_⟩
   cases e
   obtain⟨o,n,e,c,hd,_⟩:=pl
   exact⟨o,e,hd⟩
  ·refine⟨⟨o,I.kIn p o hk,hc⟩,fun a e=>?_⟩
   cases e
   exact⟨o,I.kIn _ o hk,hd⟩
  ·have z:∃o,s.heap.get? p=some o/\o.ExactDict:=by
    rcases hk with ⟨kvs,hk⟩ | ⟨kvs,hk⟩
    ·obtain⟨_,_,_,_,o,_,_,e,ex,_⟩:=I.hok p _ hk
     exact⟨o,e,ex⟩
    ·obtain⟨_,_,_,_,o,_,_,e,ex,_⟩:=I.hok p _ hk
     exact⟨o,e,ex⟩
   obtain⟨o,e,ex⟩:=z
   refine⟨⟨o,e,ex.1⟩,fun a e2=>?_⟩
   cases e2
   exact⟨o,e,ex.2.1⟩
  ·obtain⟨o,_,_,_,e,ex,_⟩:=I.hok p _ hk
   refine⟨⟨o,e,ex.1⟩,fun a e2=>?_⟩
   cases e2
   exact⟨o,e,ex.2.1⟩
 | _=>exact False.elim ty
def b7P(K:Fg)(T:String)(r:V->List V->Hp->VK->Prop)(to:TE):TE:=fun σ H Q=>to σ H fun x H1=>tyV K T x H1/\r x [] H1 Q
def tBM(K:Fg)(T:String)(r:V->List V->Hp->VK->Prop)(to:TE)(t:TA):TE:=fun σ H Q=>to σ H fun x H1=>tyV K T x H1/\t σ H1 fun xs H2=>r x xs H2 Q
variable {o e:Expr}{es:List Expr}{to:TE}{t:TA}{name:Str}{apos cpos:Pos}{T id:String}{r:V->List V->Hp->VK->Prop}
theorem c3Y(pa:c2l T)(slot:Slot T name id)(hty:typeOf (.builtin id)=pure (.type "method_descriptor"))(hm:MtR X id r)(ho:PE X o to)
  (hbase:W9 o name X.env (eval o X.env)=eval o X.env:=by rfl) (hline:(apos.endLine == cpos.line)=true:=by rfl):PE X (.Call (.Attribute o name apos) [] [] cpos) (b7P X.K T r to):=by
 intro pins s σ H Q I h
 refine wpAny_Call_method0_late hbase hline (thn (ho pins s σ H _ I h) fun v s1 ⟨x,H1,I1,r1,ty,q1⟩=>?_)
 obtain⟨h1,h2⟩:=b7G I1 r1 ty
 exact⟨T,id,pa,slot,hty,h1,h2,Calls.callWith_builtin rfl (PySem.evalArgs_none (hm pins s1 σ H1 x [] v [] Q I1 r1 .nil q1))⟩
theorem c6h(pa:c2l T)(slot:Slot T name id)(hty:typeOf (.builtin id)=pure (.type "method_descriptor"))(hm:MtR X id r)(ho:PE X o to)(ha:PA X (e::es) t)
  (hbase:W9 o name X.env (eval o X.env)=eval o X.env:=by rfl)
  (hfew:((W8 cpos (i8 (e::es) X.env)).all (fun x => !x.1)&&(a9t cpos (a2G [] X.env)).all (fun x=>x.1.isSome)
   && decide ((e::es).length+([]:List a6K).length+(if([]:List a6K).isEmpty then 0 else 1)<30))=true:=by rfl)
  (hline:(apos.endLine == cpos.line)=true:=by rfl) (hs:i8 (e::es) X.env=(false,eval e X.env)::i8 es X.env:=by rfl) (hplain:(W8 cpos (i8 es X.env)).any (·.1)=false:=by rfl) :
  PE X (.Call (.Attribute o name apos) (e::es) [] cpos) (tBM X.K T r to t):=by
 intro pins s σ H Q I h
 refine wpAny_Call_method_late hbase hfew hline rfl (thn (ho pins s σ H _ I h) fun v s1 ⟨x,H1,I1,r1,ty,q1⟩=>?_)
 obtain⟨h1,h2⟩:=b7G I1 r1 ty
 refine⟨T,id,pa,slot,hty,h1,h2,?_⟩
 have hA:=ha cpos pins s1 σ H1 _ I1 q1
 rw[hs]at hA ⊢
 refine Calls.callWith_builtin (by show(false||(W8 cpos (i8 es X.env)).any (·.1))=false;rw[hplain] <;> rfl) (Calls.evalArgs_plain ?_)
 exact thn hA fun us s2 ⟨vs,H2,I2,r2,q2⟩=>hm pins s2 σ H2 x vs v us Q I2 r1 r2 q2
end
def MtM(X:Cx)(id:String)(r:V->List V->Hp->VK->Prop):Prop:=
 ∀(pins:List (Addr×Obj)) (s:l5) (σ:St) (H:Hp) (x:V) (xs:List V) (v:Value) (us:List Value) (Q:VK),Inv X pins σ H s->E1 x v->E4 xs us->r x xs H Q ->
  wpAny (model X.prog X.w) X.A (call (.builtin id) (v::us)) (EP X pins σ Q) X.xe s
theorem E4.one:∀ {x:V} {us:List Value},E4 [x] us->∃u,us=[u]/\E1 x u
 | _,_,.cons r .nil=>⟨_,rfl,r⟩
theorem E4.zero:∀ {us:List Value},E4 [] us->us=[]
 | _,.nil=>rfl
theorem E4.dropLast(h:E4 xs us):E4 xs.dropLast us.dropLast:=by
 induction h with
 | nil=>exact .nil
 | cons r t ih=>
  cases t with
  | nil=>exact .nil
  | cons q t'=>exact .cons r ih
theorem E4.reverse(h:E4 xs us):E4 xs.reverse us.reverse:=by
 induction h with
 | nil=>exact .nil
 | cons r t ih=>rw[c2g,c2g];exact E4.append ih (.cons r .nil)
theorem b4S{α:Type}(l:List α):l.eraseIdx (l.length - 1)=l.dropLast:=by
 induction l with
 | nil=>rfl
 | cons a r ih=>
  cases r with
  | nil=>rfl
  | cons b r=>
   have e:(a::b::r).length - 1=((b::r).length - 1)+1:=by
    have h1:(a::b::r).length=r.length+2:=rfl
    have h2:(b::r).length=r.length+1:=rfl
    omega
   rw[e,List.eraseIdx_cons_succ,ih]
   all_goals rfl
section
variable {l b:Addr}{ys zs:List V}
theorem Inv.lset{its its':List Value}{n:Nat}{f:Array Value->Array Value}{t':Nat}(I:Inv X pins σ H s)(hH:H l=some (.lst xs))
  (e:s.heap.get? l=some { cls:=.type "list",data:=.seq its.toArray n }) (hf:f its.toArray=its'.toArray) (hv:E4 ys its') (hz:ys.length<=q9) :
  Inv X pins σ (upd H l (.lst ys)) { s with heap:=s.heap.update l (Obj.mapSeq f),toks:=t' }:=by
 have q:=PySem.IsL.update e f
 rw[hf]at q
 refine I.write (x:=l) (e:=l) (by rw[hH];exact trivial) (.inl rfl) (fun b' u hb hu=>(a4O s.heap (Obj.mapSeq f) (Ne.symm hb)).trans hu) ⟨_,q⟩ ?_
 exact⟨hz,its',_,hv,q⟩
theorem Inv.lnew{its:List Value}{t':Nat}(I:Inv X pins σ H s)(hv:E4 ys its)(hz:ys.length<=q9) :
  Inv X pins σ (upd H s.heap.objs.size (.lst ys)) { s with heap:=s.heap.push { cls:=.type "list",data:=.seq its.toArray },toks:=t' }:=
 I.laid (fun _ _ q=>g7 _ q) (g9 _) ⟨hz,its,0,hv,y7 _ rfl⟩
theorem Inv.fresh(I:Inv X pins σ H s):H s.heap.objs.size=none:=I.hok.fresh (g9 _)
theorem Inv.lstM(I:Inv X pins σ H s)(hH:H l=some (.lst xs)):xs.length<=q9/\∃(its:List Value) (n:Nat),E4 xs its/\xs.length=its.length/\s.heap.get? l=some { cls:=.type "list",data:=.seq its.toArray n }:=by
 obtain⟨z,its,n,r,e⟩:=I.hok l _ hH
 exact⟨z,its,n,r,r.length,e⟩
theorem b8W{n:Nat}(h:n<=q9):Builtin.List.listTooLong n=false:=by
 unfold Builtin.List.listTooLong
 exact c8r (by omega)
end
section
def c0A:V->List V->Hp->VK->Prop:=fun x vs H Q=>∃l xs y,x=.ref l/\vs=[y]/\H l=some (.lst xs)/\xs.length<q9/\Q .non (upd H l (.lst (xs++[y])))
theorem a7j:MtM X "list.append" c0A:=by
 intro pins s σ H x vs v us Q I rx rv h
 obtain⟨l,xs,y,rfl,rfl,hH,hz,q⟩:=h
 cases rx
 obtain⟨u,rfl,ru⟩:=rv.one
 obtain⟨z,its,n,r,hl,e⟩:=I.lstM hH
 refine c2k F.slot_list_append ⟨_,e,rfl⟩ F.entry_list_append (F.args_list_append_2 _ _) (PySem.list_append l its.toArray n u (by rw[o0];omega)) ⟨e,?_⟩
 refine⟨.non,_,I.lset (its':=its++[u]) hH e (by simp) (r.append (.cons ru .nil)) ?_,rfl,q⟩
 rw[p5,C1]
 omega
def c0z:V->List V->Hp->VK->Prop:=fun x vs H Q=>∃l b xs zs,x=.ref l/\vs=[.ref b]/\H l=some (.lst xs)/\H b=some (.lst zs)/\xs.length+zs.length<=q9/\Q .non (upd H l (.lst (xs++zs)))
theorem b6w:MtM X "list.extend" c0z:=by
 intro pins s σ H x vs v us Q I rx rv h
 obtain⟨l,b,xs,zs,rfl,rfl,hH,hB,hz,q⟩:=h
 cases rx
 obtain⟨u,rfl,ru⟩:=rv.one
 cases ru
 obtain⟨z,its,n,r,hl,e⟩:=I.lstM hH
 obtain⟨z2,its2,n2,r2,hl2,e2⟩:=I.lstM hB
 have hsz:its.toArray.size+its2.toArray.size<=q9:=by rw[o0,o0];omega
 have hlong:¬(!its.toArray.isEmpty&&Builtin.List.listTooLong (its.toArray.size+its2.toArray.size))=true:=by
  rw[b8W hsz,Bool.and_false]
  exact t6
 refine c2k F.slot_list_extend ⟨_,e,rfl⟩ F.entry_list_extend (F.args_list_extend_2 _ _)
  (AutoSeq1.list_extend_list_list_0 l its.toArray n b its2.toArray n2 hlong (by rw[o0];omega) (by omega)) ⟨e,e2,?_⟩
 refine⟨.non,_,I.lset (its':=its++its2) hH e (by simp) (r.append r2) ?_,rfl,q⟩
 rw[p5]
 omega
def c6P:V->List V->Hp->VK->Prop:=fun x vs H Q=>∃l xs y,x=.ref l/\vs=[]/\H l=some (.lst xs)/\xs[xs.length - 1]? = some y/\Q y (upd H l (.lst xs.dropLast))
theorem c4w:MtM X "list.pop" c6P:=by
 intro pins s σ H x vs v us Q I rx rv h
 obtain⟨l,xs,y,rfl,rfl,hH,hy,q⟩:=h
 cases rx
 have hus:=rv.zero
 subst hus
 obtain⟨z,its,n,r,hl,e⟩:=I.lstM hH
 obtain⟨u,hu,ru⟩:=r.get hy
 have hy':its.toArray[its.toArray.size - 1]? = some u:=by
  show its.toArray[its.length - 1]? = some u
  rw[<-O1,<-hl]
  exact hu
 refine c2k F.slot_list_pop ⟨_,e,rfl⟩ F.entry_list_pop (F.args_list_pop_1 _) (MeetsSeq.list_pop_last l its.toArray n u hy' (by rw[o0];omega)) ⟨e,?_⟩
 refine⟨y,_,I.lset (its':=its.dropLast) hH e ?_ r.dropLast ?_,ru,q⟩
 ·show its.toArray.eraseIdxIfInBounds (its.toArray.size - 1)=its.dropLast.toArray
  rw[o0,List.eraseIdxIfInBounds_toArray,b4S]
 ·rw[List.length_dropLast]
  omega
def c6Q:R2:=fun x y H Q=>∃l b xs zs,x=.ref l/\y=.ref b/\H l=some (.lst xs)/\H b=some (.lst zs)/\xs.length+zs.length<=q9/\∀p,H p=none->Q (.ref p) (upd H p (.lst (xs++zs)))
theorem c4l:OpR X (X8 .Add) c6Q:=by
 intro pins s σ H x y v u Q I rx ry h
 obtain⟨l,b,xs,zs,rfl,rfl,hH,hB,hz,q⟩:=h
 cases rx
 cases ry
 obtain⟨z,its,n,r,hl,e⟩:=I.lstM hH
 obtain⟨z2,its2,n2,r2,hl2,e2⟩:=I.lstM hB
 refine PySem.P.add_list e e2 ?_ (by rw[o0,o0];omega)
 have ea:its.toArray++its2.toArray=(its++its2).toArray:=by simp
 rw[ea]
 exact⟨.ref _,_,I.lnew (t':=s.toks) (r.append r2) (by rw[p5];omega),rfl,q _ I.fresh⟩
end
section
variable {prog:C2}{w:World}{A:G8}{E:Value->l5->Prop}
set_option maxRecDepth 100000 in
end
section
end
end L2
namespace Att
open PySem PySem.W PySem.Calls PyProof.Rows
theorem a7R{P:Params}{h:Heap}:∀(ns:List Int) (vs:List Value),WellAll P h vs (ns.map WData.int)->c2N vs ns:=by
 intro ns
 induction ns with
 | nil=>
  intro vs w
  rw[b5F]at w
  cases w
  exact .nil
 | cons n ns ih=>
  intro vs w
  rw[E8]at w
  cases w with
  | cons a b=>
   cases a
   exact .cons _ _ (ih _ b)
theorem b5Y{l:OpenLaw}{n:Nat}(hn:l.most=some n){P:Params}{h:Heap}{args:List WData}{vals:List Value}
  (hpre:l.row.toRowW.claim.pre args=true) (hwl:WellAll P h vals args) :
  ∃a vs ns,vals=[Value.ref a]/\args=[WData.list (ns.map WData.int)]/\h.get? a=some { cls:=.type "list",data:=.seq vs.toArray }/\c2N vs ns/\ns.length<=n:=by
 have hsh:WShape.hasAll [] args [.list .int]=true:=(pre_splitW hpre).1
 have hc:l.pre.holds [] { args:=args }=true:=(pre_splitW hpre).2
 obtain⟨d,r,rfl,h1,h2⟩:=hasAllW_cons hsh
 obtain rfl:=hasAllW_nil h2
 obtain⟨xs,rfl,h3⟩:=hasW_list h1
 obtain⟨ns,rfl⟩:=items_int h3
 have hlen:ns.length<=n:=by
  unfold OpenLaw.pre at hc
  have h4:(WTm.not (.lt (.lit (.int (n:Int))) (.len (.arg 0)))).holds [] { args:=[.list (ns.map .int)] }=true:=by
   have h4:=(holds_andW hc).1
   rw[hn]at h4
   exact h4
  have h5:=condW_of h4 (w_not (w_lt w_lit (w_len_list (w_arg rfl))))
  rw[b7]at h5
  refine Nat.le_of_not_lt fun q=>?_
  have q':(n:Int)<((ns.length:Nat):Int):=by omega
  first
   | (rw[c8s q']at h5;exact absurd h5 (by decide))
   | (simp at h5;omega)
 cases hwl with
 | cons w1 w2=>
  cases w2
  cases w1 with
  | list ho hall=>exact⟨_,_,ns,rfl,rfl,ho,a7R ns _ hall,hlen⟩
theorem b6i(l:OpenLaw)(args:List WData):l.row.toRowW.claim.post args (.bool true) args=true:=
 postW_of (r:=l.row.toRowW) (X:=(true == true))
  (show WShape.has [] (.bool true) .bool=true by first | rfl | decide | simp[WShape.has,WShape.arms,WShape.armsAll])
  (show(WTm.eq .res (.lit (.bool true))).value [] { args:=args,res:=some (.bool true),after:=args }=some (.bool (true == true))from w_eq_bool (w_res rfl) w_lit) rfl
theorem b3v{l:OpenLaw}{n:Nat}{q:C2}{loose:List Str}{XP:(Str->Option Value)->Heap->Prop}{YP:World->Heap->Prop}{d:DefRec}
  (hn:l.most=some n) (hdf:d.params.defaults=[])
  (call:∀(w:World) (s₀ s₁:l5) (mg mb:Str->Option Value) (fa:Addr) (o:Obj) (pm cd doc:Value) (a:Addr) (vs:List Value) (ns:List Int),
   Ground q loose [] XP w s₀ mg mb s₁.heap->YP w s₁.heap ->
   s₁.heap.get? fa=some o->o.data=.func (docDef d.name d.params d.body d.scope pm cd doc)->s₁.heap.CodeRec cd d.name->mg d.name=some (.ref fa) ->
   s₁.heap.get? a=some { cls:=.type "list",data:=.seq vs.toArray }->c2N vs ns->ns.length<=n->s₁.gens = #[] ->
   a3V (model l.prog w) b7l (.call (.ref fa) ⟨[.ref a],[]⟩) (fun r s'=>r=.ok (.ret (.bool true))/\OldK s₁.heap s'.heap/\s'.os=s₁.os/\b0w s'.gens) s₁) :
  WalkO q loose XP YP l.row.toRowW d [] (fun f vs=>b1U f vs):=by
 intro w s₀ s₁ mg mb G Y fa o pm cd doc dV kV ho hd hcd hD hmg hg args vals as hpre hlay hrd hwl hlo
 obtain rfl:dV=.none:=Dflts.none hD hdf
 obtain rfl:kV=.none:=Dflts.noKw hD
 obtain⟨a,vs,ns,rfl,rfl,hobj,hints,hlen⟩:=b5Y hn hpre hwl
 refine enter_call (b5d (call w s₀ s₁ mg mb fa o pm cd doc a vs ns G Y ho (fd_plain hd) hcd hmg hobj hints hlen hg) fun r s' hq=>?_)
 obtain⟨rfl,h2,h3,h4⟩:=hq
 exact⟨.inl ⟨.bool true,.bool true,[],rfl,fun _=>rfl,.bool true,b6i l _,fun _=>⟨List.Pairwise.nil,fun _ hm=>(nomatch hm)⟩⟩,h2,h3,h4⟩
section
variable {prog:C2}{w:World}{A:G8}{E:Value->l5->Prop}{s:l5}{K:Frag}
end
end Att
namespace L2
open PySem PySem.Spec PyProof.Rows
theorem a6L:∀ {vs:List Value} {ns:List Int},c2N vs ns->E4 (ns.map V.int) vs
 | _,_,.nil=>.nil
 | _,_,.cons n t h=>.cons ⟨t,rfl⟩ (a6L h)
def c2c(H:Hp):Prop:=∀b,H b=none\/∃o xs,H b=some (.frz o (.lst xs))
theorem b9e{P:C2}{w:World}{K:Fg}{mg mb:Str->Option Value}{CX:CXT}{k:Nat}{fa a:Addr}{fd:X9}{x:Str}{sp:Sp}{s₁:l5}{vs:List Value}{ns:List Int}
  (KX:K.In s₁.heap) (hns:s₁.heap.Ns u9 mg) (hb:s₁.heap.Ns builtinsNs mb) (hbb:∀x:Str,x ≠ "__name__" -> mb x=R4 x) (hlim:s₁.heap.NoLimit) (hg:s₁.gens = #[])
  (ha:s₁.heap.get? a=some { cls:=.type "list",data:=.seq vs.toArray }) (hi:c2N vs ns) (hl:ns.length<=q9) (hr:P7 k b7l)
  (F:∀base:Heap,K.In base->base.Ns u9 mg->K0 P w K mg base CX k fa fd [x] sp) (hbind:∀(s:l5) (u:Value),b7n s fd ⟨[u],[]⟩ [(x,u)])
  (hsp:∀H:Hp,c2c H->SqL K H a (ns.map V.int)->sp [.ref a] H (fun v _=>v=.bl true) fun _ _ _=>False)
  (hCX:∀H e s',CX [] H s₁ (fun _ _ _=>False) e s'->False) :
  a3V (model P w) b7l (.call (.ref fa) ⟨[.ref a],[]⟩) (fun r s'=>r=.ok (.ret (.bool true))/\OldK s₁.heap s'.heap/\s'.os=s₁.os/\b0w s'.gens) s₁:=by
 have rv:=a6L hi
 have lenV:=hi.length
 have core:∀H:Hp,c2c H->SqL K H a (ns.map V.int)->HOk P w H s₁.heap->(∀b,H b≠none->b=a)->(H a≠none->K.lookup a=none) ->
   a3V (model P w) b7l (.call (.ref fa) ⟨[.ref a],[]⟩) (fun r s'=>r=.ok (.ret (.bool true))/\OldK s₁.heap s'.heap/\s'.os=s₁.os/\b0w s'.gens) s₁:=by
  intro H hO hS hok hA hK
  have base_of:∀ {b:Addr} {o:Obj},s₁.heap.get? b=some o->H b=none->(b1t s₁.heap H).get? b=some o:=fun e n=>b9j e n
  have noA:∀ {b:Addr} {o:Obj} {es:Array a1U} {ep:Nat},s₁.heap.get? b=some o->o.data=.dict es ep->H b=none:=fun {b o es ep} e d=>by
   cases q:H b with
   | none=>rfl
   | some u=>
    have e':b=a:=hA b (by rw[q];simp)
    subst e'
    rw[ha]at e;cases e
    have d':Data.seq vs.toArray _=Data.dict es ep:=d
    cases d'
  have nsK:∀ {b:Addr} {m:Str->Option Value},s₁.heap.Ns b m->(b1t s₁.heap H).Ns b m:=fun {b m} ⟨o,es,ep,e,d,r⟩=>⟨o,es,ep,base_of e (noA e d),d,r⟩
  have hKb:K.In (b1t s₁.heap H):=fun b o e=>base_of (KX b o e) (by
   cases q:H b with
   | none=>rfl
   | some u=>
    have e':b=a:=hA b (by rw[q];simp)
    subst e'
    rw[hK (by rw[q];simp)]at e;cases e)
  have hM:Mod K mg (b1t s₁.heap H):=⟨hKb,nsK hns,⟨mb,nsK hb,hbb⟩,let⟨mc,h1,h2⟩:=hlim; ⟨mc,nsK h1,h2⟩⟩
  have e0:b5b P w K mg (b1t s₁.heap H) b7l [] s₁ H:=⟨rfl,hM,fun b o e=>c1w e,Nat.le_of_eq (b6G _ _),trivial,fun b hb=>absurd (show b∈([]:List Addr)from hb) (by simp),hok,.of_eq hg⟩
  refine b5d ((F _ hKb (nsK hns)).run b7l [] s₁ H ⟨[.ref a],[]⟩ [.ref a] [.ref a] _ _ hr e0 (hbind s₁ (.ref a)) (.cons rfl .nil) (hsp H hO hS)) fun r s' h=>?_
  cases r with
  | error e=>exact(hCX H e s' h).elim
  | ok fl=>
   cases fl with
   | next=>exact False.elim h
   | brk=>exact False.elim h
   | cont=>exact False.elim h
   | ret u=>
    obtain⟨v,H',os,bare,un,hok',r',q⟩:=h
    have q':v=.bl true:=q
    subst q'
    obtain rfl:u=Value.bool true:=r'
    refine⟨rfl,OldK.of_keep fun b o e=>?_,os,bare⟩
    cases q:H b with
    | none=>exact un.keep b o e q (by intro z;exact absurd (show b∈([]:List Addr)from z) (by simp)) (by simp)
    | some u=>
     rcases hO b with z | ⟨ob,xs,z⟩
     ·rw[q]at z;cases z
     ·have z2:=un.frzs b ob _ z
      obtain⟨e1,_⟩:=hok b _ z
      obtain⟨e2,_⟩:=hok' b _ z2
      rw[e]at e1;cases e1
      exact e2
 cases hk:K.lookup a with
 | some o=>
  have e:=KX a o hk
  rw[ha]at e
  cases e
  refine core (fun _=>none) (fun _=>.inl rfl) (.inr ⟨_,vs.toArray,_,hk,rfl,rfl,rfl,by rw[o0,lenV];exact hl,by simpa using rv⟩) (fun b u z=>by have z':(none:Option HO)=some u:=z;cases z') (fun b z=>absurd rfl z) fun z=>absurd rfl z
 | none=>
  refine core (fun b=>if b=a then some (.frz { cls:=.type "list",data:=.seq vs.toArray } (.lst (ns.map V.int)))else none) (fun b=>?_) (.inl (.inr ⟨{ cls:=.type "list",data:=.seq vs.toArray },if_pos rfl⟩)) (fun b u z=>?_) (fun b z=>?_) fun _=>hk
  ·by_cases hb:b=a
   ·exact .inr ⟨_,_,if_pos hb⟩
   ·exact .inl (if_neg hb)
  ·by_cases hb:b=a
   ·have z':=(if_pos hb).symm.trans z
    cases z'
    subst hb
    exact⟨ha,by rw[b7];exact hl,vs,_,rv,ha⟩
   ·have z':=(if_neg hb).symm.trans z
    cases z'
  ·by_cases hb:b=a
   ·exact hb
   ·exact absurd (if_neg hb) z
theorem c0h{l:PySem.W.OpenLaw}{n k:Nat}{q:C2}{loose:List Str}{XP:(Str->Option Value)->Heap->Prop}{YP:World->Heap->Prop}{d:DefRec}{K:Params->Fg}{CX:World->CXT}{sp:World->Sp}{x:Str}
  (hn:l.most=some n) (hn2:n<=q9) (hdf:d.params.defaults=[]) (hr:P7 k b7l)
  (hY:∀(w:World) (h:Heap),YP w h->(K w.params).In h)
  (F:∀(w:World) (mg:Str->Option Value) (fa:Addr) (h:Heap),(K w.params).In h->h.Ns u9 mg->mg d.name=some (.ref fa) ->
   ∃fd:X9,(∀(s:l5) (u:Value),b7n s fd ⟨[u],[]⟩ [(x,u)]) /\
    ∀base:Heap,(K w.params).In base->base.Ns u9 mg->K0 l.prog w (K w.params) mg base (CX w) k fa fd [x] (sp w))
  (hsp:∀(w:World) (H:Hp) (a:Addr) (ns:List Int),ns.length<=n->c2c H->SqL (K w.params) H a (ns.map V.int)->sp w [.ref a] H (fun v _=>v=.bl true) fun _ _ _=>False)
  (hCX:∀(w:World) (H:Hp) (s:l5) (e:Value) (s':l5),CX w [] H s (fun _ _ _=>False) e s'->False) :
  PySem.W.WalkO q loose XP YP l.row.toRowW d [] (fun f vs=>b1U f vs):=by
 refine Att.b3v hn hdf fun w s₀ s₁ mg mb fa o pm cd doc a vs ns G Y ho hd hcd hmg hobj hints hlen hg=>?_
 have KX:=hY w _ Y
 obtain⟨fd,hb,hF⟩:=F w mg fa _ KX G.T.g hmg
 exact b9e KX G.T.g G.T.b G.T.builtins G.T.nolimit hg hobj hints (F6 hlen hn2) hr hF hb (fun H hO hS=>hsp w H a ns hlen hO hS) fun H e s'=>hCX w H s₁ e s'
abbrev CX0:CXT:=fun _ _ _ _ _ _=>False
abbrev E0:XK:=fun _ _ _=>False
theorem b8N{X:Cx}:a7t CX0 X E0:=fun _ _ _ _ _ _ _ h=>h.elim
structure Fun(K:Fg)(x qual:Str)(st:Stmt)(f:Addr)(fd:X9):Prop where
 ex:∃(oc:Value) (od:Option Addr) (kV doc pm:Value) (an:Option Addr) (cdv ct:Value) (osl:Array (Option Value)),
  fd=Z6 x qual (a2A st) (a0H st) (l6 st) .none kV doc pm an cdv ct/\K.lookup f=some ⟨oc,od,.func fd,osl⟩/\a4Y K cdv qual=true
 kp:R6 K (.ref f)=true
section
variable {P:C2}{w:World}{K:Fg}{mg:Str->Option Value}{base:Heap}
theorem Fun.ok{x qual:Str}{st:Stmt}{f:Addr}{fd:X9}{N ps:List Str}{k:Nat}{sp:Sp}(F:Fun K x qual st f fd)(S:A3 N ps (l6 st))(len:∀vs H Q E,sp vs H Q E->vs.length=ps.length)
  (hbody:∀(cdv:Value) (A:G8) (outer:List Env) (s:l5) (H:Hp) (vs:List V) (Q:VK) (E:XK),P7 k (A.deeper (b2e qual (l6 st) s.heap.objs.size f cdv))->sp vs H Q E ->
   ∃t,PSs (b3j CX0 P w K mg base N qual (l6 st) f cdv A outer s H E).nox (a0H st) t/\t { nx:=fun _ H'=>Q .non H',rt:=Q } (a6d N vs) H):K0 P w K mg base CX0 (k+1) f fd ps sp:=by
 obtain⟨oc,od,kV,doc,pm,an,cdv,ct,osl,rfl,lk,hcd⟩:=F.ex
 refine c6u lk hcd S len fun A outer s H vs Q E hr hsp=>?_
 obtain⟨t,h,q⟩:=hbody cdv A outer s H vs Q E hr hsp
 exact⟨t,h.nox,q⟩
theorem Fun.binds{x qual:Str}{st:Stmt}{f:Addr}{fd:X9}{ps:List Str}(F:Fun K x qual st f fd)
  (h:∀(kV doc pm:Value) (an:Option Addr) (cdv ct:Value) (us:List Value),us.length=ps.length->bindArgs (Z6 x qual (a2A st) (a0H st) (l6 st) .none kV doc pm an cdv ct) ⟨us,[]⟩=pure (ps.zip us)):a3L K fd ps []:=by
 obtain⟨oc,od,kV,doc,pm,an,cdv,ct,osl,rfl,lk,hcd⟩:=F.ex
 exact .all (h kV doc pm an cdv ct)
theorem c4P{x qual:Str}{st:Stmt}{f:Addr}{oc:Value}{od an:Option Addr}{osl:Array (Option Value)}{kV doc pm cdv ct:Value}(l:K.lookup f=some ⟨oc,od,.func (Z6 x qual (a2A st) (a0H st) (l6 st) .none kV doc pm an cdv ct),osl⟩)
  (c:a4Y K cdv qual=true) (k:R6 K (.ref f)=true):Fun K x qual st f (Z6 x qual (a2A st) (a0H st) (l6 st) .none kV doc pm an cdv ct):=⟨⟨oc,od,kV,doc,pm,an,cdv,ct,osl,rfl,l,c⟩,k⟩
end
theorem a9c{A:G8}{k:Nat}(hr:P7 k A):A.units+1<cLine:=Nat.lt_of_le_of_lt (Nat.add_le_add_left (by decide:1<=64) _) hr.units
section
variable {X:Cx}
end
theorem c4J{A B:Prop}(h:B):if false=true then A else B:=by
 rw[if_neg t6]
 exact h
theorem b3c{A B:Prop}(h:A):if true=true then A else B:=by
 rw[if_pos rfl]
 exact h
theorem Y4{c A B:Prop}[Decidable c](h1:c->A)(h2:¬c->B):if c then A else B:=by
 by_cases h:c
 ·rw[if_pos h]
  exact h1 h
 ·rw[if_neg h]
  exact h2 h
def t9(H H':Hp):Prop:=∀b o,H b=some o->H' b=some o
theorem t9.refl(H:Hp):t9 H H:=fun _ _ h=>h
theorem t9.trans{H H1 H2:Hp}(a:t9 H H1)(b:t9 H1 H2):t9 H H2:=fun c o h=>b c o (a c o h)
theorem t9.free{H H':Hp}(e:t9 H H'){l:Addr}(h:H' l=Option.none):H l=Option.none:=by
 cases q:H l with
 | none=>rfl
 | some o=>
  rw[e l o q]at h
  cases h
section
variable {κ:Type}[DecidableEq κ]
theorem c0i{kvs:List (κ×V)}{k:κ}{v:V}(h:a0w kvs k=some v):k∈kvs.map (·.1):=by
 have q:(kvs.any fun kv=>decide (kv.1=k))=true:=by
  rw[a2V,h]
  all_goals rfl
 obtain⟨p,hp,e⟩:=a0l.mp q
 exact A2.mpr ⟨p,hp,of_decide_eq_true e⟩
end
end L2
set_option maxHeartbeats 4000000
namespace L2
open PySem PySem.Spec PyProof.Rows
variable{env:Env}{scope:Scope}{X:Cx}{w:World}{s:l5}{elt iter:Expr}{elts ifs:List Expr}{p pos tp:Pos}{pins:List (Addr×Obj)}{σ:St}{H:Hp}{cl:List (Str×Addr)}{fp:List Addr}{tt:TT}{te:TE}{xs:List V}{us:List Value}{u:Value}{ps:List Str}{sp:Sp}
theorem b1F:∀(names:List (Str×a5d)) (cs:List (Str×Addr)),(∀y∈names,y.2=.free->∃c,env.cells.lookup y.1=some c) ->
  (∀y c,cs.lookup y=some c->env.cells.lookup y=some c) ->
  ∃cl,(forIn names cs (fun(x:Str×a5d) (r:List (Str×Addr))=>(if(x.2 == NameKind.free)=true then (do let c <-cellOf env x.1;pure (ForInStep.yield ((x.1,c)::r)))else pure (ForInStep.yield r):Sem (ForInStep (List (Str×Addr)))))=(pure cl:Sem (List (Str×Addr)))) /\
   (∀y c,cl.lookup y=some c->env.cells.lookup y=some c)/\(∀y,(y,NameKind.free)∈names\/(cs.lookup y).isSome=true->(cl.lookup y).isSome=true)
 | [],cs,_,h=>⟨cs,rfl,h,fun y q=>q.elim (fun z=>absurd z (by simp)) id⟩
 | (n,k)::r,cs,hc,h=>by
  by_cases e:(k == NameKind.free)=true
  ·have ek:k=.free:=by simpa using e
   obtain⟨c,hcc⟩:=hc (n,k) D8 ek
   have h':∀y d,((n,c)::cs).lookup y=some d->env.cells.lookup y=some d:=by
    intro y d q
    rw[F1]at q
    cases eq:y == n with
    | true=>
     rw[eq]at q
     have e2:y=n:=by simpa using eq
     cases q;rw[e2];exact hcc
    | false=>rw[eq]at q;exact h y d q
   obtain⟨cl,h1,h2,h3⟩:=b1F r ((n,c)::cs) (fun y hy=>hc y (A9 _ hy)) h'
   refine⟨cl,?_,h2,fun y q=>h3 y ?_⟩
   ·rw[c5n]
    show((if(k == NameKind.free)=true then (do let c <-cellOf env n;pure (ForInStep.yield ((n,c)::cs)))else pure (ForInStep.yield cs):Sem (ForInStep (List (Str×Addr)))) >>= _)=_
    rw[if_pos e]
    have ec:cellOf env n=pure c:=by unfold cellOf;rw[hcc]
    rw[ec]
    exact h1
   ·rcases q with q | q
    ·rcases d5.mp q with q | q
     ·cases q
      right
      simp[F1]
     ·exact .inl q
    ·right
     rw[F1]
     cases y == n
     ·exact q
     ·rfl
  ·obtain⟨cl,h1,h2,h3⟩:=b1F r cs (fun y hy=>hc y (A9 _ hy)) h
   refine⟨cl,?_,h2,fun y q=>h3 y ?_⟩
   ·rw[c5n]
    show((if(k == NameKind.free)=true then (do let c <-cellOf env n;pure (ForInStep.yield ((n,c)::cs)))else pure (ForInStep.yield cs):Sem (ForInStep (List (Str×Addr)))) >>= _)=_
    rw[if_neg e]
    exact h1
   ·rcases q with q | q
    ·rcases d5.mp q with q | q
     ·cases q
      exact absurd rfl e
     ·exact .inl q
    ·exact .inr q
theorem a5M(hc:∀y∈scope.names,y.2=.free->∃c,env.cells.lookup y.1=some c) :
  ∃cl,closureFor scope env=pure cl/\(∀y c,cl.lookup y=some c->env.cells.lookup y=some c)/\∀y,(y,NameKind.free)∈scope.names->(cl.lookup y).isSome=true:=by
 obtain⟨cl,h1,h2,h3⟩:=b1F scope.names [] hc (fun y c q=>by cases q)
 refine⟨cl,?_,h2,fun y q=>h3 y (.inl q)⟩
 unfold closureFor
 first
  | exact h1
  | (show(forIn scope.names [] _ >>= fun r=>pure r)=_;rw[h1];rfl)
theorem M5{env:Env}:∀ {names:List (Str×a5d)} {y:Str} {k:a5d},
  (names.map fun(n,k)=>if(k == NameKind.free&&env.scope.kind == .function&&env.kindOf n == some .cell)then (n,NameKind.cell)else (n,k)).lookup y=some k ->
  names.lookup y=some k\/(names.lookup y=some .free/\k=.cell)
 | [],_,_,h=>by cases h
 | (n,k0)::r,y,k,h=>by
  have ih := @M5 env r y k
  rw[E8]at h
  rw[F1]
  cases hx:y == n with
  | true=>
   by_cases hc:(k0 == NameKind.free&&env.scope.kind == .function&&env.kindOf n == some .cell)=true
   ·have e2:k0=.free:=by simp at hc;exact hc.1.1
    dsimp only at h
    rw[if_pos hc,F1,hx]at h
    cases h
    exact .inr ⟨by rw[e2],rfl⟩
   ·dsimp only at h
    rw[if_neg hc,F1,hx]at h
    exact .inl h
  | false=>
   by_cases hc:(k0 == NameKind.free&&env.scope.kind == .function&&env.kindOf n == some .cell)=true
   ·dsimp only at h
    rw[if_pos hc,F1,hx]at h
    exact ih h
   ·dsimp only at h
    rw[if_neg hc,F1,hx]at h
    exact ih h
def hid(x:Str)(N:List Str):List Str:=N.map fun y=>if y=x then ("." : Str)++x else y
def S9(X:Cx)(scope:Scope)(cl:List (Str×Addr))(C:Addr)(x:Str)(fp:List Addr)(s3:l5)(H3:Hp):Cx:=
 { X with N:=x::hid x X.N,s₀:=s3,H₀:=H3,env:=b7c scope cl C X.env,outer:=X.stack,stack:=X.stack,ex:=fp,fn:=fun _=>false,pn:=[],xe:=fun _ _=>False }
structure N9(N:List Str)(osc sc:Scope)(x:Str):Prop where
 kind:sc.kind=.function
 cell:∀y∈sc.names,y.2≠.cell
 names:∀y∈sc.names,y.2=.local->sc.names.lookup y.1=some .local
 own:sc.names.lookup x=some .local
 fr:∀y∈sc.names,y.2=.free->osc.names.lookup y.1=some .cell\/osc.names.lookup y.1=some .free
 see:∀y∈hid x N,sc.names.lookup y≠some .local
 dot:sc.names.lookup (("." : Str)++x)=none
 nd:(x::hid x N).Nodup
def V5(wi:TI)(tt:TT)(te:TE):TE:=fun σ H Q=>wi σ H fun J H1=>∀D,H1 D=none->∃W:Nat->Nat->List V->Hp->Prop,
 (∃m,W 0 m [] (upd H1 D (.lst [])))/\∀i m ys H2,W i m ys H2->H2 D=some (.lst ys) /\
  ((J.stop i H2 /\ Q (.ref D) H2) \/ (J.go i H2 /\ ∀ x H3,J.yld i H2 x H3 -> tt (some x :: σ) H3 fun ok H4 => if ok = true then
    te (some x::σ) H4 (fun y H5=>H5 D=some (.lst ys)/\ys.length<q9/\∃m',m'<m/\W (i+1) m' (ys++[y]) (upd H5 D (.lst (ys++[y]))))
    else ∃m',m'<m/\W (i+1) m' ys H4))
def PTs(X:Cx)(ifs:List Expr)(t:TT):Prop:=
 ∀(pins:List (Addr×Obj)) (s:l5) (σ:St) (H:Hp) (Q:Bool->Hp->Prop),Inv X pins σ H s->t σ H Q ->
  wpAny (model X.prog X.w) X.A (forIn ifs true fun c r=>if r=true then do let ok <-isTrue c X.env (eval c X.env);pure (ForInStep.yield ok)else pure (ForInStep.yield r)) (TP X pins σ Q) X.xe s
def T5:TT:=fun _ H Q=>Q true H
theorem c0G:PTs X [] T5:=fun _ _ _ H _ I h=>wpAny_tests_nil ⟨H,I,h⟩
theorem c0F{c:Expr}{t:TT}(h:PT X c t):PTs X [c] t:=fun pins s σ H Q I hq=>wpAny_tests_one (h pins s σ H Q I hq)
theorem b0n{prog:C2}{A:G8}{R:b7m->l5->Prop}{target:Expr}{it acc:Value}(I:Nat->l5->Prop)
  (turn:∀n s,I n s->wpAny (model prog w) A (c5w it) (fun r s₁=>match r with
   | none=>R (.ok .next) s₁
   | some v=>wpAny (model prog w) A (a3T target it v) (fun _ s₂=>wpAny (model prog w) A (a9Q target env v) (fun _ s₃=>
     wpAny (model prog w) A (forIn ifs true fun c r=>if r=true then do let ok <-isTrue c env (eval c env);pure (ForInStep.yield ok)else pure (ForInStep.yield r)) (fun ok s₄=>
      if ok=true then wpAny (model prog w) A (eval elt env) (fun x s₅=>
       wpAny (model prog w) A (call (.builtin "list.append") [acc,x]) (fun _ s₆=>∃m,m<n/\I m s₆) (fun _ _=>False) s₅) (fun _ _=>False) s₄
      else ∃m,m<n/\I m s₄) (fun _ _=>False) s₃) (fun _ _=>False) s₂) (fun _ _=>False) s₁) (fun _ _=>False) s)
  (n:Nat) (h:I n s) :
  a3V (model prog w) A (.compLoop (.ListComp elt [⟨target,iter,ifs,0⟩] scope pos) 0 it acc env) R s:=by
 have up:∀ {α:Type} {m:Sem α} {Q:α->l5->Prop} {E:Value->l5->Prop} {s:l5},wpAny (model prog w) A m Q (fun _ _=>False) s->wpAny (model prog w) A m Q E s:=
  fun h=>a0K h (fun _ _ q=>q) fun _ _ f=>f.elim
 refine codeAny_loop rfl I (fun n s hI=>?_) n h
 refine wpAny_noted ?_
 rw[compTurn_list]
 refine d4 (c2J (d4 (up (thn (turn n s hI) fun r s₁ h₁=>?_))))
 cases r with
 | none=>exact u0 h₁
 | some v=>
  refine d4 (up (thn h₁ fun _ s₂ h₂=>d4 (up (thn h₂ fun _ s₃ h₃=>d4 (up (thn h₃ fun ok s₄ h₄=>?_))))))
  cases ok with
  | false=>exact u0 ⟨rfl,by simpa using h₄⟩
  | true=>
   rw[if_pos rfl]at h₄
   exact d4 (d4 (up (thn h₄ fun x s₅ h₅=>d4 (up (thn h₅ fun _ s₆ h₆=>u0 (u0 ⟨rfl,h₆⟩))))))
section
variable {x:Str}{px:Pos}
theorem b9v{s3:l5}{h4:Heap}{tk:Nat}(hc:N9 X.N X.env.scope scope x)(I:Inv X pins σ H s3)
  (hcl:∀y c,cl.lookup y=some c->X.env.cells.lookup y=some c) (hcl2:∀y,(y,NameKind.free)∈scope.names->(cl.lookup y).isSome=true)
  (fpo:∀b∈fp,a4V X pins H b) (fpl:∀b∈fp,b<s3.heap.objs.size)
  (hn:h4.Ns s3.heap.objs.size (fun _=>none)) (k:∀b o,s3.heap.get? b=some o->h4.get? b=some o) :
  Inv (S9 X scope cl s3.heap.objs.size x fp s3 H) [] (none::σ) H { s3 with heap:=h4,toks:=tk }:=by
 have low:∀x y,(S9 X scope cl s3.heap.objs.size x fp s3 H).env.cells.lookup y=cl.lookup y:=fun _ _=>rfl
 have below:∀y c,cl.lookup y=some c->c<s3.heap.objs.size:=fun y c e=>by
  obtain⟨v,q⟩:=I.cell y c (hcl y c e)
  exact q.lt
 have kinds:∀y,((S9 X scope cl s3.heap.objs.size x fp s3 H).env.kindOf y=some .cell\/(S9 X scope cl s3.heap.objs.size x fp s3 H).env.kindOf y=some .free)->scope.names.lookup y=some .free:=by
  intro y hy
  rcases hy with hy | hy
  ·rcases M5 hy with q | ⟨q,_⟩
   ·exact absurd rfl (hc.cell _ (C4 q))
   ·exact q
  ·rcases M5 hy with q | ⟨q,z⟩
   ·exact q
   ·cases z
 refine⟨⟨I.ok.mod,?_,I.ok.glob,I.ok.blt,g9 _,fun y z c h1 h2=>?_,fun y hy=>?_,fun y c h=>?_,I.ok.hd,I.ok.frames,.inl rfl,fun b hb=>⟨?_,fun y c e z=>?_⟩,fun b o e=>I.bs b o e,F6 I.ok.bsz I.sz,fun b o e hb=>?_,fun b hb hf=>?_,I.stack,I.stkFree⟩,
  rfl,I.bare,Un.kept k,⟨_,hn,fun i y v h1 h2 h3=>?_⟩,fun y c e=>?_,I.fresh,fun y c e=>?_,fun p hp=>absurd (show p∈([]:List (Addr×Obj))from hp) (by simp),I.hok.kept k,?_⟩
 ·exact hc.kind
 ·exact I.ok.inj y z c (hcl _ _ h1) (hcl _ _ h2)
 ·have:=hcl2 y (C4 (kinds y hy))
  exact U8.mp this
 ·cases h
 ·exact u7 (fpl b hb)
 ·exact(fpo b hb).2.2.2.2.1 y c (hcl y c e) z
 ·rcases(fpo b hb).2.2.2.1 with q | q
  ·exact I.ok.noex b o e q
  ·exact absurd (A8 (l3 (I.ok.bs b o e).1) q) (G0 _)
 ·rcases d5.mp (I.stkSub b hf)with e | e
  ·exact(fpo b hb).2.1 e
  ·exact(fpo b hb).2.2.1 e
 ·-- the names
  have h1:(x::hid x X.N)[i]? = some y:=h1
  cases i with
  | zero=>cases h2
  | succ i=>
   have h1:(hid x X.N)[i]? = some y:=h1
   have h2:σ[i]? = some (some v):=h2
   have my:y∈hid x X.N:=V1 h1
   have h3:(a6J scope X.env).names.lookup y=some .local\/(a6J scope X.env).names.lookup y=some .cell\/(a6J scope X.env).names.lookup y=some .free:=h3
   have hf:scope.names.lookup y=some .free:=by
    rcases h3 with q | q
    ·rcases M5 q with q | ⟨_,z⟩
     ·exact absurd q (hc.see y my)
     ·cases z
    ·exact kinds y q
   have hy:X.N[i]? = some y:=by
    unfold hid at h1
    rw[c9]at h1
    cases e:X.N[i]? with
    | none=>rw[e]at h1;cases h1
    | some z=>
     rw[e]at h1
     by_cases ez:z=x
     ·rw[a4B,if_pos ez]at h1
      have h1:=Option.some.inj h1
      subst h1
      rw[hc.dot]at hf
      cases hf
     ·rw[a4B,if_neg ez]at h1
      exact h1
   obtain⟨m,_,hl⟩:=I.loc
   obtain⟨c,hcc⟩:=U8.mp (hcl2 y (C4 hf))
   have vis:Vis X.env.scope y:=by
    rcases hc.fr _ (C4 hf) rfl with q | q
    ·exact .inr (.inl q)
    ·exact .inr (.inr q)
   obtain⟨u,ru,lk⟩:=hl i y v hy h2 vis
   refine⟨u,ru,.inr ⟨?_,c,hcc,?_⟩⟩
   ·rcases h3 with q | q
    ·rcases M5 q with q | ⟨_,z⟩
     ·exact absurd q (hc.see y my)
     ·cases z
    ·exact q
   ·have hce:=hcl y c hcc
    rcases lk with ⟨q,_⟩ | ⟨_,c',e',z⟩
    ·rcases hc.fr _ (C4 hf) rfl with q' | q'
     ·have q:X.env.scope.names.lookup y=some .local:=q
      rw[show X.env.scope.names.lookup y=some NameKind.cell from q']at q
      cases q
     ·have q:X.env.scope.names.lookup y=some .local:=q
      rw[show X.env.scope.names.lookup y=some NameKind.free from q']at q
      cases q
    ·rw[e']at hce
     cases hce
     obtain⟨o,ho,hd⟩:=z
     exact⟨o,k _ _ ho,hd⟩
 ·obtain⟨v,o,ho,hd⟩:=I.cell y c (hcl y c e)
  exact⟨v,o,k _ _ ho,hd⟩
 ·exact I.freeC y c (hcl y c e)
 ·show(none::σ).length=(x::hid x X.N).length
  have:=I.len
  simp[hid,this]
theorem a9h{H1:Hp}{s2:l5}{it:Addr}{tn:Nat->Heap->Prop}{J:It}{Q:VK}{E:Value->l5->Prop}
  {RR:Value->Addr->b7m->l5->Prop} (hc:N9 X.N X.env.scope scope x) (hcalm:X.calm=true)
  (hcl:∀y c,cl.lookup y=some c->X.env.cells.lookup y=some c) (hcl2:∀y,(y,NameKind.free)∈scope.names->(cl.lookup y).isSome=true)
  (ht:∀C fp s3 H3,PTs (S9 X scope cl C x fp s3 H3) ifs tt) (he:∀C fp s3 H3,PE (S9 X scope cl C x fp s3 H3) elt te)
  (I:Inv X pins σ H1 s2) (T:b3x X.prog X.w X.K (.Name x px) J fp it tn) (st:tn 0 s2.heap) (fpo:∀b∈fp,a4V X pins H1 b)
  (h:∀D,H1 D=none->∃W:Nat->Nat->List V->Hp->Prop,
   (∃m,W 0 m [] (upd H1 D (.lst [])))/\∀i m ys H2,W i m ys H2->H2 D=some (.lst ys) /\
   ((J.stop i H2 /\ Q (.ref D) H2) \/ (J.go i H2 /\ ∀ x H3,J.yld i H2 x H3 -> tt (some x :: σ) H3 fun ok H4 => if ok = true then
     te (some x::σ) H4 (fun y H5=>H5 D=some (.lst ys)/\ys.length<q9/\∃m',m'<m/\W (i+1) m' (ys++[y]) (upd H5 D (.lst (ys++[y]))))
     else ∃m',m'<m/\W (i+1) m' ys H4)))
  (hRR:∀D C s' H' m,Inv X pins σ H' s'->s'.heap.Ns C m->H' C=none->C≠X.env.locals->X.s₀.heap.objs.size<=C->(∀y c,X.env.cells.lookup y=some c->c≠C)->(∀p∈X.pn++pins,p.1≠C)->Q (.ref D) H'->RR (.ref D) C (.ok .next) s') :
  wpAny (model X.prog X.w) X.A (newList []) (fun acc s₃=>wpAny (model X.prog X.w) X.A (newFunctionEnv scope X.env.globals cl [] X.env.qual none .none (some X.env)) (fun cenv s₄=>
   a3V (model X.prog X.w) X.A (.compStart (.ListComp elt [⟨.Name x px,iter,ifs,0⟩] scope pos) 0 (.ref it) acc { cenv with scope:=a6J scope X.env }) (RR acc cenv.locals) s₄) E s₃) E s2:=by
 refine Q0 (hd:=by size_fits) ?_
 have I3:=I.lnew (ys:=[]) (its:=[]) (t':=s2.toks) .nil (by show 0<=q9;exact J7 _)
 obtain⟨W,⟨m0,w0⟩,turn⟩:=h _ I.fresh
 generalize hD:s2.heap.objs.size=D at I3 w0 turn ⊢
 generalize hs3:({ s2 with heap:=s2.heap.push { cls:=.type "list",data:=.seq ([]:List Value).toArray } }:l5)=s3
 have hs3':({ s2 with heap:=s2.heap.push { cls:=.type "list",data:=.seq ([]:List Value).toArray },toks:=s2.toks }:l5)=s3:=hs3
 rw[hs3']at I3
 have keep3:∀b o,s2.heap.get? b=some o->s3.heap.get? b=some o:=fun b o e=>by rw[<-hs3];exact g7 _ e
 have fpl:∀b∈fp,b<s3.heap.objs.size:=fun b hb=>by
  obtain⟨o,e,_⟩:=T.obj _ _ st b hb
  exact l3 (keep3 b o e)
 have fpD:∀b∈fp,b≠D:=fun b hb z=>by
  obtain⟨o,e,_⟩:=T.obj _ _ st b hb
  exact absurd (l3 e) (by rw[z,hD];exact G0 _)
 have fpo3:∀b∈fp,a4V X pins (upd H1 D (.lst [])) b:=fun b hb=>⟨by rw[l7 (fpD b hb)];exact(fpo b hb).1,(fpo b hb).2⟩
 show wpAny _ _ _ _ _ s3
 refine c6G hc.cell (by intro y hy;simp at hy) (fun h₁ hns₁ hsb₁=>?_) hc.kind
 dsimp only[newEnv]at hns₁ hsb₁ ⊢
 have keep4:∀b o,s3.heap.get? b=some o->h₁.get? b=some o:=fun b o e=>hsb₁.extBut b o (u7 (l3 e)) (g7 _ e)
 have I4:=b9v (tk:=s3.toks+([]:List (Str×Value)).length) hc I3 hcl hcl2 fpo3 fpl hns₁ keep4
 have st4:tn 0 h₁:=T.keep _ _ _ st fun b hb o e=>keep4 b o (keep3 b o e)
 have loop:∀s₄:l5,s₄={ s3 with heap:=h₁,toks:=s3.toks+([]:List (Str×Value)).length } ->
   a3V (model X.prog X.w) X.A (.compLoop (.ListComp elt [⟨.Name x px,iter,ifs,0⟩] scope pos) 0 (.ref it) (.ref D) (b7c scope cl s3.heap.objs.size X.env)) (RR (.ref D) s3.heap.objs.size) s₄:=by
  rintro s₄ rfl
  have stat:∀ {H':Hp},(∀b∈fp,H' b=none)->∀b∈fp,a4V (S9 X scope cl s3.heap.objs.size x fp s3 (upd H1 D (.lst []))) [] H' b:=fun hn b hb=>
   ⟨hn b hb,u7 (fpl b hb),fun hf=>by
    rcases d5.mp (I3.stkSub b hf)with e | e
    ·exact(fpo b hb).2.1 e
    ·exact(fpo b hb).2.2.1 e,.inl hb,fun y c e=>(fpo b hb).2.2.2.2.1 y c (hcl y c e),fun p hp=>absurd (show p∈([]:List (Addr×Obj))from hp) (by simp)⟩
  refine b0n (env:=b7c scope cl s3.heap.objs.size X.env) (fun n s'=>∃i ys H',Inv (S9 X scope cl s3.heap.objs.size x fp s3 (upd H1 D (.lst []))) [] (none::σ) H' s'/\tn i s'.heap/\(∀b∈fp,H' b=none)/\W i n ys H') ?_ m0
   ⟨0,[],_,I4,st4,fun b hb=>(fpo3 b hb).1,w0⟩
  rintro n s5 ⟨i,ys,H5,I5,st5,fr5,w5⟩
  obtain⟨hDy,alt⟩:=turn i n ys H5 w5
  rcases alt with ⟨stop,q⟩ | ⟨go,step⟩
  ·refine a0K (T.done (S9 X scope cl s3.heap.objs.size x fp s3 (upd H1 D (.lst []))) rfl rfl rfl hcalm i [] s5 _ H5 (fun _ _=>False) I5 (stat fr5) st5 stop) (fun r s6 ⟨hr,I6⟩=>?_) fun _ _ f=>f
   subst hr
   obtain⟨m6,n6,_⟩:=I6.loc
   have J6:Inv X pins σ H5 s6:=by
    refine I3.call' (ch:=fp) I6.os I6.base I6.hok I6.bare fun b hb=>?_
    obtain⟨_,f1,f2,f3,f4,f5⟩:=fpo3 b hb
    exact⟨f3,f1,f4,f5⟩
   refine hRR D _ s6 H5 m6 J6 n6 I6.free (a4Z I3.lt) I3.sz (fun y c e z=>?_) (fun p hp z=>?_) q
   ·obtain⟨v,q⟩:=I3.cell y c e
    exact absurd q.lt (by rw[z];exact G0 _)
   ·exact absurd (l3 (I3.pin p hp).1) (by rw[z];exact G0 _)
  ·refine a0K (T.item (S9 X scope cl s3.heap.objs.size x fp s3 (upd H1 D (.lst []))) rfl rfl rfl hcalm i [] s5 _ H5 (fun _ _=>False) I5 (stat fr5) st5 go) (fun r s6 ⟨u,hr,h6⟩=>?_) fun _ _ f=>f
   subst hr
   refine thn h6 fun _ s6 ⟨xv,H6,I6,r6,y6,st6,fr6⟩=>?_
   have I6':=I6.pinned (stat fr6) (T.obj _ _ st6)
   refine b3M (a6c (i:=0) I6' ?nd rfl (.inl ?loc) r6 (fun s7 I7=>?_) (.inr ?loc))
   case nd=>exact hc.nd
   case loc=>exact a0P hc.own
   have I7:Inv (S9 X scope cl s3.heap.objs.size x fp s3 (upd H1 D (.lst []))) ([]++a5A fp s6.heap) (some xv::σ) H6 s7:=I7
   have again:∀ {s8:l5} {H8:Hp} {ys8:List V},Inv (S9 X scope cl s3.heap.objs.size x fp s3 (upd H1 D (.lst []))) ([]++a5A fp s6.heap) (some xv::σ) H8 s8->(∃m',m'<n/\W (i+1) m' ys8 H8) ->
     ∃m,m<n/\∃i ys H',Inv (S9 X scope cl s3.heap.objs.size x fp s3 (upd H1 D (.lst []))) [] (none::σ) H' s8/\tn i s8.heap/\(∀b∈fp,H' b=none)/\W i m ys H':=by
    rintro s8 H8 ys8 I8 ⟨m',hm,w8⟩
    refine⟨m',hm,i+1,ys8,H8,(I8.unpinned (pins:=[])).weak rfl (fun j v e=>?_),T.keep _ _ _ st6 fun b hb o e=>(I8.pin (b,o) (z7 _ (z7 _ (a0W hb e)))).1,fun b hb=>?_,w8⟩
    ·cases j with
     | zero=>cases e
     | succ j=>exact e
    ·obtain⟨o,e,d⟩:=T.obj _ _ st6 b hb
     exact(I8.pin (b,o) (z7 _ (z7 _ (a0W hb e)))).2.1
   refine thn (ht _ fp s3 _ _ s7 _ H6 _ I7 (step xv H6 y6)) (fun ok s8 ⟨H8,I8,q8⟩=>?_)
   cases ok with
   | false=>exact again I8 (by simpa using q8)
   | true=>
    rw[if_pos rfl]at q8
    rw[if_pos rfl]
    refine thn (he _ fp s3 _ _ s8 _ H8 _ I8 q8) (fun v s9 ⟨y,H9,I9,r9,hD9,hz9,w9⟩=>?_)
    refine a0K (a7j (X:=S9 X scope cl s3.heap.objs.size x fp s3 (upd H1 D (.lst []))) _ s9 _ H9 (.ref D) [y] (.ref D) [v] (fun _ H'=>H'=upd H9 D (.lst (ys++[y]))) I9 rfl (.cons r9 .nil) ⟨D,ys,y,rfl,rfl,hD9,hz9,rfl⟩) (fun _ s10 ⟨_,H10,I10,_,e10⟩=>?_) fun _ _ f=>f
    subst e10
    exact again I10 w9
 exact c5r (loop _ rfl) (T.self X.A 0 _ _ _ st4 (loop _ rfl))
theorem a9g(hc:N9 X.N X.env.scope scope x)(I:Inv X pins σ H s):∀y∈scope.names,y.2=.free->∃c,X.env.cells.lookup y.1=some c:=by
 intro y hy e
 rcases hc.fr y hy e with q | q
 ·exact I.ok.has y.1 (.inl q)
 ·exact I.ok.has y.1 (.inr q)
theorem c0Y{wi:TI}(hc:N9 X.N X.env.scope scope x)(hcalm:X.calm=true)(hi:PI X (.Name x px) iter wi)
  (ht:∀cl C fp s3 H3,PTs (S9 X scope cl C x fp s3 H3) ifs tt) (he:∀cl C fp s3 H3,PE (S9 X scope cl C x fp s3 H3) elt te)
  (hs:∀x,U6 iter X.env x=pure x:=by intro _;rfl) :
  PE X (.ListComp elt [⟨.Name x px,iter,ifs,0⟩] scope pos) (V5 wi tt te):=by
 intro pins s σ H Q I h
 obtain⟨cl,hclos,hcl,hcl2⟩:=a5M (a9g hc I)
 rw[eval_ListComp]
 refine a5T (use:=none) rfl hs hclos hc.kind hc.names (thn (hi pins s σ H _ I h) fun v s1 h1=>thn h1 fun itv s2 ⟨it,fp,tn,J,H2,e,I2,T,st,fpo,R⟩=>?_)
 subst e
 refine a9h (RR:=fun acc C=>compPost (model X.prog X.w) X.A X.xe none (EP X pins σ Q) acc C) (Q:=Q) hc hcalm hcl hcl2 (ht cl) (he cl) I2 T st fpo R ?_
 intro D C s' H' m I' n f1 f2 f3 f4 f5 q
 exact⟨m,n,fun h' sb=>⟨.ref D,H',I'.turned (t':=s'.toks) (fun b o hb e=>(sb.2 b hb).trans e) f1 f2 (.inr f3) f4 f5,rfl,q⟩⟩
theorem b4r{wi:TI}{i:Nat}{y:Str}{py spos:Pos}(hN:X.N.Nodup)(hiy:X.N[i]? = some y)(hy:X.env.scope.names.lookup y=some .local)(hc:N9 X.N X.env.scope scope x)(hcalm:X.calm=true)(hi:PI X (.Name x px) iter wi)
  (ht:∀cl C fp s3 H3,PTs (S9 X scope cl C x fp s3 H3) ifs tt) (he:∀cl C fp s3 H3,PE (S9 X scope cl C x fp s3 H3) elt te)
  (hsw:a1S (.ListComp elt [⟨.Name x px,iter,ifs,0⟩] scope pos) (some (.Name y py)) spos.line X.env=pure true:=by rfl)
  (hs:∀x,U6 iter X.env x=pure x:=by intro _;rfl) :
  PS X (.Assign [.Name y py] (.ListComp elt [⟨.Name x px,iter,ifs,0⟩] scope pos) spos) (fun D σ H=>V5 wi tt te σ H fun v H1=>D.nx (σ.set i (some v)) H1):=by
 intro pins s σ H D I h
 obtain⟨cl,hclos,hcl,hcl2⟩:=a5M (a9g hc I)
 rw[exec_Assign_Name_used _ _ _ _ hsw]
 refine d4 (c2J (d4 ?_))
 show wpAny _ X.A (do let _ <-comprehension (.ListComp elt [⟨.Name x px,iter,ifs,0⟩] scope pos) scope X.env _ (newList []) false (eval iter X.env) (some (a9Q (.Name y py) X.env))) _ _ s
 refine d4 (a0K (a5T (use:=some (a9Q (.Name y py) X.env)) (Q:=fun _ s'=>SP X pins D .next s') rfl hs hclos hc.kind hc.names
  (thn (hi pins s σ H _ I h) fun v s1 h1=>thn h1 fun itv s2 ⟨it,fp,tn,J,H2,e,I2,T,st,fpo,R⟩=>?_)) (fun _ s' hq=>u0 (u0 hq)) fun _ _ e=>e)
 subst e
 refine a9h (RR:=fun acc C=>compPost (model X.prog X.w) X.A X.xe (some (a9Q (.Name y py) X.env)) (fun _ s'=>SP X pins D .next s') acc C) (Q:=fun v H1=>D.nx (σ.set i (some v)) H1) hc hcalm hcl hcl2 (ht cl) (he cl) I2 T st fpo R ?_
 intro E C s' H' m I' n f1 f2 f3 f4 f5 q
 show wpAny _ _ (a9Q (.Name y py) X.env (.ref E)) _ _ _
 refine b3M (b0d (v:=.ref E) I' hN hiy (.inl hy) rfl (fun s'' I'' ch=>?_) (.inr hy))
 obtain⟨a,sb,ha⟩:=ch
 have hCa:C≠a:=by
  rcases ha with e | e
  ·rw[e];exact f2
  ·exact fun z=>f4 y a e z.symm
 exact⟨m,n.sameBut sb hCa,fun h' sb'=>⟨_,_,I''.turned (t':=s''.toks) (fun b o hb e=>(sb'.2 b hb).trans e) f1 f2 (.inr f3) f4 f5,q⟩⟩
end
section
theorem OpR.imp{f:Value->Value->Sem Value}{r r':R2}(h:OpR X f r)(i:∀x y H Q,r' x y H Q->r x y H Q):OpR X f r':=fun pins s σ H x y u v Q I rx ry q=>h pins s σ H x y u v Q I rx ry (i _ _ _ _ q)
theorem W0.imp{f:Value}{r r':List V->Hp->VK->Prop}(h:W0 X f r)(i:∀xs H Q,r' xs H Q->r xs H Q):W0 X f r':=fun pins s σ H xs us Q I rx q=>h pins s σ H xs us Q I rx (i _ _ _ q)
theorem IxR.imp{r r':R2}(h:IxR X r)(i:∀x y H Q,r' x y H Q->r x y H Q):IxR X r':=by
 intro value slice pins s σ H x y v u Q I rx ry q hs
 exact h value slice pins s σ H x y v u Q I rx ry (i _ _ _ _ q) hs
theorem SlR.imp{r r':V->Option Int->Option Int->Hp->VK->Prop}(h:SlR X r)(i:∀x lo hi H Q,r' x lo hi H Q->r x lo hi H Q):SlR X r':=fun pins s σ H x v vl vu lo hi sl Q I rx hs pl pu q=>h pins s σ H x v vl vu lo hi sl Q I rx hs pl pu (i _ _ _ _ _ q)
def a3b:R2:=fun x y H Q=>match x,y with
 | .int i,.int j=>Q (.int (i+j)) H
 | .str i,.str j=>i.length+j.length<=q9/\Q (.str (i++j)) H
 | .ref a,.ref b=>match H a,H b with
  | some (.lst xs),some (.lst ys)=>xs.length+ys.length<=q9/\∀p,H p=none->Q (.ref p) (upd H p (.lst (xs++ys)))
  | _,_=>False
 | _,_=>False
theorem c1n:OpR X (X8 .Add) a3b:=by
 refine(c4m.or (b4z.or c4l)).imp fun x y H Q h=>?_
 unfold a3b at h
 split at h
 ·exact .inl ⟨_,_,rfl,rfl,h⟩
 ·exact .inr (.inl ⟨_,_,rfl,rfl,h.1,h.2⟩)
 ·split at h
  ·exact .inr (.inr ⟨_,_,_,_,rfl,rfl,by assumption,by assumption,h.1,h.2⟩)
  ·exact h.elim
 ·exact h.elim
def q2I(C:Int->Int->Prop)(g:Int->Int->V):R2:=fun x y H Q=>match x,y with
 | .int i,.int j=>C i j/\Q (g i j) H
 | _,_=>False
def b2L(g:Int->Int->V):R2:=fun x y H Q=>match x,y with
 | .int i,.int j=>Q (g i j) H
 | _,_=>False
theorem b4q{f:Value->Value->Sem Value}{C:Int->Int->Prop}{g:Int->Int->V}(h:OpR X f (rI C g)):OpR X f (q2I C g):=h.imp fun x y H Q q=>by
 unfold q2I at q
 split at q
 ·exact⟨_,_,rfl,rfl,q.1,q.2⟩
 ·exact q.elim
theorem a6l{f:Value->Value->Sem Value}{g:Int->Int->V}(h:OpR X f (rI0 g)):OpR X f (b2L g):=h.imp fun x y H Q q=>by
 unfold b2L at q
 split at q
 ·exact⟨_,_,rfl,rfl,q⟩
 ·exact q.elim
abbrev b6e:R2:=b2L fun i j=>.int (i - j)
abbrev b2K:R2:=q2I b9P fun i j=>.int (i * j)
abbrev a6Z:R2:=q2I (fun _ j=>0<j) fun i j=>.int (i % j)
abbrev c0C:R2:=q2I (fun _ j=>0<j/\j<2 ^ 64) fun i j=>.int (i / j)
abbrev qLt:R2:=b2L fun i j=>.bl (decide (i<j))
abbrev qLe:R2:=b2L fun i j=>.bl (decide (i<=j))
abbrev qGt:R2:=b2L fun i j=>.bl (decide (j<i))
abbrev qGe:R2:=b2L fun i j=>.bl (decide (j<=i))
theorem c1d:OpR X (X8 .Sub) b6e:=a6l c4b
theorem c1f:OpR X (X8 .Mult) b2K:=b4q c4j
theorem c1g:OpR X (X8 .Mod) a6Z:=b4q c4k
theorem c1m:OpR X (X8 .FloorDiv) c0C:=b4q (opI fun i j _ _ _ _ _ hc q=>by
 have hl:j.natAbs.log2<9000:=by
  have:j.natAbs<2 ^ 64:=by have:=hc.1;have:=hc.2;omega
  by_cases h0:j.natAbs=0
  ·rw[h0];decide +kernel
  ·exact Nat.lt_trans ((Nat.log2_lt h0).mpr this) (by decide)
 refine floordiv_int (by omega) ?_ (.inl (PyProof.noPylong_of_log2 hl))
 rw[Int.fdiv_eq_ediv_of_nonneg _ (by omega)]
 exact q)
theorem c4d:OpR X (u6 .Lt) qLt:=a6l c6l
theorem c4e:OpR X (u6 .LtE) qLe:=a6l c6m
theorem c4g:OpR X (u6 .Gt) qGt:=a6l c6n
theorem c4h:OpR X (u6 .GtE) qGe:=a6l c6o
def qIx:R2:=fun x y H Q=>match x,y with
 | .ref p,.int i=>match H p with
  | some (.lst xs)=>∃v,atI xs i=some v/\Q v H
  | some (.tup xs)=>∃v,atI xs i=some v/\Q v H
  | _=>False
 | .str z,.int i=>z.length<=q9/\∃c,atI z.cps.toList i=some c/\Q (.str ⟨#[c]⟩) H
 | _,_=>False
theorem c6V:IxR X qIx:=c4I.imp fun x y H Q h=>by
 unfold qIx at h
 split at h
 ·split at h
  ·obtain⟨v,e,q⟩:=h
   exact .inl ⟨_,_,_,v,rfl,rfl,SqL.of (by assumption),e,q⟩
  ·obtain⟨v,e,q⟩:=h
   exact .inr (.inl ⟨_,_,_,v,rfl,rfl,SqT.of (by assumption),e,q⟩)
  ·exact h.elim
 ·obtain⟨z,c,e,q⟩:=h
  exact .inr (.inr ⟨_,_,c,rfl,rfl,z,e,q⟩)
 ·exact h.elim
def qSl:V->Option Int->Option Int->Hp->VK->Prop:=fun x lo hi H Q=>match x with
 | .ref a=>match H a with
  | some (.lst xs)=>∀p,H p=none->Q (.ref p) (upd H p (.lst (a5L xs lo hi)))
  | some (.tup xs)=>¬(HT.sIx xs.length 0 lo=0/\HT.sIx xs.length xs.length hi=xs.length)/\∀p,H p=none->Q (.ref p) (upd H p (.tup (a5L xs lo hi)))
  | _=>False
 | _=>False
theorem c6L:SlR X qSl:=(b5m.or c2P).imp fun x lo hi H Q h=>by
 unfold qSl at h
 split at h
 ·split at h
  ·exact .inl ⟨_,_,rfl,SqL.of (by assumption),h⟩
  ·exact .inr ⟨_,_,rfl,SqT.of (by assumption),h.1,h.2⟩
  ·exact h.elim
 ·exact h.elim
def S8:List V->Hp->VK->Prop:=fun xs H Q=>match xs with
 | [.ref p]=>match H p with
  | some (.lst ys)=>Q (.int ys.length) H
  | some (.tup ys)=>Q (.int ys.length) H
  | _=>False
 | [.str z]=>z.length<=q9/\Q (.int z.length) H
 | _=>False
theorem b6R:W0 X (.builtin "len") S8:=(b1K.or b1J).imp fun xs H Q h=>by
 unfold S8 at h
 split at h
 ·split at h
  ·exact .inl ⟨_,_,rfl,.inl (SqL.of (by assumption)),h⟩
  ·exact .inl ⟨_,_,rfl,.inr (SqT.of (by assumption)),h⟩
  ·exact h.elim
 ·exact .inr ⟨_,rfl,h.1,h.2⟩
 ·exact h.elim
def b8v:List V->Hp->VK->Prop:=fun xs H Q=>match xs with
 | [.int i]=>Q (.int (if i<0 then -i else i)) H
 | _=>False
theorem b6V:W0 X (.builtin "abs") b8v:=b9A.imp fun xs H Q h=>by
 unfold b8v at h
 split at h
 ·exact⟨_,rfl,h⟩
 ·exact h.elim
def b1a:V->V->V->Hp->(Hp->Prop)->Prop:=fun o i v H Q=>match o,i with
 | .ref p,.int k=>match H p with
  | some (.lst xs)=>∃j,ixN xs.length k=some j/\Q (upd H p (.lst (xs.set j v)))
  | _=>False
 | _,_=>False
theorem c5C:b9H X b1a:=by
 intro pins s σ H o i v u1 u2 u3 Q I r1 r2 r3 h
 refine b7R pins s σ H o i v u1 u2 u3 Q I r1 r2 r3 ?_
 unfold b1a at h
 split at h
 ·split at h
  ·obtain⟨j,e,q⟩:=h
   exact⟨_,_,_,j,rfl,rfl,by assumption,e,q⟩
  ·exact h.elim
 ·exact h.elim
def a0Y(xs ys:List V):Bool:=(E7 (min xs.length ys.length)).all (fun j=>eqV (xs.getD j .non) (ys.getD j .non))&&xs.length == ys.length
def eqO(x y:V)(H:Hp):Option Bool:=if b2A x y=true then some (decide (x=y))else match x,y with
 | .ref a,.ref b=>match H a,H b with
  | some (.tup xs),some (.tup ys)=>if xs.all K7=true/\ys.all K7=true then some (a0Y xs ys)else none
  | some (.lst xs),some (.lst ys)=>if xs.all K7=true/\ys.all K7=true then some (a0Y xs ys)else none
  | _,_=>none
 | .non,.ref a=>match H a with
  | some (.tup _)=>some false
  | _=>none
 | .ref a,.non=>match H a with
  | some (.tup _)=>some false
  | _=>none
 | _,_=>none
def qEq:R2:=fun x y H Q=>∃b,eqO x y H=some b/\Q (.bl b) H
def qNe:R2:=fun x y H Q=>∃b,eqO x y H=some b/\Q (.bl (!b)) H
theorem a6w{A:G8}{ys:List V}{ws:List Value}(rx:E4 xs us)(ry:E4 ys ws)(fx:xs.all K7=true)(fy:ys.all K7=true) :
  ∀j (h1:j<us.toArray.size) (h2:j<ws.toArray.size),SeqAt.EqAt A s us.toArray[j] ws.toArray[j] (eqV (xs.getD j .non) (ys.getD j .non)):=by
 intro j h1 h2
 have l1:=rx.length
 have l2:=ry.length
 have h1':j<us.length:=by simpa using h1
 have h2':j<ws.length:=by simpa using h2
 have e1:xs[j]? = some (xs[j]'(by omega)):=by simp
 have e2:ys[j]? = some (ys[j]'(by omega)):=by simp
 obtain⟨u,hu,ru⟩:=rx.get e1
 obtain⟨w,hw,rw'⟩:=ry.get e2
 have z1:us.toArray[j]=u:=by
  have:us[j]? = some us[j]:=by simp
  rw[this]at hu
  simpa using hu
 have z2:ws.toArray[j]=w:=by
  have:ws[j]? = some ws[j]:=by simp
  rw[this]at hw
  simpa using hw
 rw[z1,z2]
 have g1:xs.getD j .non=xs[j]'(by omega):=by simp[N4,e1]
 have g2:ys.getD j .non=ys[j]'(by omega):=by simp[N4,e2]
 rw[g1,g2]
 exact a9f ru rw' (M3.mp fx _ (D6 _)) (M3.mp fy _ (D6 _))
theorem c2x{x y:V}{v:Value}{k:Bool}(I:Inv X pins σ H s)(hu:X.A.units<cLine)(rx:E1 x v)(ry:E1 y u)(hs:¬b2A x y=true)(e:eqO x y H=some k) :
  SeqAt.RcAt X.A s v u k/\SeqAt.RcNeAt X.A s v u (!k):=by
 unfold eqO at e
 rw[if_neg hs]at e
 split at e
 ·rename_i a b
  cases rx
  cases ry
  split at e
  ·rename_i xs ys ha hb
   split at e
   ·rename_i hf
    cases e
    obtain⟨us,r1,t1,_⟩:=I.tuple (SqT.of ha)
    obtain⟨ws,r2,t2,_⟩:=I.tuple (SqT.of hb)
    have l1:=r1.length
    have l2:=r2.length
    have q1:=SeqAt.RcAt.tuples (A:=X.A) t1 t2 hu (a6w r1 r2 hf.1 hf.2)
    have q2:=SeqAt.RcNeAt.tuples (A:=X.A) t1 t2 hu (a6w r1 r2 hf.1 hf.2)
    simp only[o0,<-l1,<-l2]at q1 q2
    exact⟨q1,q2⟩
   ·cases e
  ·rename_i xs ys ha hb
   split at e
   ·rename_i hf
    cases e
    obtain⟨us,r1,t1,_⟩:=I.list (SqL.of ha)
    obtain⟨ws,r2,t2,_⟩:=I.list (SqL.of hb)
    have l1:=r1.length
    have l2:=r2.length
    by_cases hl:us.toArray.size=ws.toArray.size
    ·have q1:=SeqAt.RcAt.lists (A:=X.A) t1.isList t2.isList hl hu (a6w r1 r2 hf.1 hf.2)
     have q2:=SeqAt.RcNeAt.lists (A:=X.A) t1.isList t2.isList hl hu (a6w r1 r2 hf.1 hf.2)
     have hl':xs.length=ys.length:=by simpa[<-l1,<-l2]using hl
     have ef:a0Y xs ys=(E7 us.toArray.size).all fun j=>eqV (xs.getD j .non) (ys.getD j .non):=by
      unfold a0Y
      rw[hl',Nat.min_self,o0,<-l1,hl']
      simp
     rw[ef]
     exact⟨q1,q2⟩
    ·have hl2:(us.toArray.size != ws.toArray.size)=true:=by simpa using hl
     have q1:=SeqAt.RcAt.lists_lengths (A:=X.A) t1.isList t2.isList hl2 hu
     have q2:=SeqAt.RcNeAt.lists_lengths (A:=X.A) t1.isList t2.isList hl2 hu
     have ef:a0Y xs ys=false:=by
      unfold a0Y
      have:¬xs.length=ys.length:=by simpa[<-l1,<-l2]using hl
      simp[this]
     rw[ef]
     exact⟨q1,q2⟩
   ·cases e
  ·cases e
 ·cases rx
  cases ry
  split at e
  ·cases e
   obtain⟨us,_,t1,_⟩:=I.tuple (SqT.of (by assumption))
   exact⟨SeqAt.RcAt.none_tuple t1 hu,SeqAt.RcNeAt.none_tuple t1 hu⟩
  ·cases e
 ·cases rx
  cases ry
  split at e
  ·cases e
   obtain⟨us,_,t1,_⟩:=I.tuple (SqT.of (by assumption))
   exact⟨SeqAt.RcAt.tuple_none t1 hu,SeqAt.RcNeAt.tuple_none t1 hu⟩
  ·cases e
 ·cases e
theorem c4i(hu:X.A.units<cLine):OpR X (u6 .Eq) qEq:=by
 intro pins s σ H x y v u Q I rx ry h
 obtain⟨k,e,q⟩:=h
 by_cases hs:b2A x y=true
 ·unfold eqO at e
  rw[if_pos hs]at e
  cases e
  exact c6p pins s σ H x y v u Q I rx ry ⟨hs,q⟩
 ·exact(c2x I hu rx ry hs e).1 _ _ _ _ ⟨.bl k,H,I,rfl,q⟩
theorem c4c(hu:X.A.units<cLine):OpR X (u6 .NotEq) qNe:=by
 intro pins s σ H x y v u Q I rx ry h
 obtain⟨k,e,q⟩:=h
 by_cases hs:b2A x y=true
 ·unfold eqO at e
  rw[if_pos hs]at e
  cases e
  exact c6k pins s σ H x y v u Q I rx ry ⟨hs,q⟩
 ·exact(c2x I hu rx ry hs e).2 _ _ _ _ ⟨.bl (!k),H,I,rfl,q⟩
def qIn(neg:Bool):R2:=fun x y H Q=>match x,y with
 | .str i,.str j=>Q (.bl (if neg then !(!(Builtin.Str.occurrences j i 0 j.length 1).isEmpty)else !(Builtin.Str.occurrences j i 0 j.length 1).isEmpty)) H
 | x,.ref p=>match H p with
  | some (.lst xs)=>K7 x=true/\xs.all K7=true/\Q (.bl (if neg then !inV x xs else inV x xs)) H
  | some (.tup xs)=>K7 x=true/\xs.all K7=true/\Q (.bl (if neg then !inV x xs else inV x xs)) H
  | _=>False
 | _,_=>False
theorem c4f:OpR X (u6 .In) (qIn false):=(b6o.or b0g).imp fun x y H Q h=>by
 unfold qIn at h
 split at h
 ·exact .inl ⟨_,_,rfl,rfl,h⟩
 ·split at h
  ·exact .inr ⟨_,_,rfl,.inl (SqL.of (by assumption)),h.1,h.2.1,h.2.2⟩
  ·exact .inr ⟨_,_,rfl,.inr (SqT.of (by assumption)),h.1,h.2.1,h.2.2⟩
  ·exact h.elim
 ·exact h.elim
theorem b6m:OpR X (u6 .NotIn) (qIn true):=(b1h.or b1i).imp fun x y H Q h=>by
 unfold qIn at h
 split at h
 ·exact .inl ⟨_,_,rfl,rfl,h⟩
 ·split at h
  ·exact .inr ⟨_,_,rfl,.inl (SqL.of (by assumption)),h.1,h.2.1,h.2.2⟩
  ·exact .inr ⟨_,_,rfl,.inr (SqT.of (by assumption)),h.1,h.2.1,h.2.2⟩
  ·exact h.elim
 ·exact h.elim
def a0h:V->List V->Hp->VK->Prop:=fun x vs H Q=>match x,vs with
 | .ref l,[y]=>match H l with
  | some (.lst xs)=>xs.length<q9/\Q .non (upd H l (.lst (xs++[y])))
  | _=>False
 | _,_=>False
theorem b4G:MtR X "list.append" a0h:=fun pins s σ H x xs v us Q I rx rv h=>by
 refine a7j pins s σ H x xs v us Q I rx rv ?_
 unfold a0h at h
 split at h
 ·split at h
  ·exact⟨_,_,_,rfl,rfl,by assumption,h.1,h.2⟩
  ·exact h.elim
 ·exact h.elim
def a4e:List V->Option (List Str)
 | []=>some []
 | .str s::r=>(a4e r).map (s :: ·)
 | _=>none
theorem b3X(ss:List Str):a4e (ss.map V.str)=some ss:=by
 induction ss with
 | nil=>rfl
 | cons s r ih=>simp[a4e,ih]
theorem a8A:∀ {xs:List V} {us:List Value} {ss:List Str},E4 xs us->a4e xs=some ss->StrsAre us ss
 | _,_,ss,.nil,e=>by cases e;exact .nil
 | x::xs,_,ss,.cons r t,e=>by
  cases x with
  | str s=>
   obtain⟨k,rfl⟩:=r
   cases e2:a4e xs with
   | none=>simp[a4e,e2]at e
   | some ss2=>
    simp[a4e,e2]at e
    subst e
    exact .cons _ _ (a8A t e2)
  | _=>simp[a4e]at e
def a2d(x:V)(H:Hp):Option String:=match x with
 | .non=>some "NoneType"
 | .bl _=>some "bool"
 | .int _=>some "int"
 | .str _=>some "str"
 | .ref a=>match H a with
  | some (.lst _)=>some "list"
  | some (.tup _)=>some "tuple"
  | some (.dK _)=>some "dict"
  | some (.dT _)=>some "dict"
  | _=>none
 | _=>none
def b4L(t c:String):Bool:=t == c||(t == "bool" && c == "int")
def a7l:List String:=["int","bool","str","list","tuple","dict"]
theorem c4B(K:Fg):∀t ∈ "NoneType" :: a7l,∀c∈a7l,c2f K (.type t) (.type c)=some (b4L t c):=by
 intro t ht c hc
 simp only[a7l,d5,o6,or_false]at ht hc
 rcases ht with rfl | rfl | rfl | rfl | rfl | rfl | rfl <;> rcases hc with rfl | rfl | rfl | rfl | rfl | rfl <;> kernel_rfl
theorem c5B{K:Fg}{x:V}{t:String}(h:a2d x H=some t):a7s K H x (.type t)/\t ∈ "NoneType" :: a7l:=by
 unfold a2d at h
 split at h
 ·cases h;exact⟨.non,by decide⟩
 ·cases h;exact⟨.bl _,by decide⟩
 ·cases h;exact⟨.int _,by decide⟩
 ·cases h;exact⟨.str _,by decide⟩
 ·split at h
  ·cases h;exact⟨.lst (by assumption),by decide⟩
  ·cases h;exact⟨.tup (by assumption),by decide⟩
  ·cases h;exact⟨.dK (by assumption),by decide⟩
  ·cases h;exact⟨.dT (by assumption),by decide⟩
  ·cases h
 ·cases h
def a3q:List V->Hp->VK->Prop:=fun xs H Q=>match xs with
 | [x,.ty c]=>∃t,a2d x H=some t/\c∈a7l/\Q (.bl (b4L t c)) H
 | _=>False
theorem b6S:W0 X (.builtin "isinstance") a3q:=fun pins s σ H xs us Q I r h=>by
 unfold a3q at h
 split at h
 ·obtain⟨t,e,hc,q⟩:=h
  obtain⟨u,u2,rfl,ru,ru2⟩:=c2o r
  cases ru2
  obtain⟨ty,ht⟩:=c5B (K:=X.K) e
  exact b6C I ru ty (c4B X.K t ht _ hc) fun tk=>⟨.bl _,H,I.tok _,rfl,q⟩
 ·exact h.elim
def b6f:V->V->Hp->VK->Prop:=fun x y H Q=>match x,y with
 | .ref p,.int i=>match H p with
  | some (.lst xs)=>0<=i/\∃v,xs[i.toNat]? = some v/\Q v H
  | _=>False
 | _,_=>False
theorem c6s:c5b X b6f:=fun pins s σ H o i ov iv Q I r1 r2 h=>by
 unfold b6f at h
 split at h
 ·split at h
  ·obtain⟨h0,v,e,q⟩:=h
   cases r1
   obtain⟨t,rfl⟩:=r2
   obtain⟨its,r,pl,hz⟩:=I.list (SqL.of (by assumption))
   obtain⟨u,eu,ru⟩:=r.get e
   have hl:=(o3.mp e).1
   have hn:=a5K
   exact wpAny_getItem_list pl.isList h0 (by omega) (by simpa using eu) ⟨v,H,I,ru,q⟩
  ·exact h.elim
 ·exact h.elim
def b4o:R2:=fun x y H Q=>y=.non/\Q (.bl (!decide (x=.non))) H
theorem b6n:OpR X (u6 .IsNot) b4o:=c1o
structure D2(P:C2)(w:World)(K:Fg)(mg:Str->Option Value)(base:Heap)(k:Nat)(x:Str)(ps:List Str)(sp:Sp):Prop where
 ex:∃f fd,K0 P w K mg base CX0 k f fd ps sp/\mg x=some (.ref f)/\R6 K (.ref f)=true/\a3L K fd ps []
theorem c3P{k j:Nat}{x:Str}{e:Expr}{es:List Expr}{t:TA}{p:Pos}(C:D2 X.prog X.w X.K X.mg X.base k x ps sp)(hr:P7 j X.A)(hk:k<=j)(hg:Gl X x)(ha:PA X (e::es) t)
  (hdb:(x == ("__debug__" : Str))=false:=by decide) (he:i8 (e::es) X.env=(false,eval e X.env)::i8 es X.env:=by rfl) (hpl:(W8 pos (i8 es X.env)).any (·.1)=false:=by rfl) :
  PE X (.Call (.Name x p) (e::es) [] pos) (v7 sp [] E0 t):=by
 obtain⟨f,fd,F,hm,hkp,hb⟩:=C.ex
 exact c1a F (hr.mono hk) hg hm hkp hb .nil b8N ha hdb he hpl
theorem b6P{P:C2}{K:Fg}{mg:Str->Option Value}{base:Heap}{k:Nat}{x q:Str}{st:Stmt}{f:Addr}{fd:X9}(F:Fun K x q st f fd)(O:K0 P w K mg base CX0 k f fd ps sp)
  (hm:mg x=some (.ref f)) (hb:a3L K fd ps []):D2 P w K mg base k x ps sp:=⟨f,fd,O,hm,F.kp,hb⟩
def a0O:List V->Hp->VK->Prop:=fun xs H Q=>match xs with
 | [.ref p]=>match H p with
  | some (.lst ys)=>∀l,H l=none->Q (.ref l) (upd H l (.lst ys))
  | some (.tup ys)=>∀l,H l=none->Q (.ref l) (upd H l (.lst ys))
  | _=>False
 | _=>False
theorem b4W:W0 X (.type "list") a0O:=b1I.imp fun xs H Q h=>by
 unfold a0O at h
 split at h
 ·split at h
  ·exact⟨_,_,rfl,.inl (SqL.of (by assumption)),h⟩
  ·exact⟨_,_,rfl,.inr (SqT.of (by assumption)),h⟩
  ·exact h.elim
 ·exact h.elim
theorem a8r:∀ {kvs:List (Key×V)} {k:Key} {x:V},(kvs.map (·.1)).Nodup->(k,x)∈kvs->a0w kvs k=some x
 | [],_,_,_,h=>by cases h
 | (k0,x0)::r,k,x,nd,h=>by
  have nd':k0∉r.map (·.1)/\(r.map (·.1)).Nodup:=F0.mp nd
  unfold a0w
  rw[U7]
  by_cases e:k0=k
  ·rw[show decide (((k0,x0):Key×V).1=k)=true from c8s e]
   rcases d5.mp h with z | z
   ·cases z;rfl
   ·exact absurd (A2.mpr ⟨_,z,e.symm⟩) nd'.1
  ·rw[show decide (((k0,x0):Key×V).1=k)=false from c8r e]
   rcases d5.mp h with z | z
   ·cases z;exact absurd rfl e
   ·exact a8r nd'.2 z
theorem c1J{A:G8}{kb:List (Key×Value)}{kvs:List (Key×V)}(r2:KV kvs kb)(nd:(kvs.map (·.1)).Nodup)(fl:kvs.all (fun p=>K7 p.2)=true) :
  ∀ {l:List (Key×V)} {la:List (Key×Value)},KV l la->(∀p∈l,p∈kvs)->PySem.W.KeqHits A s kb la true:=by
 intro l la r
 unfold KV at r
 induction r with
 | nil=>intro _;exact .nil
 | @cons p q l1 l2 h hr ih=>
  intro hm
  obtain⟨k,x⟩:=p
  obtain⟨k',v⟩:=q
  obtain⟨e,rv⟩:=h
  have e:k=k':=e
  subst e
  have mem:=hm (k,x) D8
  have rel:=r2.val k
  rw[a8r nd mem]at rel
  obtain⟨y,hy,ry⟩:=rel.some_of
  have fx:K7 x=true:=M3.mp fl _ mem
  have eq:SeqAt.EqAt A s v y (eqV x x):=a9f rv ry fx fx
  have ex:eqV x x=true:=by
   cases x with
   | non=>rfl
   | bl b=>simp[eqV]
   | int i=>simp[eqV]
   | str s=>simp[eqV]
   | byt b=>cases fx
   | flt b=>cases fx
   | ref a=>cases fx
   | ty n=>cases fx
  rw[ex]at eq
  exact PySem.W.KeqHits.hit (e:=true) (b:=true) hy eq (ih fun p hp=>hm p (A9 _ hp))
def a5i:List V->Hp->VK->Prop:=fun xs H Q=>match xs with
 | [.ref a]=>match H a with
  | some (.dK kvs)=>∀p,H p=none->Q (.ref p) (upd H p (.dK kvs))
  | _=>False
 | _=>False
theorem b4X:W0 X (.type "dict") a5i:=fun pins s σ H xs us Q I r h=>by
 unfold a5i at h
 split at h
 ·split at h
  ·obtain⟨u,rfl,ru⟩:=a3Z r
   cases ru
   exact b9t I (.inl (by assumption)) fun p s' hp I'=>⟨.ref p,_,I',rfl,h p hp⟩
  ·exact h.elim
 ·exact h.elim
end
def Its(x:Str):It:=⟨fun i _=>i<x.length,fun i H v H'=>H'=H/\∃c,x.cps[i]? = some c/\v=.str ⟨#[c]⟩,fun i _=>x.length<=i⟩
theorem b7I{P:C2}{K:Fg}{tg:Expr}(x:Str)(t:Tok)(it:Addr):b3x P w K tg (Its x) [it] it (fun i h=>h.IsStrIter it (a2F x) x t i) where
 mem:=by simp
 obj:=fun i h st b hb=>by
  have e:b=it:=by simpa using hb
  subst e
  obtain⟨o,e,c,d⟩:=st
  exact⟨o,e,fun v z=>by rw[d]at z;cases z⟩
 keep:=fun i h h' st k=>let⟨o,ho,r⟩:=st; ⟨o,k it (by simp) o ho,r⟩
 item:=by
  intro X hP hw hK hc i pins s σ H E I hf st hg
  subst hP hw hK
  have hi:i<x.cps.size:=hg
  obtain⟨f0,f1,f2,f3,f4,f5⟩:=hf it (by simp)
  have hx:x.cps[i]? = some x.cps[i]:=by simp[hi]
  have fin:∀h',h'.IsStrIter it (a2F x) x t (i+1)->Heap.SameBut it s.heap h'->∃u,some (Value.str ⟨#[x.cps[i]]⟩ s.toks)=some u /\
    wpAny (model X.prog X.w) X.A (a3T tg (.ref it) u) (fun _ s2=>∃v H',Inv X pins σ H' s2/\E1 v u/\(Its x).yld i H v H'/\s2.heap.IsStrIter it (a2F x) x t (i+1)/\∀b∈[it],H' b=none) E { s with heap:=h',toks:=s.toks+1 }:=by
   intro h' st' sb
   have I1:Inv X pins σ H { s with heap:=h',toks:=s.toks+1 }:=I.turned (t':=s.toks+1) (fun b o hb e=>(sb.2 b hb).trans e) f0 f1 f3 f4 f5
   obtain⟨o,e,c,d⟩:=id st'
   refine⟨_,rfl,b9k (s:={ s with heap:=h',toks:=s.toks+1 }) e c d ?_ ⟨.str ⟨#[x.cps[i]]⟩,H,I1,⟨_,rfl⟩,⟨rfl,_,hx,rfl⟩,st',fun b hb=>(hf b hb).1⟩⟩
   unfold a2F
   split <;> decide
  unfold a2F at st fin ⊢
  split at st
  ·rename_i ha
   simp only[ha]at fin ⊢
   exact wpAny_pyNext_ascii_item st hx fun h' st' sb=>fin h' st' sb
  ·rename_i ha
   simp only[ha]at fin ⊢
   exact wpAny_pyNext_wide_item st hx fun h' st' sb=>fin h' st' sb
 done:=by
  intro X hP hw hK hc i pins s σ H E I hf st hg
  subst hP hw hK
  have hi:x.cps.size<=i:=hg
  obtain⟨f0,f1,f2,f3,f4,f5⟩:=hf it (by simp)
  have hx:x.cps[i]? = none:=by simp[hi]
  unfold a2F at st
  split at st
  ·exact wpAny_pyNext_ascii_end (I.ok.hd hc) st hx fun h' eb=>⟨rfl,I.turned (t':=s.toks) (fun b o hb e=>eb b o hb e) f0 f1 f3 f4 f5⟩
  ·exact wpAny_pyNext_wide_end (I.ok.hd hc) st hx fun h' eb=>⟨rfl,I.turned (t':=s.toks) (fun b o hb e=>eb b o hb e) f0 f1 f3 f4 f5⟩
 self:=fun _ _ _ _ _ st h=>by
  unfold a2F at st
  split at st
  ·exact wpAny_pyIter_striter_ascii st h
  ·exact wpAny_pyIter_striter_wide st h
def c1I(tl:TE):TI:=fun σ H R=>tl σ H fun v H1=>∃x,v=.str x/\R (Its x) H1
section
variable {tg:Expr}
theorem c3K{l:Expr}{tl:TE}(hl:PE X l tl):PI X tg l (c1I tl):=by
 intro pins s σ H R I h
 refine thn (hl pins s σ H _ I h) fun v s1 ⟨y,H1,I1,r1,x,e,q1⟩=>?_
 subst e
 obtain⟨t,rfl⟩:=r1
 refine wpAny_pyIter_strU ?_
 have k:∀b u,s1.heap.get? b=some u->(s1.heap.push { cls:=.type (a2F x),data:=.fields #[.str x t,.int 0 0] }).get? b=some u:=fun b u q=>g7 _ q
 refine⟨s1.heap.objs.size,[s1.heap.objs.size],_,Its x,H1,rfl,I1.kept (t':=s1.toks) k,b7I x t _,⟨_,y7 _ rfl,rfl,rfl⟩,fun b hb=>?_,q1⟩
 have e:b=s1.heap.objs.size:=by simpa using hb
 subst e
 exact I1.fpOk (g9 _) I1.fresh
def T8:List V->Option (List Bool)
 | []=>some []
 | .bl b::r=>(T8 r).map (b :: ·)
 | _=>none
theorem a7r:∀ {xs:List V} {bs:List Bool} {i:Nat} {x:V},T8 xs=some bs->xs[i]? = some x->∃b,bs[i]? = some b/\x=.bl b
 | [],_,_,_,_,h=>by simp at h
 | y::r,bs,i,x,e,h=>by
  cases y with
  | bl b=>
   cases e2:T8 r with
   | none=>simp[T8,e2]at e
   | some bs2=>
    simp[T8,e2]at e
    subst e
    cases i with
    | zero=>simp at h;exact⟨b,rfl,h.symm⟩
    | succ i=>
     obtain⟨b',h1,h2⟩:=a7r (i:=i) e2 (by simpa using h)
     exact⟨b',by simpa using h1,h2⟩
  | _=>simp[T8]at e
theorem a7q:∀ {xs:List V} {bs:List Bool},T8 xs=some bs->xs.length=bs.length
 | [],_,e=>by cases e;rfl
 | y::r,bs,e=>by
  cases y with
  | bl b=>
   cases e2:T8 r with
   | none=>simp[T8,e2]at e
   | some bs2=>
    simp[T8,e2]at e
    subst e
    simp[a7q e2]
  | _=>simp[T8]at e
theorem b6Y(bs:List Bool):((E7 bs.length).all fun i=>(bs[i]?).getD true)=bs.all id:=by
 rw[O0,M3,M3]
 constructor
 ·intro h b hb
  obtain⟨i,hi,rfl⟩:=List.mem_iff_getElem.mp hb
  have:=h i (by simpa using hi)
  simpa[hi]using this
 ·intro h i hi
  have hl:i<bs.length:=by simpa using hi
  have:=h bs[i] (D6 _)
  simpa[hl]using this
def b1b:List V->Hp->VK->Prop:=fun vs H Q=>match vs with
 | [.ref l]=>match H l with
  | some (.lst xs)=>∃bs,T8 xs=some bs/\Q (.bl (bs.all id)) H
  | _=>False
 | _=>False
theorem b6U(hc:X.calm=true):W0 X (.builtin "all") b1b:=fun pins s σ H xs us Q I r h=>by
 unfold b1b at h
 split at h
 ·split at h
  ·rename_i l _ ys hl
   obtain⟨bs,e,q⟩:=h
   obtain⟨u,rfl,ru⟩:=a3Z r
   cases ru
   obtain⟨its,rv,pl,hz⟩:=I.list (SqL.of hl)
   have hlt:l<s.heap.objs.size:=by obtain⟨_,e,_⟩:=pl.isList;exact l3 e
   have hlen:=rv.length
   have hbl:=a7q e
   refine call_all_walk (b3K pl.isList ?_)
   refine⟨s.heap.objs.size,[s.heap.objs.size,l],[s.heap.objs.size],its.toArray.size,_,_,fun i=>(bs[i]?).getD true,rfl,Walks.list (A:=X.A.in1) (I.ok.hd hc) _ l (u7 hlt) its.toArray,
    ⟨⟨_,y7 _ rfl,rfl,rfl⟩,pl.isList.push _⟩,fun i v s' Q' E' hP hQ=>?_,fun h' tk hk=>?_⟩
   ·have hP:its[i]? = some v:=by simpa using hP
    have hi:i<ys.length:=by rw[hlen];exact(o3.mp hP).1
    have ey:ys[i]? = some ys[i]:=by simp[hi]
    obtain⟨b,eb,ez⟩:=a7r e ey
    obtain⟨u,eu,ru⟩:=rv.get ey
    rw[hP]at eu
    cases eu
    rw[ez]at ru
    cases ru
    simp only[eb,a3M]at hQ
    exact J0 hQ
   ·have e2:((E7 its.toArray.size).all fun i=>(bs[i]?).getD true)=bs.all id:=by
     rw[o0,<-hlen,hbl]
     exact b6Y bs
    rw[e2]
    exact⟨.bl _,H,I.kept (t':=tk) fun b x e=>hk b x (fun hm=>by rw[g8.mp hm]at e;exact G0 _ (l3 e)) (g7 _ e),rfl,q⟩
  ·exact h.elim
 ·exact h.elim
end
section
theorem Inv.turnedL{h':Heap}{t':Nat}(I:Inv X pins σ H s)(k:∀b o,b∉fp->s.heap.get? b=some o->h'.get? b=some o)(hf:∀b∈fp,a4V X pins H b) :
  Inv X pins σ H { s with heap:=h',toks:=t' }:=by
 have nit:∀b u,H b=some u->b∉fp:=fun b u e z=>by rw[(hf b z).1]at e;cases e
 refine I.step (g':=s.gens) (d':=s.drawn) (ch:=fp) (fun b hb=>?_) (fun b o _ _ hc e _=>k b o hc e) (fun b o _ _ hc e _=>⟨o.slots,k b o hc e⟩) (fun _ _ _ _ n=>n)
  (fun b o hc e=>⟨o,k b o hc e⟩) (fun _ _ e=>e) (fun _ _ _ e=>e) (fun b ps e=>⟨#[],by rw[e];simp⟩) (fun m hm=>?_) (fun b u e=>?_) I.bare
 ·obtain⟨_,f1,_,f3,f4,f5⟩:=hf b hb
  exact⟨f3,f1,f4,f5⟩
 ·obtain⟨o,es,ep,ho,r⟩:=hm
  exact⟨o,es,ep,k _ o (fun z=>(hf _ z).2.1 rfl) ho,r⟩
 ·refine(I.hok b u e).stay (fun c v hc q=>k c v ?_ q) (fun _ q=>q) fun _ _ q=>q
  rcases hc with z | z
  ·rw[z];exact nit b u e
  ·exact nit c _ z
theorem Inv.pairL{h':Heap}{t':Nat}{x y:V}{v:Value}(I:Inv X pins σ H s)(hf:∀b∈fp,a4V X pins H b)(fl:∀b∈fp,b≠s.heap.objs.size)
  (rx:E1 x u) (ry:E1 y v) (ht:h'.get? s.heap.objs.size=some { cls:=.type "tuple",data:=.seq #[u,v] }) (k:∀b o,b∉fp->s.heap.get? b=some o->h'.get? b=some o) :
  Inv X pins σ (upd H s.heap.objs.size (.tup [x,y])) { s with heap:=h',toks:=t' }:=by
 have I1:Inv X pins σ (upd H s.heap.objs.size (.tup [x,y])) { s with heap:=s.heap.push { cls:=.type "tuple",data:=.seq #[u,v] },toks:=s.toks }:=
  I.laid (fun b u e=>g7 _ e) (g9 _) ⟨by show 2<=q9;decide,[u,v],.cons rx (.cons ry .nil),⟨_,y7 _ rfl,rfl,_,rfl⟩⟩
 refine Inv.turnedL (s:={ s with heap:=s.heap.push { cls:=.type "tuple",data:=.seq #[u,v] },toks:=s.toks }) (fp:=fp) I1 (fun b o hb e=>?_) fun b hb=>⟨by rw[l7 (fl b hb)];exact(hf b hb).1,(hf b hb).2⟩
 by_cases hz:b=s.heap.objs.size
 ·subst hz
  have e2:=y7 s.heap (o:={ cls:=.type "tuple",data:=.seq #[u,v] }) rfl
  rw[show(s.heap.push { cls:=.type "tuple",data:=.seq #[u,v] }).get? s.heap.objs.size=some o from e]at e2
  cases e2
  exact ht
 ·refine k b o hb ?_
  have e:(s.heap.push { cls:=.type "tuple",data:=.seq #[u,v] }).get? b=some o:=e
  rwa [Heap.get?_push_ne _ _ _ hz]at e
def Ite(K:Fg)(a:Addr):It:=
 ⟨fun i H=>∃xs x,SqL K H a xs/\xs[i]? = some x,fun i H v H'=>∃p x,H p=none/\v=.ref p/\H'=upd H p (.tup [.int i,x])/\∀xs,SqL K H a xs->xs[i]? = some x,fun i H=>∃xs,SqL K H a xs/\xs.length<=i⟩
theorem b5U{P:C2}{K:Fg}{x1}(a e it:Addr)(hne:e≠it):b3x P w K (.Tuple elts x1 tp) (Ite K a) [e,it] e (fun i h=>(∃old,IsEnum h e it i old)/\h.IsListIter it a i) where
 mem:=by simp
 obj:=fun i h st b hb=>by
  obtain⟨⟨old,he⟩,o,e1,c,d⟩:=st
  rcases d5.mp hb with rfl | hb
  ·exact⟨_,he,fun v z=>by
    have z':Data.fields _=Data.cell v:=z
    cases z'⟩
  ·have:b=it:=by simpa using hb
   subst this
   exact⟨o,e1,fun v z=>by rw[d]at z;cases z⟩
 keep:=fun i h h' st k=>by
  obtain⟨⟨old,he⟩,hi⟩:=st
  exact⟨⟨old,k e (by simp) _ he⟩,hi.at fun o q=>k it (by simp) o q⟩
 item:=by
  intro X hP hw hK hc i pins s σ H E I hf st hg
  subst hP hw hK
  obtain⟨⟨old,he⟩,hit⟩:=st
  obtain⟨xs,x,hq,hx⟩:=hg
  obtain⟨its,rv,p,hz⟩:=I.list hq
  obtain⟨u,hu,ru⟩:=rv.get hx
  refine wpAny_pyNext_enum_item he hit p.isList (x:=u) (by simpa using hu) hne fun h1 ho hit1 hT hsz hk=>?_
  refine⟨_,rfl,?_⟩
  refine wpAny_letOwnedTupleGo_enum (s:={ s with heap:=h1,toks:=s.toks+1 }) ho fun h2 he2 hs2=>?_
  have hs2:Heap.SameBut e h1 h2:=hs2
  have le:e≠s.heap.objs.size:=u7 (l3 he)
  have li:it≠s.heap.objs.size:=by obtain⟨_,q,_⟩:=hit;exact u7 (l3 q)
  have fl:∀b∈[e,it],b≠s.heap.objs.size:=fun b hb=>by
   rcases d5.mp hb with rfl | hb
   ·exact le
   ·have:b=it:=by simpa using hb
    subst this;exact li
  have I2:=I.pairL (h':=h2) (t':=s.toks+1) (x:=.int i) (y:=x) (u:=.int i s.toks) (v:=u) hf fl ⟨_,rfl⟩ ru ((hs2.2 _ (Ne.symm le)).trans hT) fun b o hb q=>by
   have n1:b≠e:=fun z=>hb (by simp[z])
   have n2:b≠it:=fun z=>hb (by simp[z])
   exact(hs2.2 b n1).trans (hk b o n1 n2 q)
  refine⟨.ref s.heap.objs.size,_,I2,rfl,⟨_,x,I.fresh,rfl,rfl,fun ys hy=>by rw[I.list_inj hy hq];exact hx⟩,⟨⟨u,by simpa using he2⟩,hit1.at fun o q=>(hs2.2 it (Ne.symm hne)).trans q⟩,fun b hb=>?_⟩
  rw[l7 (fl b hb)];exact(hf b hb).1
 done:=by
  intro X hP hw hK hc i pins s σ H E I hf st hg
  subst hP hw hK
  obtain⟨⟨old,he⟩,hit⟩:=st
  obtain⟨xs,hq,hx⟩:=hg
  obtain⟨its,rv,p,hz⟩:=I.list hq
  obtain⟨f0,f1,f2,f3,f4,f5⟩:=hf it (by simp)
  have hl:=rv.length
  exact wpAny_pyNext_enum_end (I.ok.hd hc) he hit p.isList (by simp;omega) fun h' eb=>⟨rfl,I.turned (t':=s.toks) (fun b o hb e=>eb b o hb e) f0 f1 f3 f4 f5⟩
 self:=fun _ _ _ _ _ st h=>by
  obtain⟨⟨old,he⟩,_⟩:=st
  exact wpAny_pyIter_enum he h
def a6u(K:Fg)(ta:TA):TI:=fun σ H R=>ta σ H fun vs H1=>∃a,vs=[.ref a]/\(∃xs,SqL K H1 a xs)/\R (Ite K a) H1
theorem c0T{x1}{a:Expr}{ta:TA}(hg:Gl X "enumerate")(hm:X.mg "enumerate" = none)(ha:PA X [a] ta)(hs:i8 [a] X.env=[(false,eval a X.env)]:=by rfl) :
  PI X (.Tuple elts x1 tp) (.Call (.Name "enumerate" p) [a] [] pos) (a6u X.K ta):=by
 intro pins s σ H R I h
 refine Call_ (a4v I hg hm boot_enumerate (L3 (thn (ha pos pins s σ H _ I h) fun us s1 ⟨vs,H1,I1,r1,q1⟩=>?_) hs rfl))
 obtain⟨b,e,⟨xs,hq⟩,q⟩:=q1
 subst e
 cases r1 with
 | cons r rr=>
  cases rr
  cases r
  obtain⟨its,rv,pl,hz⟩:=I1.list hq
  refine call_enumerate_list pl.isList fun h' he hit hsz hk=>?_
  have I2:Inv X pins σ H1 { s1 with heap:=h' }:=I1.kept (t':=s1.toks) hk
  refine wpAny_pyIter_enum he ⟨_,[s1.heap.objs.size+1,s1.heap.objs.size],_,_,H1,rfl,I2,b5U b (s1.heap.objs.size+1) s1.heap.objs.size (Nat.succ_ne_self _),⟨⟨_,he⟩,hit⟩,fun c hc=>?_,q⟩
  rcases d5.mp hc with rfl | hc
  ·exact I1.fpOk (by omega) (I1.hok.fresh (by omega))
  ·have:c=s1.heap.objs.size:=by simpa using hc
   subst this
   exact I1.fpOk (g9 _) (I1.hok.fresh (g9 _))
def Itz(K:Fg)(a b:Addr):It:=
 ⟨fun i H=>∃xs ys x y,SqL K H a xs/\SqL K H b ys/\xs[i]? = some x/\ys[i]? = some y,fun i H v H'=>∃p x y,H p=none/\v=.ref p/\H'=upd H p (.tup [x,y])/\(∀xs,SqL K H a xs->xs[i]? = some x)/\∀ys,SqL K H b ys->ys[i]? = some y,
  fun i H=>∃xs ys,SqL K H a xs/\SqL K H b ys/\(xs.length<=i\/ys.length<=i)⟩
theorem P9{h:Heap}{a b:Addr}{o o':Obj}(h1:h.get? a=some o)(h2:h.get? b=some o')(hc:o.cls≠o'.cls):a≠b:=fun z=>by
 subst z;rw[h1]at h2;cases h2;exact hc rfl
theorem b7H{P:C2}{K:Fg}{x1}(a b z TI TO i1 i2:Addr)(n1:TI≠z)(n2:TO≠z)(n3:i1≠z)(n4:i2≠z)(n5:TI≠TO)(n6:TI≠i1)(n7:TI≠i2)(n8:TO≠i1)(n9:TO≠i2)(n10:i1≠i2) :
  b3x P w K (.Tuple elts x1 tp) (Itz K a b) [z,TI,TO,i1,i2] z (fun i h=>IsZip h z TI TO .none/\IsPair h TI (.ref i1) (.ref i2)/\(∃u v,IsPair h TO u v)/\h.IsListIter i1 a i/\h.IsListIter i2 b i) where
 mem:=by simp
 obj:=fun i h st c hb=>by
  obtain⟨hz,hTI,⟨u,v,hTO⟩,⟨o1,e1,c1,d1⟩,⟨o2,e2,c2,d2⟩⟩:=st
  simp only[d5,o6,or_false]at hb
  rcases hb with rfl | rfl | rfl | rfl | rfl
  ·exact⟨_,hz,fun v z=>by
    have z':Data.fields _=Data.cell v:=z
    cases z'⟩
  ·exact⟨_,hTI,fun v z=>by
    have z':Data.seq _ _=Data.cell v:=z
    cases z'⟩
  ·exact⟨_,hTO,fun v z=>by
    have z':Data.seq _ _=Data.cell v:=z
    cases z'⟩
  ·exact⟨o1,e1,fun v z=>by rw[d1]at z;cases z⟩
  ·exact⟨o2,e2,fun v z=>by rw[d2]at z;cases z⟩
 keep:=fun i h h' st k=>by
  obtain⟨hz,hTI,⟨u,v,hTO⟩,h1,h2⟩:=st
  exact⟨k z (by simp) _ hz,k TI (by simp) _ hTI,⟨u,v,k TO (by simp) _ hTO⟩,h1.at fun o q=>k i1 (by simp) o q,h2.at fun o q=>k i2 (by simp) o q⟩
 item:=by
  intro X hP hw hK hc i pins s σ H E I hf st hg
  subst hP hw hK
  obtain⟨hz,hTI,⟨u,v,hTO⟩,h1,h2⟩:=st
  obtain⟨xs,ys,x,y,hqa,hqb,hx,hy⟩:=hg
  obtain⟨ia,ra,pa,za⟩:=I.list hqa
  obtain⟨ib,rb,pb,zb⟩:=I.list hqb
  obtain⟨ux,hux,rux⟩:=ra.get hx
  obtain⟨uy,huy,ruy⟩:=rb.get hy
  obtain⟨oa,la,ca,_⟩:=id pa.isList
  obtain⟨ob,lb,cb,_⟩:=id pb.isList
  obtain⟨o1,e1,c1,_⟩:=id h1
  obtain⟨o2,e2,c2,_⟩:=id h2
  have D:ZipApart z TI TO i1 i2 a b:=⟨n1,n2,n3,n4,n5,n6,n7,n8,n9,n10,
   P9 la hz (by rw[ca];intro z;injection z with z;revert z;decide),P9 la hTO (by rw[ca];intro z;injection z with z;revert z;decide),P9 la e1 (by rw[ca,c1];intro z;injection z with z;revert z;decide),P9 la e2 (by rw[ca,c2];intro z;injection z with z;revert z;decide),
   P9 lb hz (by rw[cb];intro z;injection z with z;revert z;decide),P9 lb hTO (by rw[cb];intro z;injection z with z;revert z;decide),P9 lb e1 (by rw[cb,c1];intro z;injection z with z;revert z;decide),P9 lb e2 (by rw[cb,c2];intro z;injection z with z;revert z;decide)⟩
  refine wpAny_pyNext_zip_item D hz hTI hTO h1 h2 pa.isList pb.isList (x:=ux) (y:=uy) (by simpa using hux) (by simpa using huy) fun h3 a1 a2 a3 a4 a5 a6 hk=>?_
  refine⟨_,rfl,?_⟩
  refine wpAny_letOwnedTupleGo_zip (s:={ s with heap:=h3 }) a1 fun h4 hz4 hs4=>?_
  have hs4:Heap.SameBut z h3 h4:=hs4
  have lz:z≠s.heap.objs.size:=u7 (l3 hz)
  have fl:∀c∈[z,TI,TO,i1,i2],c≠s.heap.objs.size:=fun c hc=>by
   simp only[d5,o6,or_false]at hc
   rcases hc with rfl | rfl | rfl | rfl | rfl
   ·exact lz
   ·exact u7 (l3 hTI)
   ·exact u7 (l3 hTO)
   ·exact u7 (l3 e1)
   ·exact u7 (l3 e2)
  have I2:=I.pairL (h':=h4) (t':=s.toks) (x:=x) (y:=y) (u:=ux) (v:=uy) hf fl rux ruy ((hs4.2 _ (Ne.symm lz)).trans a5) fun c o hc q=>by
   have m1:c≠z:=fun z=>hc (by simp[z])
   have m3:c≠TO:=fun z=>hc (by simp[z])
   have m4:c≠i1:=fun z=>hc (by simp[z])
   have m5:c≠i2:=fun z=>hc (by simp[z])
   exact(hs4.2 c m1).trans (hk c o m1 m3 m4 m5 q)
  refine⟨.ref s.heap.objs.size,_,I2,rfl,⟨_,x,y,I.fresh,rfl,rfl,fun zs hy=>by rw[I.list_inj hy hqa];exact hx,fun zs hy'=>by rw[I.list_inj hy' hqb];exact hy⟩,
   ⟨hz4,hs4.extBut _ _ n1 (hk _ _ n1 n5 n6 n7 hTI),⟨_,_,hs4.extBut _ _ n2 a2⟩,a3.extBut hs4.extBut n3,a4.extBut hs4.extBut n4⟩,fun c hc=>?_⟩
  rw[l7 (fl c hc)];exact(hf c hc).1
 done:=by
  intro X hP hw hK hc i pins s σ H E I hf st hg
  subst hP hw hK
  obtain⟨hz,hTI,⟨u,v,hTO⟩,h1,h2⟩:=st
  obtain⟨xs,ys,hqa,hqb,hx⟩:=hg
  obtain⟨ia,ra,pa,za⟩:=I.list hqa
  obtain⟨ib,rb,pb,zb⟩:=I.list hqb
  obtain⟨oa,la,ca,_⟩:=id pa.isList
  obtain⟨ob,lb,cb,_⟩:=id pb.isList
  obtain⟨o1,e1,c1,_⟩:=id h1
  obtain⟨o2,e2,c2,_⟩:=id h2
  have D:ZipApart z TI TO i1 i2 a b:=⟨n1,n2,n3,n4,n5,n6,n7,n8,n9,n10,
   P9 la hz (by rw[ca];intro z;injection z with z;revert z;decide),P9 la hTO (by rw[ca];intro z;injection z with z;revert z;decide),P9 la e1 (by rw[ca,c1];intro z;injection z with z;revert z;decide),P9 la e2 (by rw[ca,c2];intro z;injection z with z;revert z;decide),
   P9 lb hz (by rw[cb];intro z;injection z with z;revert z;decide),P9 lb hTO (by rw[cb];intro z;injection z with z;revert z;decide),P9 lb e1 (by rw[cb,c1];intro z;injection z with z;revert z;decide),P9 lb e2 (by rw[cb,c2];intro z;injection z with z;revert z;decide)⟩
  have la':=ra.length
  have lb':=rb.length
  have hend:ia.toArray[i]? = none\/ib.toArray[i]? = none:=by
   rcases hx with hx | hx
   ·left;simp;omega
   ·right;simp;omega
  refine wpAny_pyNext_zip_end (I.ok.hd hc) D hz hTI hTO h1 h2 pa.isList pb.isList hend fun h' hk=>⟨rfl,?_⟩
  refine I.turnedL (t':=s.toks) (fp:=[z,TI,TO,i1,i2]) (fun c o hc q=>?_) hf
  exact hk c o (fun z=>hc (by simp[z])) (fun z=>hc (by simp[z])) (fun z=>hc (by simp[z])) (fun z=>hc (by simp[z])) q
 self:=fun _ _ _ _ _ st h=>wpAny_pyIter_zip st.1 h
def c1H(K:Fg)(ta:TA):TI:=fun σ H R=>ta σ H fun vs H1=>∃a b,vs=[.ref a,.ref b]/\(∃xs,SqL K H1 a xs)/\(∃xs,SqL K H1 b xs)/\R (Itz K a b) H1
theorem c3J{x1}{a b:Expr}{ta:TA}(hg:Gl X "zip")(hm:X.mg "zip" = none)(ha:PA X [a,b] ta)(hs:i8 [a,b] X.env=[(false,eval a X.env),(false,eval b X.env)]:=by rfl)(hs2:i8 [b] X.env=[(false,eval b X.env)]:=by rfl) :
  PI X (.Tuple elts x1 tp) (.Call (.Name "zip" p) [a,b] [] pos) (c1H X.K ta):=by
 intro pins s σ H R I h
 refine Call_ (a4v I hg hm boot_zip (L3 (thn (ha pos pins s σ H _ I h) fun us s1 ⟨vs,H1,I1,r1,q1⟩=>?_) (by rw[hs,hs2]) (by rw[hs2];rfl)))
 obtain⟨c,d,e,⟨xs,hq⟩,⟨ys,hq'⟩,q⟩:=q1
 subst e
 cases r1 with
 | cons r rr=>
  cases rr with
  | cons r' rr=>
   cases rr
   cases r
   cases r'
   obtain⟨ia,ra,pa,za⟩:=I1.list hq
   obtain⟨ib,rb,pb,zb⟩:=I1.list hq'
   refine call_zip_2 pa.isList pb.isList fun h' hz hTI hTO h1 h2 hsz hk=>?_
   have I2:Inv X pins σ H1 { s1 with heap:=h' }:=I1.kept (t':=s1.toks) hk
   have N:∀n:Nat,n+2≠n+4/\n+3≠n+4/\n≠n+4/\n+1≠n+4/\n+2≠n+3/\n+2≠n/\n+2≠n+1/\n+3≠n/\n+3≠n+1/\n≠n+1:=fun n=>by omega
   obtain⟨m1,m2,m3,m4,m5,m6,m7,m8,m9,m10⟩:=N s1.heap.objs.size
   refine wpAny_pyIter_zip hz ⟨_,[s1.heap.objs.size+4,s1.heap.objs.size+2,s1.heap.objs.size+3,s1.heap.objs.size,s1.heap.objs.size+1],_,_,H1,rfl,I2,
    b7H c d (s1.heap.objs.size+4) (s1.heap.objs.size+2) (s1.heap.objs.size+3) s1.heap.objs.size (s1.heap.objs.size+1) m1 m2 m3 m4 m5 m6 m7 m8 m9 m10,⟨hz,hTI,⟨_,_,hTO⟩,h1,h2⟩,fun y hy=>?_,q⟩
   have:s1.heap.objs.size<=y:=by
    simp only[d5,o6,or_false]at hy
    rcases hy with rfl | rfl | rfl | rfl | rfl
    ·exact a4C _ _
    ·exact a4C _ _
    ·exact a4C _ _
    ·exact g9 _
    ·exact a4C _ _
   exact I1.fpOk this (I1.hok.fresh this)
end
def b1u(x y:Str)(N:List Str):List Str:=N.map fun z=>if z=x then ("." : Str)++x else if z=y then ("." : Str)++y else z
def Q3(X:Cx)(scope:Scope)(cl:List (Str×Addr))(C:Addr)(x y:Str)(fp:List Addr)(s3:l5)(H3:Hp):Cx:=
 { X with N:=x::y::b1u x y X.N,s₀:=s3,H₀:=H3,env:=b7c scope cl C X.env,outer:=X.stack,stack:=X.stack,ex:=fp,fn:=fun _=>false,pn:=[],xe:=fun _ _=>False }
structure a2E(N:List Str)(osc sc:Scope)(x y:Str):Prop where
 kind:sc.kind=.function
 cell:∀y∈sc.names,y.2≠.cell
 names:∀y∈sc.names,y.2=.local->sc.names.lookup y.1=some .local
 own:sc.names.lookup x=some .local
 own2:sc.names.lookup y=some .local
 fr:∀y∈sc.names,y.2=.free->osc.names.lookup y.1=some .cell\/osc.names.lookup y.1=some .free
 see:∀z∈b1u x y N,sc.names.lookup z≠some .local
 dot:sc.names.lookup (("." : Str)++x)=none
 dot2:sc.names.lookup (("." : Str)++y)=none
 nd:(x::y::b1u x y N).Nodup
def a6P(K:Fg)(wi:TI)(tt:TT)(te:TE):TE:=fun σ H Q=>wi σ H fun J H1=>∀D,H1 D=none->∃W:Nat->Nat->List V->Hp->Prop,
 (∃m,W 0 m [] (upd H1 D (.lst [])))/\∀i m ys H2,W i m ys H2->H2 D=some (.lst ys) /\
  ((J.stop i H2 /\ Q (.ref D) H2) \/ (J.go i H2 /\ ∀ x H3,J.yld i H2 x H3 -> ∃ a u v,x = .ref a /\ SqT K H3 a [u,v] /\ tt (some u :: some v :: σ) H3 fun ok H4 => if ok = true then
    te (some u::some v::σ) H4 (fun y H5=>H5 D=some (.lst ys)/\ys.length<q9/\∃m',m'<m/\W (i+1) m' (ys++[y]) (upd H5 D (.lst (ys++[y]))))
    else ∃m',m'<m/\W (i+1) m' ys H4))
section
variable {x x2:Str}{px py2 pt:Pos}{kt}
theorem b6K{s3:l5}{h4:Heap}{tk:Nat}(hc:a2E X.N X.env.scope scope x x2)(I:Inv X pins σ H s3)
  (hcl:∀y c,cl.lookup y=some c->X.env.cells.lookup y=some c) (hcl2:∀y,(y,NameKind.free)∈scope.names->(cl.lookup y).isSome=true)
  (fpo:∀b∈fp,a4V X pins H b) (fpl:∀b∈fp,b<s3.heap.objs.size)
  (hn:h4.Ns s3.heap.objs.size (fun _=>none)) (k:∀b o,s3.heap.get? b=some o->h4.get? b=some o) :
  Inv (Q3 X scope cl s3.heap.objs.size x x2 fp s3 H) [] (none::none::σ) H { s3 with heap:=h4,toks:=tk }:=by
 have low:∀x y,(Q3 X scope cl s3.heap.objs.size x x2 fp s3 H).env.cells.lookup y=cl.lookup y:=fun _ _=>rfl
 have below:∀y c,cl.lookup y=some c->c<s3.heap.objs.size:=fun y c e=>by
  obtain⟨v,q⟩:=I.cell y c (hcl y c e)
  exact q.lt
 have kinds:∀y,((Q3 X scope cl s3.heap.objs.size x x2 fp s3 H).env.kindOf y=some .cell\/(Q3 X scope cl s3.heap.objs.size x x2 fp s3 H).env.kindOf y=some .free)->scope.names.lookup y=some .free:=by
  intro y hy
  rcases hy with hy | hy
  ·rcases M5 hy with q | ⟨q,_⟩
   ·exact absurd rfl (hc.cell _ (C4 q))
   ·exact q
  ·rcases M5 hy with q | ⟨q,z⟩
   ·exact q
   ·cases z
 refine⟨⟨I.ok.mod,?_,I.ok.glob,I.ok.blt,g9 _,fun y z c h1 h2=>?_,fun y hy=>?_,fun y c h=>?_,I.ok.hd,I.ok.frames,.inl rfl,fun b hb=>⟨?_,fun y c e z=>?_⟩,fun b o e=>I.bs b o e,F6 I.ok.bsz I.sz,fun b o e hb=>?_,fun b hb hf=>?_,I.stack,I.stkFree⟩,
  rfl,I.bare,Un.kept k,⟨_,hn,fun i y v h1 h2 h3=>?_⟩,fun y c e=>?_,I.fresh,fun y c e=>?_,fun p hp=>absurd (show p∈([]:List (Addr×Obj))from hp) (by simp),I.hok.kept k,?_⟩
 ·exact hc.kind
 ·exact I.ok.inj y z c (hcl _ _ h1) (hcl _ _ h2)
 ·have:=hcl2 y (C4 (kinds y hy))
  exact U8.mp this
 ·cases h
 ·exact u7 (fpl b hb)
 ·exact(fpo b hb).2.2.2.2.1 y c (hcl y c e) z
 ·rcases(fpo b hb).2.2.2.1 with q | q
  ·exact I.ok.noex b o e q
  ·exact absurd (A8 (l3 (I.ok.bs b o e).1) q) (G0 _)
 ·rcases d5.mp (I.stkSub b hf)with e | e
  ·exact(fpo b hb).2.1 e
  ·exact(fpo b hb).2.2.1 e
 ·-- the names
  have h1:(x::x2::b1u x x2 X.N)[i]? = some y:=h1
  cases i with
  | zero=>cases h2
  | succ i=>
   cases i with
   | zero=>cases h2
   | succ i=>
   have h1:(b1u x x2 X.N)[i]? = some y:=h1
   have h2:σ[i]? = some (some v):=h2
   have my:y∈b1u x x2 X.N:=V1 h1
   have h3:(a6J scope X.env).names.lookup y=some .local\/(a6J scope X.env).names.lookup y=some .cell\/(a6J scope X.env).names.lookup y=some .free:=h3
   have hf:scope.names.lookup y=some .free:=by
    rcases h3 with q | q
    ·rcases M5 q with q | ⟨_,z⟩
     ·exact absurd q (hc.see y my)
     ·cases z
    ·exact kinds y q
   have hy:X.N[i]? = some y:=by
    unfold b1u at h1
    rw[c9]at h1
    cases e:X.N[i]? with
    | none=>rw[e]at h1;cases h1
    | some z=>
     rw[e]at h1
     by_cases ez:z=x
     ·rw[a4B,if_pos ez]at h1
      have h1:=Option.some.inj h1
      subst h1
      rw[hc.dot]at hf
      cases hf
     ·rw[a4B,if_neg ez]at h1
      by_cases ez2:z=x2
      ·rw[if_pos ez2]at h1
       have h1:=Option.some.inj h1
       subst h1
       rw[hc.dot2]at hf
       cases hf
      ·rw[if_neg ez2]at h1
       exact h1
   obtain⟨m,_,hl⟩:=I.loc
   obtain⟨c,hcc⟩:=U8.mp (hcl2 y (C4 hf))
   have vis:Vis X.env.scope y:=by
    rcases hc.fr _ (C4 hf) rfl with q | q
    ·exact .inr (.inl q)
    ·exact .inr (.inr q)
   obtain⟨u,ru,lk⟩:=hl i y v hy h2 vis
   refine⟨u,ru,.inr ⟨?_,c,hcc,?_⟩⟩
   ·rcases h3 with q | q
    ·rcases M5 q with q | ⟨_,z⟩
     ·exact absurd q (hc.see y my)
     ·cases z
    ·exact q
   ·have hce:=hcl y c hcc
    rcases lk with ⟨q,_⟩ | ⟨_,c',e',z⟩
    ·rcases hc.fr _ (C4 hf) rfl with q' | q'
     ·have q:X.env.scope.names.lookup y=some .local:=q
      rw[show X.env.scope.names.lookup y=some NameKind.cell from q']at q
      cases q
     ·have q:X.env.scope.names.lookup y=some .local:=q
      rw[show X.env.scope.names.lookup y=some NameKind.free from q']at q
      cases q
    ·rw[e']at hce
     cases hce
     obtain⟨o,ho,hd⟩:=z
     exact⟨o,k _ _ ho,hd⟩
 ·obtain⟨v,o,ho,hd⟩:=I.cell y c (hcl y c e)
  exact⟨v,o,k _ _ ho,hd⟩
 ·exact I.freeC y c (hcl y c e)
 ·show(none::none::σ).length=(x::x2::b1u x x2 X.N).length
  have:=I.len
  simp[b1u,this]
theorem b3l{H1:Hp}{s2:l5}{it:Addr}{tn:Nat->Heap->Prop}{J:It}{Q:VK}{E:Value->l5->Prop}
  {RR:Value->Addr->b7m->l5->Prop} (hc:a2E X.N X.env.scope scope x x2) (hcalm:X.calm=true)
  (hcl:∀y c,cl.lookup y=some c->X.env.cells.lookup y=some c) (hcl2:∀y,(y,NameKind.free)∈scope.names->(cl.lookup y).isSome=true)
  (ht:∀C fp s3 H3,PTs (Q3 X scope cl C x x2 fp s3 H3) ifs tt) (he:∀C fp s3 H3,PE (Q3 X scope cl C x x2 fp s3 H3) elt te)
  (I:Inv X pins σ H1 s2) (T:b3x X.prog X.w X.K (.Tuple [.Name x px,.Name x2 py2] kt pt) J fp it tn) (st:tn 0 s2.heap) (fpo:∀b∈fp,a4V X pins H1 b)
  (h:∀D,H1 D=none->∃W:Nat->Nat->List V->Hp->Prop,
   (∃m,W 0 m [] (upd H1 D (.lst [])))/\∀i m ys H2,W i m ys H2->H2 D=some (.lst ys) /\
   ((J.stop i H2 /\ Q (.ref D) H2) \/ (J.go i H2 /\ ∀ x H3,J.yld i H2 x H3 -> ∃ a u v,x = .ref a /\ SqT X.K H3 a [u,v] /\ tt (some u :: some v :: σ) H3 fun ok H4 => if ok = true then
     te (some u::some v::σ) H4 (fun y H5=>H5 D=some (.lst ys)/\ys.length<q9/\∃m',m'<m/\W (i+1) m' (ys++[y]) (upd H5 D (.lst (ys++[y]))))
     else ∃m',m'<m/\W (i+1) m' ys H4)))
  (hRR:∀D C s' H' m,Inv X pins σ H' s'->s'.heap.Ns C m->H' C=none->C≠X.env.locals->X.s₀.heap.objs.size<=C->(∀y c,X.env.cells.lookup y=some c->c≠C)->(∀p∈X.pn++pins,p.1≠C)->Q (.ref D) H'->RR (.ref D) C (.ok .next) s') :
  wpAny (model X.prog X.w) X.A (newList []) (fun acc s₃=>wpAny (model X.prog X.w) X.A (newFunctionEnv scope X.env.globals cl [] X.env.qual none .none (some X.env)) (fun cenv s₄=>
   a3V (model X.prog X.w) X.A (.compStart (.ListComp elt [⟨.Tuple [.Name x px,.Name x2 py2] kt pt,iter,ifs,0⟩] scope pos) 0 (.ref it) acc { cenv with scope:=a6J scope X.env }) (RR acc cenv.locals) s₄) E s₃) E s2:=by
 refine Q0 (hd:=by size_fits) ?_
 have I3:=I.lnew (ys:=[]) (its:=[]) (t':=s2.toks) .nil (by show 0<=q9;exact J7 _)
 obtain⟨W,⟨m0,w0⟩,turn⟩:=h _ I.fresh
 generalize hD:s2.heap.objs.size=D at I3 w0 turn ⊢
 generalize hs3:({ s2 with heap:=s2.heap.push { cls:=.type "list",data:=.seq ([]:List Value).toArray } }:l5)=s3
 have hs3':({ s2 with heap:=s2.heap.push { cls:=.type "list",data:=.seq ([]:List Value).toArray },toks:=s2.toks }:l5)=s3:=hs3
 rw[hs3']at I3
 have keep3:∀b o,s2.heap.get? b=some o->s3.heap.get? b=some o:=fun b o e=>by rw[<-hs3];exact g7 _ e
 have fpl:∀b∈fp,b<s3.heap.objs.size:=fun b hb=>by
  obtain⟨o,e,_⟩:=T.obj _ _ st b hb
  exact l3 (keep3 b o e)
 have fpD:∀b∈fp,b≠D:=fun b hb z=>by
  obtain⟨o,e,_⟩:=T.obj _ _ st b hb
  exact absurd (l3 e) (by rw[z,hD];exact G0 _)
 have fpo3:∀b∈fp,a4V X pins (upd H1 D (.lst [])) b:=fun b hb=>⟨by rw[l7 (fpD b hb)];exact(fpo b hb).1,(fpo b hb).2⟩
 show wpAny _ _ _ _ _ s3
 refine c6G hc.cell (by intro y hy;simp at hy) (fun h₁ hns₁ hsb₁=>?_) hc.kind
 dsimp only[newEnv]at hns₁ hsb₁ ⊢
 have keep4:∀b o,s3.heap.get? b=some o->h₁.get? b=some o:=fun b o e=>hsb₁.extBut b o (u7 (l3 e)) (g7 _ e)
 have I4:=b6K (tk:=s3.toks+([]:List (Str×Value)).length) hc I3 hcl hcl2 fpo3 fpl hns₁ keep4
 have st4:tn 0 h₁:=T.keep _ _ _ st fun b hb o e=>keep4 b o (keep3 b o e)
 have loop:∀s₄:l5,s₄={ s3 with heap:=h₁,toks:=s3.toks+([]:List (Str×Value)).length } ->
   a3V (model X.prog X.w) X.A (.compLoop (.ListComp elt [⟨.Tuple [.Name x px,.Name x2 py2] kt pt,iter,ifs,0⟩] scope pos) 0 (.ref it) (.ref D) (b7c scope cl s3.heap.objs.size X.env)) (RR (.ref D) s3.heap.objs.size) s₄:=by
  rintro s₄ rfl
  have stat:∀ {H':Hp},(∀b∈fp,H' b=none)->∀b∈fp,a4V (Q3 X scope cl s3.heap.objs.size x x2 fp s3 (upd H1 D (.lst []))) [] H' b:=fun hn b hb=>
   ⟨hn b hb,u7 (fpl b hb),fun hf=>by
    rcases d5.mp (I3.stkSub b hf)with e | e
    ·exact(fpo b hb).2.1 e
    ·exact(fpo b hb).2.2.1 e,.inl hb,fun y c e=>(fpo b hb).2.2.2.2.1 y c (hcl y c e),fun p hp=>absurd (show p∈([]:List (Addr×Obj))from hp) (by simp)⟩
  refine b0n (env:=b7c scope cl s3.heap.objs.size X.env) (fun n s'=>∃i ys H',Inv (Q3 X scope cl s3.heap.objs.size x x2 fp s3 (upd H1 D (.lst []))) [] (none::none::σ) H' s'/\tn i s'.heap/\(∀b∈fp,H' b=none)/\W i n ys H') ?_ m0
   ⟨0,[],_,I4,st4,fun b hb=>(fpo3 b hb).1,w0⟩
  rintro n s5 ⟨i,ys,H5,I5,st5,fr5,w5⟩
  obtain⟨hDy,alt⟩:=turn i n ys H5 w5
  rcases alt with ⟨stop,q⟩ | ⟨go,step⟩
  ·refine a0K (T.done (Q3 X scope cl s3.heap.objs.size x x2 fp s3 (upd H1 D (.lst []))) rfl rfl rfl hcalm i [] s5 _ H5 (fun _ _=>False) I5 (stat fr5) st5 stop) (fun r s6 ⟨hr,I6⟩=>?_) fun _ _ f=>f
   subst hr
   obtain⟨m6,n6,_⟩:=I6.loc
   have J6:Inv X pins σ H5 s6:=by
    refine I3.call' (ch:=fp) I6.os I6.base I6.hok I6.bare fun b hb=>?_
    obtain⟨_,f1,f2,f3,f4,f5⟩:=fpo3 b hb
    exact⟨f3,f1,f4,f5⟩
   refine hRR D _ s6 H5 m6 J6 n6 I6.free (a4Z I3.lt) I3.sz (fun y c e z=>?_) (fun p hp z=>?_) q
   ·obtain⟨v,q⟩:=I3.cell y c e
    exact absurd q.lt (by rw[z];exact G0 _)
   ·exact absurd (l3 (I3.pin p hp).1) (by rw[z];exact G0 _)
  ·refine a0K (T.item (Q3 X scope cl s3.heap.objs.size x x2 fp s3 (upd H1 D (.lst []))) rfl rfl rfl hcalm i [] s5 _ H5 (fun _ _=>False) I5 (stat fr5) st5 go) (fun r s6 ⟨u,hr,h6⟩=>?_) fun _ _ f=>f
   subst hr
   refine thn h6 fun _ s6 ⟨xv,H6,I6,r6,y6,st6,fr6⟩=>?_
   have I6':=I6.pinned (stat fr6) (T.obj _ _ st6)
   obtain⟨pa,u1,u2,rfl,hsq,step⟩:=step xv H6 y6
   have hpg:PG (Q3 X scope cl s3.heap.objs.size x x2 fp s3 (upd H1 D (.lst []))) (.Tuple [.Name x px,.Name x2 py2] kt pt) (b1v X.K 2 (a1A (u4 0) (a1A (u4 1) b1w))):=
    b8D (X:=Q3 X scope cl s3.heap.objs.size x x2 fp s3 (upd H1 D (.lst []))) hcalm (a8P (b1c (i:=0) hc.nd rfl (.inl (a0P hc.own)) (.inr (a0P hc.own))) (a8P (b1c (i:=1) hc.nd rfl (.inl (a0P hc.own2)) (.inr (a0P hc.own2))) b5q))
   refine thn (hpg _ s6 (none::none::σ) H6 (.ref pa) u (fun σ' H'=>σ'=some u1::some u2::σ/\H'=H6) I6' r6 ⟨pa,[u1,u2],rfl,hsq,rfl,_,_,rfl,_,_,rfl,rfl,rfl,rfl⟩) fun _ s7 ⟨σ7,H7,I7,e7,e7'⟩=>?_
   subst e7 e7'
   have again:∀ {s8:l5} {H8:Hp} {ys8:List V},Inv (Q3 X scope cl s3.heap.objs.size x x2 fp s3 (upd H1 D (.lst []))) ([]++a5A fp s6.heap) (some u1::some u2::σ) H8 s8->(∃m',m'<n/\W (i+1) m' ys8 H8) ->
     ∃m,m<n/\∃i ys H',Inv (Q3 X scope cl s3.heap.objs.size x x2 fp s3 (upd H1 D (.lst []))) [] (none::none::σ) H' s8/\tn i s8.heap/\(∀b∈fp,H' b=none)/\W i m ys H':=by
    rintro s8 H8 ys8 I8 ⟨m',hm,w8⟩
    refine⟨m',hm,i+1,ys8,H8,(I8.unpinned (pins:=[])).weak rfl (fun j v e=>?_),T.keep _ _ _ st6 fun b hb o e=>(I8.pin (b,o) (z7 _ (z7 _ (a0W hb e)))).1,fun b hb=>?_,w8⟩
    ·cases j with
     | zero=>cases e
     | succ j=>
      cases j with
      | zero=>cases e
      | succ j=>exact e
    ·obtain⟨o,e,d⟩:=T.obj _ _ st6 b hb
     exact(I8.pin (b,o) (z7 _ (z7 _ (a0W hb e)))).2.1
   refine thn (ht _ fp s3 _ _ s7 _ _ _ I7 step) (fun ok s8 ⟨H8,I8,q8⟩=>?_)
   cases ok with
   | false=>exact again I8 (by simpa using q8)
   | true=>
    rw[if_pos rfl]at q8
    rw[if_pos rfl]
    refine thn (he _ fp s3 _ _ s8 _ H8 _ I8 q8) (fun v s9 ⟨y,H9,I9,r9,hD9,hz9,w9⟩=>?_)
    refine a0K (a7j (X:=Q3 X scope cl s3.heap.objs.size x x2 fp s3 (upd H1 D (.lst []))) _ s9 _ H9 (.ref D) [y] (.ref D) [v] (fun _ H'=>H'=upd H9 D (.lst (ys++[y]))) I9 rfl (.cons r9 .nil) ⟨D,ys,y,rfl,rfl,hD9,hz9,rfl⟩) (fun _ s10 ⟨_,H10,I10,_,e10⟩=>?_) fun _ _ f=>f
    subst e10
    exact again I10 w9
 exact c5r (loop _ rfl) (T.self X.A 0 _ _ _ st4 (loop _ rfl))
theorem b3k(hc:a2E X.N X.env.scope scope x x2)(I:Inv X pins σ H s):∀y∈scope.names,y.2=.free->∃c,X.env.cells.lookup y.1=some c:=by
 intro y hy e
 rcases hc.fr y hy e with q | q
 ·exact I.ok.has y.1 (.inl q)
 ·exact I.ok.has y.1 (.inr q)
theorem b8J{wi:TI}(hc:a2E X.N X.env.scope scope x x2)(hcalm:X.calm=true)(hi:PI X (.Tuple [.Name x px,.Name x2 py2] kt pt) iter wi)
  (ht:∀cl C fp s3 H3,PTs (Q3 X scope cl C x x2 fp s3 H3) ifs tt) (he:∀cl C fp s3 H3,PE (Q3 X scope cl C x x2 fp s3 H3) elt te)
  (hs:∀x,U6 iter X.env x=pure x:=by intro _;rfl) :
  PE X (.ListComp elt [⟨.Tuple [.Name x px,.Name x2 py2] kt pt,iter,ifs,0⟩] scope pos) (a6P X.K wi tt te):=by
 intro pins s σ H Q I h
 obtain⟨cl,hclos,hcl,hcl2⟩:=a5M (b3k hc I)
 rw[eval_ListComp]
 refine a5T (use:=none) rfl hs hclos hc.kind hc.names (thn (hi pins s σ H _ I h) fun v s1 h1=>thn h1 fun itv s2 ⟨it,fp,tn,J,H2,e,I2,T,st,fpo,R⟩=>?_)
 subst e
 refine b3l (RR:=fun acc C=>compPost (model X.prog X.w) X.A X.xe none (EP X pins σ Q) acc C) (Q:=Q) hc hcalm hcl hcl2 (ht cl) (he cl) I2 T st fpo R ?_
 intro D C s' H' m I' n f1 f2 f3 f4 f5 q
 exact⟨m,n,fun h' sb=>⟨.ref D,H',I'.turned (t':=s'.toks) (fun b o hb e=>(sb.2 b hb).trans e) f1 f2 (.inr f3) f4 f5,rfl,q⟩⟩
end
section
variable {x x2:Str}{px py2 pt:Pos}{kt:Nat}
end
section
def b8u:List V->Hp->VK->Prop:=fun xs H Q=>match xs with
 | [.int i,.int j]=>Q (.int (if j<i then j else i)) H
 | _=>False
theorem b6Q(hc:X.calm=true):W0 X (.builtin "min") b8u:=(b6W hc).imp fun xs H Q h=>by
 unfold b8u at h
 split at h
 ·exact⟨_,_,rfl,h⟩
 ·exact h.elim
theorem b6X:∀bs:List Bool,((E7 bs.length).any fun i=>(bs[i]?).getD false)=bs.any id:=by
 intro bs
 induction bs with
 | nil=>rfl
 | cons b r ih=>
  rw[C0,List.range_succ_eq_map,P3,List.any_map,P3]
  rw[<-ih]
  rfl
def b4p:List V->Hp->VK->Prop:=fun vs H Q=>match vs with
 | [.ref l]=>match H l with
  | some (.lst xs)=>∃bs,T8 xs=some bs/\Q (.bl (bs.any id)) H
  | _=>False
 | _=>False
theorem b6T(hc:X.calm=true):W0 X (.builtin "any") b4p:=fun pins s σ H xs us Q I r h=>by
 unfold b4p at h
 split at h
 ·split at h
  ·rename_i l _ ys hl
   obtain⟨bs,e,q⟩:=h
   obtain⟨u,rfl,ru⟩:=a3Z r
   cases ru
   obtain⟨its,rv,pl,hz⟩:=I.list (SqL.of hl)
   have hlt:l<s.heap.objs.size:=by obtain⟨_,e,_⟩:=pl.isList;exact l3 e
   have hlen:=rv.length
   have hbl:=a7q e
   refine call_any_walk (b3K pl.isList ?_)
   refine⟨s.heap.objs.size,[s.heap.objs.size,l],[s.heap.objs.size],its.toArray.size,_,_,fun i=>(bs[i]?).getD false,rfl,Walks.list (A:=X.A.in1) (I.ok.hd hc) _ l (u7 hlt) its.toArray,
    ⟨⟨_,y7 _ rfl,rfl,rfl⟩,pl.isList.push _⟩,fun i v s' Q' E' hP hQ=>?_,fun h' tk hk=>?_⟩
   ·have hP:its[i]? = some v:=by simpa using hP
    have hi:i<ys.length:=by rw[hlen];exact(o3.mp hP).1
    have ey:ys[i]? = some ys[i]:=by simp[hi]
    obtain⟨b,eb,ez⟩:=a7r e ey
    obtain⟨u,eu,ru⟩:=rv.get ey
    rw[hP]at eu
    cases eu
    rw[ez]at ru
    cases ru
    simp only[eb,a3M]at hQ
    exact J0 hQ
   ·have e2:((E7 its.toArray.size).any fun i=>(bs[i]?).getD false)=bs.any id:=by
     rw[o0,<-hlen,hbl]
     exact b6X bs
    rw[e2]
    exact⟨.bl _,H,I.kept (t':=tk) fun b x e=>hk b x (fun hm=>by rw[g8.mp hm]at e;exact G0 _ (l3 e)) (g7 _ e),rfl,q⟩
  ·exact h.elim
 ·exact h.elim
def a1x:List V->Option (List Int)
 | []=>some []
 | .int i::r=>(a1x r).map (i :: ·)
 | _=>none
theorem a9b(ns:List Int):a1x (ns.map V.int)=some ns:=by
 induction ns with
 | nil=>rfl
 | cons s r ih=>simp[a1x,ih]
theorem a4x:∀ {xs:List V} {us:List Value} {ss:List Int},E4 xs us->a1x xs=some ss->c2N us ss
 | _,_,ss,.nil,e=>by cases e;exact .nil
 | x::xs,_,ss,.cons r t,e=>by
  cases x with
  | int s=>
   obtain⟨k,rfl⟩:=r
   cases e2:a1x xs with
   | none=>simp[a1x,e2]at e
   | some ss2=>
    simp[a1x,e2]at e
    subst e
    exact .cons _ _ (a4x t e2)
  | _=>simp[a1x]at e
def a4K:List V->Hp->VK->Prop:=fun vs H Q=>match vs with
 | [.ref l]=>match H l with
  | some (.lst xs)=>∃ns,a1x xs=some ns/\ns.length<64/\∀(p:Addr) (ms:List Int),ms.Perm ns->ms.Pairwise (· <= ·)->H p=none->Q (.ref p) (upd H p (.lst (ms.map V.int)))
  | _=>False
 | _=>False
theorem b1H:W0 X (.builtin "sorted") a4K:=fun pins s σ H xs us Q I r h=>by
 unfold a4K at h
 split at h
 ·split at h
  ·rename_i l _ ys hl
   obtain⟨ns,e,hn,q⟩:=h
   obtain⟨u,rfl,ru⟩:=a3Z r
   cases ru
   obtain⟨its,rv,pl,hz⟩:=I.list (SqL.of hl)
   have hi:=a4x rv e
   have hil:=hi.length
   refine sorted_ints pl.isList hi (by omega) fun out ns' a1 a2 a3=>?_
   obtain⟨c,he⟩:=sortedAll_at s.heap its out
   have hl':=a2.length_eq
   refine⟨.ref _,_,I.laid (t':=s.toks) (a:=s.heap.objs.size+1) (o:=.lst (ns'.map V.int)) (fun b ob q=>sortedAll_old q) (W1 _) ?_,rfl,q _ ns' a2 a3 (I.hok.fresh (W1 _))⟩
   refine⟨by rw[b7,sizeLine_eq];omega,out.toList,c,a6L a1,?_⟩
   exact he
  ·exact h.elim
 ·exact h.elim
def a7a:V->List V->Hp->VK->Prop:=fun x vs H Q=>match x,vs with
 | .ref l,[.int k]=>match H l with
  | some (.lst xs)=>∃ns,a1x xs=some ns/\ns.length<10000/\k∈ns/\Q (.int (ns.idxOf k:Nat)) H
  | _=>False
 | _,_=>False
theorem b6v:MtR X "list.index" a7a:=fun pins s σ H x xs v us Q I rx rv h=>by
 unfold a7a at h
 split at h
 ·split at h
  ·rename_i l k _ ys hl
   obtain⟨ns,e,hn,hk,q⟩:=h
   cases rx
   obtain⟨u,rfl,⟨t,rfl⟩⟩:=rv.one
   obtain⟨its,r,pl,hz⟩:=I.list (SqL.of hl)
   have hi:=a4x r e
   obtain⟨⟨cls,dd,data,sl⟩,ho,hc,n,hd⟩:=id pl.isList
   simp only at hc hd
   subst hc hd
   have hlen:=hi.length
   have hj:ns.idxOf k<ns.length:=b3H.mpr hk
   refine c2k b2b ⟨_,ho,rfl⟩ PySem.F.entry_list_index (PySem.F.args_list_index_2 _ _)
    (PySem.SeqAt.list_indexAt l its.toArray n dd sl (.int k t) (isInt k) (ns.idxOf k) (by simpa[hlen]using hj) (by omega) ?_ ?_) ⟨ho,fun y hy=>(eq_isInt k t hi y (by simpa using hy)).at _ _,⟨.int _,H,I.tok _,⟨_,rfl⟩,q⟩⟩
   ·show isInt k its[ns.idxOf k]=true
    rw[isInt_at k hi _ (by omega) hj]
    simpa using List.getElem_idxOf hj
   ·intro j hjs hlt
    show isInt k its[j]=false
    rw[isInt_at k hi j (by simpa using hjs) (by omega)]
    exact ne_of_lt_idxOf hlt _
  ·exact h.elim
 ·exact h.elim
def a3r:V->List V->Hp->VK->Prop:=fun x vs H Q=>match x,vs with
 | .ref l,[.ref b]=>match H l,H b with
  | some (.lst xs),some (.lst zs)=>xs.length+zs.length<=q9/\Q .non (upd H l (.lst (xs++zs)))
  | _,_=>False
 | _,_=>False
theorem b4F:MtR X "list.extend" a3r:=fun pins s σ H x xs v us Q I rx rv h=>by
 refine b6w pins s σ H x xs v us Q I rx rv ?_
 unfold a3r at h
 split at h
 ·split at h
  ·exact⟨_,_,_,_,rfl,rfl,by assumption,by assumption,h.1,h.2⟩
  ·exact h.elim
 ·exact h.elim
def b4m:V->List V->Hp->VK->Prop:=fun x vs H Q=>match x,vs with
 | .ref l,[]=>match H l with
  | some (.lst xs)=>∃y,xs[xs.length - 1]? = some y/\Q y (upd H l (.lst xs.dropLast))
  | _=>False
 | _,_=>False
theorem c1y:MtR X "list.pop" b4m:=fun pins s σ H x xs v us Q I rx rv h=>by
 refine c4w pins s σ H x xs v us Q I rx rv ?_
 unfold b4m at h
 split at h
 ·split at h
  ·obtain⟨y,e,q⟩:=h
   exact⟨_,_,y,rfl,rfl,by assumption,e,q⟩
  ·exact h.elim
 ·exact h.elim
def a4l:List V->Hp->VK->Prop:=fun xs H Q=>match xs with
 | [.ref p]=>match H p with
  | some (.dK kvs)=>∀l,H l=none->Q (.ref l) (upd H l (.lst (kvs.map fun kv=>kV kv.1)))
  | _=>False
 | _=>False
theorem c6r{P:C2}{k:Key}(r:(Q2 P w).is k u=true):E1 (kV k) u:=by
 rcases Q7 (show a9a k u=true from r)with ⟨i,t,rfl,rfl⟩ | ⟨x,t,rfl,rfl⟩
 ·exact⟨t,rfl⟩
 ·exact⟨t,rfl⟩
theorem b0B:∀ {xs:List V} {us:List Value},xs.length=us.length->(∀(i:Nat) x u,xs[i]? = some x->us[i]? = some u->E1 x u)->E4 xs us
 | [],[],_,_=>.nil
 | x::xs,u::us,hl,h=>.cons (h 0 x u rfl rfl) (b0B (by simpa using hl) fun i y v a b=>h (i+1) y v (by simpa using a) (by simpa using b))
 | [],u::us,hl,_=>by cases hl
 | x::xs,[],hl,_=>by cases hl
theorem c2C:∀ {l:List (Key×V)} {la:List (Key×Value)} {i:Nat} {k:Key} {x:Value},KV l la->la[i]? = some (k,x)->∃y,l[i]? = some (k,y)
 | p::l,q::la,0,k,x,h,e=>by
  have h:Paired _ _ _:=h
  cases h with
  | cons h t=>
   cases e
   exact⟨p.2,by rw[a3Q];rw[show k=p.1 from h.1.symm]⟩
 | p::l,q::la,i+1,k,x,h,e=>by
  have h:Paired _ _ _:=h
  cases h with
  | cons h t => 
   obtain⟨y,hy⟩:=c2C (i:=i) (show KV l la from t) (by simpa using e)
   exact⟨y,by simpa using hy⟩
 | [],la,i,k,x,h,e=>by
  have h:Paired _ _ _:=h
  cases h
  cases e
 | p::l,[],i,k,x,h,e=>by
  have h:Paired _ _ _:=h
  cases h
theorem b3u(hc:X.calm=true):W0 X (.type "list") a4l:=fun pins s σ H xs us Q I r h=>by
 unfold a4l at h
 split at h
 ·split at h
  ·rename_i p _ kvs hp
   obtain⟨u,rfl,ru⟩:=a3Z r
   cases ru
   obtain⟨hz,hS,vs,rk,hD⟩:=b3g I.hok hp
   obtain⟨ep,hat⟩:=hD.dictAt
   have hl:=Paired.length rk
   refine b9S (PySem.W.kdl_dict (knd:=Q2 X.prog X.w) (kvs:=vs) (ep:=ep) hS) (I.ok.hd hc) hat (by omega) fun h' tk acc c hk ha hit=>?_
   refine⟨.ref _,_,I.laid (t':=tk) (a:=s.heap.objs.size) (o:=.lst (kvs.map fun kv=>kV kv.1)) hk (g9 _) ?_,rfl,h _ (I.hok.fresh (g9 _))⟩
   refine⟨by rw[b7];exact hz,acc.toList,c,?_,by simpa using ha⟩
   refine b0B (by have:=hit.1;rw[b7];simp;omega) fun i x u a b=>?_
   obtain⟨k,y,e1,e2⟩:=hit.2 i u (by rw[<-O1];exact b)
   obtain⟨z,e3⟩:=c2C rk e1
   rw[c9,e3]at a
   cases a
   exact c6r e2
  ·exact h.elim
 ·exact h.elim
inductive Dq(K:Fg)(H:Hp):Nat->V->V->Prop
 | flat {n:Nat} {x:V}:K7 x=true->Dq K H n x x
 | tup {n:Nat} {a b:Addr} {xs ys:List V}:SqT K H a xs->SqT K H b ys->xs.length=ys.length->(∀(j:Nat) x y,xs[j]? = some x->ys[j]? = some y->Dq K H n x y)->Dq K H (n+1) (.ref a) (.ref b)
 | lst {n:Nat} {a b:Addr} {xs ys:List V}:SqL K H a xs->SqL K H b ys->xs.length=ys.length->(∀(j:Nat) x y,xs[j]? = some x->ys[j]? = some y->Dq K H n x y)->Dq K H (n+1) (.ref a) (.ref b)
theorem b9n{x:V}(h:K7 x=true):eqV x x=true:=by
 cases x with
 | non=>rfl
 | bl b=>simp[eqV]
 | int i=>simp[eqV]
 | str s=>simp[eqV]
 | byt b=>cases h
 | flt b=>cases h
 | ref a=>cases h
 | ty n=>cases h
theorem a6C{n:Nat}:(E7 n).all (fun _=>true)=true:=by simp
theorem Dq.both(I:Inv X pins σ H s){n:Nat}{x y:V}(d:Dq X.K H n x y):∀ {A:G8} {v u:Value},A.units+n<cLine->E1 x v->E1 y u ->
  SeqAt.EqAt A s v u true/\(∀a b,x=.ref a->y=.ref b->SeqAt.RcAt A s v u true/\SeqAt.RcNeAt A s v u false):=by
 induction d with
 | @flat n x hf=>
  intro A v u hu rv ru
  refine⟨?_,fun a b e=>by subst e;cases hf⟩
  have:=a9f (A:=A) (s:=s) rv ru hf hf
  rwa [b9n hf]at this
 | @tup n a b xs ys ha hb hl hq ih=>
  intro A v u hu rv ru
  cases rv
  cases ru
  obtain⟨us,r1,t1,_⟩:=I.tuple ha
  obtain⟨ws,r2,t2,_⟩:=I.tuple hb
  have l1:=r1.length
  have l2:=r2.length
  have el:∀j (h1:j<us.toArray.size) (h2:j<ws.toArray.size),SeqAt.EqAt A.in1 s us.toArray[j] ws.toArray[j] true:=by
   intro j h1 h2
   have h1':j<xs.length:=by simpa[l1]using h1
   have h2':j<ys.length:=by simpa[l2]using h2
   obtain⟨u1,e1,q1⟩:=r1.get (i:=j) (x:=xs[j]) (by simp)
   obtain⟨u2,e2,q2⟩:=r2.get (i:=j) (x:=ys[j]) (by simp)
   have z1:us.toArray[j]=u1:=by
    have:=(o3.mp e1).2
    simpa using this
   have z2:ws.toArray[j]=u2:=by
    have:=(o3.mp e2).2
    simpa using this
   rw[z1,z2]
   exact(ih j _ _ (by simp) (by simp) (A:=A.in1) (by show A.units+1+n<cLine;omega) q1 q2).1
  have c1:SeqAt.RcAt A s (.ref a) (.ref b) true:=by
   have q:=SeqAt.RcAt.tuples (A:=A) (e:=fun _=>true) t1 t2 (by omega) el
   have e:us.toArray.size=ws.toArray.size:=by simp[<-l1,<-l2,hl]
   rw[a6C,e,beq_self_eq_true]at q
   exact q
  have c2:SeqAt.RcNeAt A s (.ref a) (.ref b) false:=by
   have q:=SeqAt.RcNeAt.tuples (A:=A) (e:=fun _=>true) t1 t2 (by omega) el
   have e:us.toArray.size=ws.toArray.size:=by simp[<-l1,<-l2,hl]
   rw[a6C,e,beq_self_eq_true]at q
   exact q
  refine⟨?_,fun _ _ _ _=>⟨c1,c2⟩⟩
  by_cases e:a=b
  ·subst e;exact SeqAt.EqAt.same _
  ·exact SeqAt.EqAt.of_refs e c1
 | @lst n a b xs ys ha hb hl hq ih=>
  intro A v u hu rv ru
  cases rv
  cases ru
  obtain⟨us,r1,t1,_⟩:=I.list ha
  obtain⟨ws,r2,t2,_⟩:=I.list hb
  have l1:=r1.length
  have l2:=r2.length
  have el:∀j (h1:j<us.toArray.size) (h2:j<ws.toArray.size),SeqAt.EqAt A.in1 s us.toArray[j] ws.toArray[j] true:=by
   intro j h1 h2
   have h1':j<xs.length:=by simpa[l1]using h1
   have h2':j<ys.length:=by simpa[l2]using h2
   obtain⟨u1,e1,q1⟩:=r1.get (i:=j) (x:=xs[j]) (by simp)
   obtain⟨u2,e2,q2⟩:=r2.get (i:=j) (x:=ys[j]) (by simp)
   have z1:us.toArray[j]=u1:=by
    have:=(o3.mp e1).2
    simpa using this
   have z2:ws.toArray[j]=u2:=by
    have:=(o3.mp e2).2
    simpa using this
   rw[z1,z2]
   exact(ih j _ _ (by simp) (by simp) (A:=A.in1) (by show A.units+1+n<cLine;omega) q1 q2).1
  have e:us.toArray.size=ws.toArray.size:=by simp[<-l1,<-l2,hl]
  have c1:SeqAt.RcAt A s (.ref a) (.ref b) true:=by
   have q:=SeqAt.RcAt.lists (A:=A) (e:=fun _=>true) t1.isList t2.isList e (by omega) el
   rw[a6C]at q
   exact q
  have c2:SeqAt.RcNeAt A s (.ref a) (.ref b) false:=by
   have q:=SeqAt.RcNeAt.lists (A:=A) (e:=fun _=>true) t1.isList t2.isList e (by omega) el
   rw[a6C]at q
   exact q
  refine⟨?_,fun _ _ _ _=>⟨c1,c2⟩⟩
  by_cases e:a=b
  ·subst e;exact SeqAt.EqAt.same _
  ·exact SeqAt.EqAt.of_refs e c1
def c0B(K:Fg):R2:=fun x y H Q=>∃a b n,x=.ref a/\y=.ref b/\n<=20/\Dq K H n x y/\Q (.bl true) H
theorem c1j{k:Nat}(hr:P7 k X.A):OpR X (u6 .Eq) (c0B X.K):=by
 intro pins s σ H x y v u Q I rx ry ⟨a,b,n,e1,e2,hn,d,q⟩
 have hu:=hr.units
 exact((d.both I (A:=X.A) (by omega) rx ry).2 a b e1 e2).1 _ _ _ _ ⟨.bl true,H,I,rfl,q⟩
def c3x(K:Fg):R2:=fun x y H Q=>∃a b xs ys,x=.ref a/\y=.ref b/\SqT K H a xs/\SqT K H b ys/\xs.all K7=true/\ys.all K7=true/\Q (.bl (a0Y xs ys)) H
theorem c1l{k:Nat}(hr:P7 k X.A):OpR X (u6 .Eq) (c3x X.K):=by
 intro pins s σ H x y v u Q I rx ry ⟨a,b,xs,ys,e1,e2,ha,hb,fx,fy,q⟩
 have hu:=hr.units
 subst e1 e2
 cases rx
 cases ry
 obtain⟨us,r1,t1,_⟩:=I.tuple ha
 obtain⟨ws,r2,t2,_⟩:=I.tuple hb
 have l1:=r1.length
 have l2:=r2.length
 have q1:=SeqAt.RcAt.tuples (A:=X.A) t1 t2 (by omega) (a6w r1 r2 fx fy)
 simp only[o0,<-l1,<-l2]at q1
 exact q1 _ _ _ _ ⟨.bl (a0Y xs ys),H,I,rfl,q⟩
def c3u(K:Fg):R2:=fun x y H Q=>∃p xs,y=.ref p/\SqT K H p xs/\K7 x=true/\xs.all K7=true/\Q (.bl (inV x xs)) H
theorem c1h:OpR X (u6 .In) (c3u X.K):=b0g.imp fun x y H Q ⟨p,xs,e,h1,h2,h3,q⟩=>⟨p,xs,e,.inr h1,h2,h3,q⟩
theorem b8A{e c:Option Expr}:PS X (.Raise e c pos) (fun _ _ _=>False):=fun _ _ _ _ _ _ h=>h.elim
structure b3A(P:C2)(w:World)(K:Fg)(mg:Str->Option Value)(base:Heap)(k:Nat)(x:Str)(C:Addr)(ps:List Str)(sp:Sp):Prop where
 ex:∃f fd,K0 P w K mg base CX0 k f fd ps sp/\mg x=some (.ref C)/\Mk K C f/\a3L K fd ps []
theorem c6f{k j:Nat}{x:Str}{C:Addr}{e:Expr}{es:List Expr}{t:TA}{p:Pos}(M:b3A X.prog X.w X.K X.mg X.base k x C ps sp)(hr:P7 j X.A)(hk:k+1<=j)(hg:Gl X x)(ha:PA X (e::es) t)
  (hdb:(x == ("__debug__" : Str))=false:=by decide) (he:i8 (e::es) X.env=(false,eval e X.env)::i8 es X.env:=by rfl) (hpl:(W8 pos (i8 es X.env)).any (·.1)=false:=by rfl) :
  PE X (.Call (.Name x p) (e::es) [] pos) (a8z C sp [] E0 t):=by
 obtain⟨f,fd,F,hm,hM,hb⟩:=M.ex
 exact c0V hM F (hr.mono hk) hg hm hb .nil b8N ha hdb he hpl
structure a8g(P:C2)(w:World)(K:Fg)(mg:Str->Option Value)(base:Heap)(k:Nat)(m:Str)(C:Addr)(ps:List Str)(sp:Sp):Prop where
 ex:∃f fd,K0 P w K mg base CX0 k f fd ps sp/\Cls K C/\c5c K C m f/\a3L K fd ps []
theorem c3T{pl:Sem Bool}{k j:Nat}{m:Str}{C:Addr}{o e:Expr}{es:List Expr}{ta:TE}{t:TA}{apos:Pos}(M:a8g X.prog X.w X.K X.mg X.base k m C ps sp)(hr:P7 j X.A)(hk:k<=j)(ho:PE X o ta)(ha:PA X (e::es) t)
  (hst:i8 (e::es) X.env=(false,eval e X.env)::i8 es X.env:=by rfl) (hpl:(W8 pos (i8 es X.env)).any (·.1)=false:=by rfl)
  (ht:eval (.Call (.Attribute o m apos) (e::es) [] pos) X.env=(do
   let ov <-eval o X.env
   b7j apos.atName
   let(f,first) <-a3U [ov] (b7k ov m pl)
   callWith pos f first (W8 pos (i8 (e::es) X.env)) (a9t pos (a2G [] X.env))):=by rfl) :
  PE X (.Call (.Attribute o m apos) (e::es) [] pos) (b0c C m sp [] E0 ta t):=by
 obtain⟨f,fd,F,c,hm,hb⟩:=M.ex
 exact c0U (pl:=pl) ho c hm F (hr.mono hk) hb .nil b8N ha hst hpl ht
end
theorem a6k{env:Env}:∀ {names:List (Str×a5d)} {y:Str},names.lookup y=some .free ->
  (names.map fun(n,k)=>if(k == NameKind.free&&env.scope.kind == .function&&env.kindOf n == some .cell)then (n,NameKind.cell)else (n,k)).lookup y=some .cell \/
  (names.map fun(n,k)=>if(k == NameKind.free&&env.scope.kind == .function&&env.kindOf n == some .cell)then (n,NameKind.cell)else (n,k)).lookup y=some .free
 | [],_,h=>by cases h
 | (n,k0)::r,y,h=>by
  have ih := @a6k env r y
  rw[F1]at h
  rw[E8]
  dsimp only
  cases hx:y == n with
  | true=>
   rw[hx]at h
   cases h
   by_cases hc:(NameKind.free == NameKind.free&&env.scope.kind == .function&&env.kindOf n == some .cell)=true
   ·rw[if_pos hc,F1,hx];exact .inl rfl
   ·rw[if_neg hc,F1,hx];exact .inr rfl
  | false=>
   rw[hx]at h
   by_cases hc:(k0 == NameKind.free&&env.scope.kind == .function&&env.kindOf n == some .cell)=true
   ·rw[if_pos hc,F1,hx];exact ih h
   ·rw[if_neg hc,F1,hx];exact ih h
theorem b5t{sc1 sc:Scope}(h:∀y∈sc.names,y.2=.free->sc1.names.lookup y.1=some .free):∀y∈sc.names,y.2=.free->(a6J sc1 env).names.lookup y.1=some .cell\/(a6J sc1 env).names.lookup y.1=some .free:=
 fun y hy e=>a6k (h y hy e)
end L2
namespace PySem
open Sem (wp)
namespace F
end F
section
variable {prog:C2}{w:World}{A:G8}{E:Value->l5->Prop}{h:Heap}{g:Array GenState}{d:Drawn}{t:Nat}{os:OsState}{a:Addr}{xs:Array Value}{n:Nat}{sl:Array (Option Value)}
end
end PySem
namespace PySem
open Sem (wp)
namespace F
end F
section
variable {prog:C2}{w:World}{K:Type}[DecidableEq K]{knd:KeyKind prog w K}{A:G8}{s:l5}{R:b7m->l5->Prop}
end
section
variable {prog:C2}{w:World}{K:Type}[DecidableEq K]{knd:KeyKind prog w K}{A:G8}{E:Value->l5->Prop}{s:l5}
end
end PySem
namespace L2
open PySem PySem.Spec PyProof.Rows
section
variable {X:Cx}
end
section
variable {X:Cx}{tg:Expr}
end
section
variable {X:Cx}
end
section
variable {X:Cx}
end
structure IsC(K:Fg)(C:Addr):Prop where
 cl:Cls K C
 ha:D7 K (.ref C) "__class__" = some (some (.builtin "object.__class__"))
 hn:a7u K (.builtin "object.__class__") "__get__" = some (some (.builtin "getset_descriptor.__get__"))
 htk:b9Y K (.builtin "object.__class__")=some true
 hm:c2H K C (.type "object")=some true
section
variable {P:C2}{w:World}{K:Type}[DecidableEq K]{knd:HeapKind P w K}{A:G8}{E:Value->l5->Prop}{s:l5}
end
section
variable {X:Cx}
theorem c2D{H:Hp}:∀ {l:List (List Key×V)} {m:List (List Key×Addr×Value)} {i:Nat} {k:List Key} {p:Addr} {v:Value},KT H l m->m[i]? = some (k,p,v)->∃y,l[i]? = some (k,y)/\E1 y v/\H p=some (.tup (k.map kV))
 | c::l,d::m,0,k,p,v,h,e=>by
  have h:Paired _ _ _:=h
  cases h with
  | cons h t=>
   obtain⟨h1,h2,h3⟩:=h
   cases e
   have h1:c.1=k:=h1
   rw[h1]at h2
   exact⟨c.2,by rw[a3Q,<-h1],h3,h2⟩
 | c::l,d::m,i+1,k,p,v,h,e=>by
  have h:Paired _ _ _:=h
  cases h with
  | cons h t=>exact c2D (i:=i) (show KT H l m from t) e
 | [],m,i,k,p,v,h,e=>by
  have h:Paired _ _ _:=h
  cases h
  cases e
 | c::l,[],i,k,p,v,h,e=>by
  have h:Paired _ _ _:=h
  cases h
end
end L2
namespace PySem
open Sem (wp)
section
variable {prog:C2}{w:World}{A:G8}{E:Value->l5->Prop}{s:l5}
def Raw(h:Heap)(d:Addr)(es:Array a1U)(ep:Nat):Prop:=∃o,h.get? d=some o/\o.ExactDict/\o.data=.dict es ep
theorem Raw.at{h h':Heap}{d:Addr}{es:Array a1U}{ep:Nat}(x:Raw h d es ep)(e:∀o,h.get? d=some o->h'.get? d=some o):Raw h' d es ep:=let⟨o,h1,r⟩:=x; ⟨o,e _ h1,r⟩
theorem Raw.typeIs{d:Addr}{es:Array a1U}{ep:Nat}(x:Raw s.heap d es ep):s.TypeIs (.ref d) "dict" := let⟨o,h1,h2,_⟩:=x; ⟨o,h1,h2.1⟩
theorem iter_raw{d:Addr}{es:Array a1U}{ep:Nat}{Q:Value->l5->Prop}(hd:(d == W7)=false)(hm:Raw s.heap d es ep)
  (hQ:Q (.ref s.heap.objs.size) { s with heap:=s.heap.push { cls:=.type "dict_keyiterator",data:=.fields #[.ref d,.int 0 0,.int es.size 0,.int ep 0] } }):wpAny (model prog w) A (pyIter (.ref d)) Q E s:=by
 have hT:=hm.typeIs
 obtain⟨o,ho,hc,hdat⟩:=id hm
 refine wpAny_pyIter_slot hT F.slot_dict_iter (a3g F.slot_dict_iter hT F.entry_dict_iter ?_ (F.args_dict_iter_1 _))
 unfold Builtin.«dict.__iter__» Builtin.Dict.dictSlotNone
 refine d4 (d4 (wpAny_notOrdered_dict hT (u0 ?_)))
 show wpAny _ _ (Builtin.Dict.showsAll d >>= _) _ _ s
 unfold Builtin.Dict.showsAll
 simp only[hd,a7O,if_false]
 refine d4 (u0 (d4 (b3L ho hdat (d4 (b7i ho hdat (d4 (Q0 (u0 ⟨_,rfl,"dict_keyiterator",_,⟨_,y7 _ rfl,rfl⟩,F.slot_dict_keyiterator_next.lookup,?_⟩))))))))
 simpa[rawInt]using hQ
theorem next_raw{it d:Addr}{i ep:Nat}{es:Array a1U}{Q:Option Value->l5->Prop}(hit:s.heap.IsKeyIter it d i es.size ep)(hm:Raw s.heap d es ep)(hi:i<es.size)
  (hQ:∀h',h'.IsKeyIter it d (i+1) es.size ep->Heap.SameBut it s.heap h'->Q (some es[i].key) { s with heap:=h' }):wpAny (model prog w) A (c5w (.ref it)) Q E s:=by
 have hT:=hit.typeIs
 obtain⟨o,ho,hc,hd⟩:=id hit
 obtain⟨od,hod,_,hdd⟩:=hm
 have own:Builtin.Dict_items.ownsTuple "dict_keyiterator" = false:=by decide
 unfold c5w
 refine d4 (wpAny_attempt (a6I (name:=Str.ofString "__next__") hT F.slot_dict_keyiterator_next (a3g F.slot_dict_keyiterator_next hT F.entry_dict_keyiterator_next ?_ (F.args_dict_keyiterator_next_1 _))))
 refine d4 (u0 (d4 (d4 (d4 (Z8 hT (u0 (d4 (wpAny_fieldsOf ho hd ?_))))))))
 simp only[own,a7O,if_false]
 show wpAny _ _ (if(Value.ref d == Value.none)=true then _ else _) _ _ s
 have nn:¬(Value.ref d == Value.none)=true:=(t6:¬false=true)
 rw[if_neg nn]
 refine d4 (u0 (d4 (b3L hod hdd ?_)))
 rw[if_neg (by simp)]
 refine d4 (u0 (d4 (b7i hod hdd ?_)))
 rw[if_neg (by simp)]
 refine u0 ?_
 simp only[show ¬((i:Int)<0) by omega,if_false,z9,a0m hi]
 refine d4 (d4 (Z8 hT (u0 (d4 (c5u hT ?_)))))
 show wpAny _ _ (setField (.ref it) 1 (rawInt ((i:Int)+1)) >>= _) _ _ s
 refine d4 (wpAny_setField ho hd (by simp) ?_)
 have hit':(s.heap.update it (Obj.mapFields (·.setIfInBounds 1 (rawInt ((i:Int)+1))))).IsKeyIter it d (i+1) es.size ep:=
  ⟨_,a5q _ ho (Obj.isFreed_of_fields (Obj.data_mapFields hd _)),(Obj.cls_mapFields ..).trans hc,by rw[Obj.data_mapFields hd];simp[rawInt]⟩
 refine d4 (a1R (d4 (c5u (s:={ s with heap:=s.heap.update it (Obj.mapFields (·.setIfInBounds 1 (rawInt ((i:Int)+1)))) }) hit'.typeIs ?_)))
 show wpAny _ _ (pure es[i].key) _ _ _
 exact u0 (u0 ⟨_,rfl,u0 (hQ _ hit' (b1X ..))⟩)
theorem end_raw{it d:Addr}{i ep:Nat}{es:Array a1U}{Q:Option Value->l5->Prop}(hh:A.handled=none)(hit:s.heap.IsKeyIter it d i es.size ep)(hm:Raw s.heap d es ep)(hi:es.size<=i)
  (hQ:∀h',Heap.ExtBut it s.heap h'->Q none { s with heap:=h' }):wpAny (model prog w) A (c5w (.ref it)) Q E s:=by
 have hT:=hit.typeIs
 obtain⟨o,ho,hc,hd⟩:=id hit
 obtain⟨od,hod,_,hdd⟩:=hm
 have own:Builtin.Dict_items.ownsTuple "dict_keyiterator" = false:=by decide
 unfold c5w
 refine d4 (wpAny_attempt (a6I (name:=Str.ofString "__next__") hT F.slot_dict_keyiterator_next (a3g F.slot_dict_keyiterator_next hT F.entry_dict_keyiterator_next ?_ (F.args_dict_keyiterator_next_1 _))))
 refine d4 (u0 (d4 (d4 (d4 (Z8 hT (u0 (d4 (wpAny_fieldsOf ho hd ?_))))))))
 simp only[own,a7O,if_false]
 show wpAny _ _ (if(Value.ref d == Value.none)=true then _ else _) _ _ s
 have nn:¬(Value.ref d == Value.none)=true:=(t6:¬false=true)
 rw[if_neg nn]
 refine d4 (u0 (d4 (b3L hod hdd ?_)))
 rw[if_neg (by simp)]
 refine d4 (u0 (d4 (b7i hod hdd ?_)))
 rw[if_neg (by simp)]
 refine u0 ?_
 simp only[show ¬((i:Int)<0) by omega,if_false,z9,Array.getElem?_eq_none hi]
 refine d4 (d4 (Z8 hT (u0 ?_)))
 show wpAny _ _ (setField (.ref it) 0 .none >>= _) _ _ s
 refine d4 (wpAny_setField ho hd (by simp) ?_)
 refine d4 ?_
 simp only[newExc,newTuple]
 refine d4 (Q0 ?_ (by size_fits))
 refine d4 (m:=firstArgMember _ _) (wpAny_of_eq (a:=Value.none) (by simp only[firstArgMember];rfl) (Q0 ?_ (by size_fits)))
 simp only[raiseNew]
 refine d4 (wpAny_handled ?_)
 rw[show A.in1.handled=none from hh]
 refine d4 (u0 (wpAny_throw ?_))
 refine d4 (wpAny_isInstance (T := "StopIteration") (b:=true) (show Shared.TypeIs _ (.ref _) _ from⟨_,y7 _ rfl,rfl⟩) isSubtype_stop (u0 (hQ _ ?_)))
 exact((b1X ..).extBut.push _).push _
theorem walks_raw(hh:A.handled=none)(I d:Addr)(hne:d≠I)(es:Array a1U)(ep:Nat) :
  Walks prog w A I [I,d] [I] es.size (fun i v=>∃e,es[i]? = some e/\v=e.key) (fun i h=>h.IsKeyIter I d i es.size ep/\Raw h d es ep) where
 sub:=fun b hb=>by simp at hb;simp[hb]
 frame:=fun _ _ _ st hk=>⟨st.1.at fun o e=>hk I (by simp) o e,st.2.at fun o e=>hk d (by simp) o e⟩
 item:=fun i s Q E hi st hQ=>next_raw st.1 st.2 hi fun h' hit' hs'=>hQ _ h' s.toks ⟨_,a0m hi,rfl⟩ ⟨hit',st.2.at fun o e=>hs'.extBut d o hne e⟩ fun b o hb e=>hs'.extBut b o (fun h=>hb (by simp[h])) e
 done:=fun s Q E st hQ=>end_raw hh st.1 st.2 (g9 _) fun h' he'=>hQ h' s.toks fun b o hb e=>he' b o (fun h=>hb (by simp[h])) e
 self:=fun _ _ _ _ st hQ=>wpAny_pyIter_keyiter st.1 hQ
theorem list_raw{d:Addr}{es:Array a1U}{ep:Nat}(lo:(d == W7)=false):PySem.W.KdlSrc prog w "dict" d d es.size (fun i v=>∃e,es[i]? = some e/\v=e.key) (fun h=>Raw h d es ep) where
 type:=fun s hm=>Raw.typeIs (s:=s) hm
 there:=fun _ ⟨_,h1,_⟩=>⟨l3 h1,l3 h1⟩
 keep:=fun _ _ hm hk=>hm.at fun o e=>hk d (.inl rfl) o e
 notList:=by decide
 notTuple:=by decide
 hint:=fun _ _ _ _ hm hq=>PySem.W.kdl_hint_dict (Raw.typeIs hm) hq
 iter:=fun _ _ hh hm=>⟨_,_,(fun _ _ hq=>iter_raw lo hm hq),walks_raw hh _ d (u7 (let⟨_,h1,_⟩:=hm;l3 h1)) es ep,⟨⟨_,y7 _ rfl,rfl,rfl⟩,hm.at fun _ e=>g7 _ e⟩⟩
end
end PySem
namespace L2
open PySem PySem.Spec PyProof.Rows
section
variable {X:Cx}
def b9I(H:Hp)(bs:List Addr)(ks:List (List Key)):Prop:=bs.length=ks.length/\∀(i:Nat) b k,bs[i]? = some b->ks[i]? = some k->H b=some (.tup (k.map kV))
def b4n:List V->Hp->VK->Prop:=fun xs H Q=>∃p kvs,xs=[.ref p]/\H p=some (.dT kvs)/\∀bs:List Addr,b9I H bs (kvs.map (·.1))->∀l,H l=none->Q (.ref l) (upd H l (.lst (bs.map V.ref)))
theorem c1E{H:Hp}{kvs:List (List Key×V)}{xs:List (List Key×Addr×Value)}(r:KT H kvs xs):b9I H (xs.map (·.2.1)) (kvs.map (·.1)):=by
 have hl:=Paired.length r
 refine⟨by rw[b7,b7,hl],fun i b k e1 e2=>?_⟩
 rw[c9]at e1 e2
 obtain⟨⟨k',p,v⟩,f1,g1⟩:=z8.mp e1
 obtain⟨⟨k2,y⟩,f2,g2⟩:=z8.mp e2
 obtain⟨y',f3,_,f4⟩:=c2D r f1
 rw[f2]at f3
 cases f3
 cases g1
 cases g2
 exact f4
theorem c3k{P:C2}{w:World}{H:Hp}{h:Heap}{a:Addr}{kvs:List (List Key×V)}(ok:HOk P w H h)(e:H a=some (.dT kvs)):(a == W7)=false/\∃es ep xs,Raw h a es ep/\KT H kvs xs/\es.size=xs.length/\∀(i:Nat) en,es[i]? = some en->∃x,xs[i]? = some x/\en.key=.ref x.2.1:=by
 obtain⟨_,hd,xs,r,o,es,ep,h1,h2,h3,h4,_⟩:=b9q ok e
 refine⟨hd,es,ep,xs,⟨o,h1,h2,h3⟩,r,size_of_entries h4,fun i en he=>?_⟩
 rw[<-O1,h4,c9]at he
 obtain⟨x,hx,rfl⟩:=z8.mp he
 exact⟨x,hx,rfl⟩
theorem b3t(hc:X.calm=true):W0 X (.type "list") b4n:=fun pins s σ H xs us Q I r h=>by
 obtain⟨p,kvs,rfl,hp,q⟩:=h
 obtain⟨u,rfl,ru⟩:=a3Z r
 cases ru
 obtain⟨hz,_,_⟩:=b9q I.hok hp
 obtain⟨hS,es,ep,ys,hR,rk,hs,hk⟩:=c3k I.hok hp
 have hl:=Paired.length rk
 refine b9S (list_raw (es:=es) (ep:=ep) hS) (I.ok.hd hc) hR (by omega) fun h' tk acc c hkp ha hit=>?_
 have ka:=c1E rk
 refine⟨.ref _,_,I.laid (t':=tk) (a:=s.heap.objs.size) (o:=.lst ((ys.map (·.2.1)).map V.ref)) hkp (g9 _) ?_,rfl,q _ ka _ (I.hok.fresh (g9 _))⟩
 refine⟨by rw[b7,b7];omega,acc.toList,c,?_,by simpa using ha⟩
 refine b0B (by have:=hit.1;rw[b7,b7];simp;omega) fun i x u a b=>?_
 obtain⟨en,e1,e2⟩:=hit.2 i u (by rw[<-O1];exact b)
 obtain⟨z,e3,e4⟩:=hk i en e1
 rw[c9,c9,e3]at a
 cases a
 rw[e2,e4]
 rfl
end
end L2
namespace PySem
open Sem (wp)
section
variable {prog:C2}{w:World}{K:Type}[DecidableEq K]{knd:HeapKind prog w K}{A:G8}{s:l5}{R:b7m->l5->Prop}
end
section
variable {prog:C2}{w:World}{K:Type}[DecidableEq K]{knd:HeapKind prog w K}{A:G8}{E:Value->l5->Prop}{s:l5}
end
end PySem
namespace L2
open PySem PySem.Spec PyProof.Rows
variable{X:Cx}{pins:List (Addr×Obj)}{σ:St}{H:Hp}{s:l5}
section
end
section
variable {a:Addr}
end
abbrev XE:=List Key×Addr×V
section
variable {a b:Addr}{xs:List XE}{k:List Key}
end
section
variable {i o:Expr}{ti to:TE}
end
section
end
section
variable {a:Addr}
end
section
def c2a(H:Hp)(x:V):Prop:=K7 x=true\/∃a zs,x=.ref a/\H a=some (.tup zs)
def eqP(x y:V):Bool:=if K7 x=true then eqV x y else false
def a8N(xs ys:List V):Bool:=(E7 (min xs.length ys.length)).all (fun j=>eqP (xs.getD j .non) (ys.getD j .non))&&xs.length == ys.length
theorem b5o{xs ys:List V}{us ws:List Value}(I:Inv X pins σ H s)(hu:X.A.units+1<cLine)(rx:E4 xs us)(ry:E4 ys ws)(fx:∀z∈xs,c2a H z)(fy:ys.all K7=true) :
  ∀j (h1:j<us.toArray.size) (h2:j<ws.toArray.size),SeqAt.EqAt X.A.in1 s us.toArray[j] ws.toArray[j] (eqP (xs.getD j .non) (ys.getD j .non)):=by
 intro j h1 h2
 have l1:=rx.length
 have l2:=ry.length
 have g1:j<us.length:=by simpa using h1
 have g2:j<ws.length:=by simpa using h2
 have e1:xs[j]? = some (xs[j]'(by omega)):=by simp
 have e2:ys[j]? = some (ys[j]'(by omega)):=by simp
 obtain⟨u,hu',ru⟩:=rx.get e1
 obtain⟨w,hw,rw'⟩:=ry.get e2
 have z1:us.toArray[j]=u:=by
  rw[d8 g1]at hu'
  simpa using hu'
 have z2:ws.toArray[j]=w:=by
  rw[d8 g2]at hw
  simpa using hw
 have q1:xs.getD j .non=xs[j]'(by omega):=by simp[N4,e1]
 have q2:ys.getD j .non=ys[j]'(by omega):=by simp[N4,e2]
 rw[z1,z2,q1,q2]
 have fy':=M3.mp fy _ (D6 (show j<ys.length by omega))
 generalize xs[j]'(by omega)=x at ru e1
 generalize ys[j]'(by omega)=y at rw' fy'
 unfold eqP
 rcases fx x (V1 e1)with f | ⟨a,zs,rfl,ha⟩
 ·rw[if_pos f]
  exact a9f ru rw' f fy'
 ·rw[if_neg (by intro z;cases z)]
  obtain⟨its,_,tp,_⟩:=I.tuple (SqT.of ha)
  cases ru
  have hu2:X.A.in1.units<cLine:=hu
  cases y with
  | non=>cases rw';exact SeqAt.EqAt.tuple_none tp hu2
  | bl b=>cases rw';exact SeqAt.EqAt.tuple_bool b tp hu2
  | int i=>obtain⟨t,rfl⟩:=rw';exact SeqAt.EqAt.tuple_int i t tp hu2
  | str x=>obtain⟨t,rfl⟩:=rw';exact SeqAt.EqAt.tuple_str x t tp hu2
  | _=>cases fy'
def c3w:R2:=fun x y H Q=>∃a b xs ys,x=.ref a/\y=.ref b/\H a=some (.tup xs)/\H b=some (.tup ys)/\(∀z∈xs,c2a H z)/\ys.all K7=true/\Q (.bl (a8N xs ys)) H
def c3t:R2:=fun x y H Q=>∃a b xs ys,x=.ref a/\y=.ref b/\H a=some (.tup xs)/\H b=some (.tup ys)/\(∀z∈xs,c2a H z)/\ys.all K7=true/\Q (.bl (!a8N xs ys)) H
theorem c1k(hu:X.A.units+1<cLine):OpR X (u6 .Eq) c3w:=by
 intro pins s σ H x y v u Q I rx ry ⟨a,b,xs,ys,e1,e2,ha,hb,fx,fy,q⟩
 subst e1 e2
 cases rx
 cases ry
 obtain⟨us,r1,t1,_⟩:=I.tuple (SqT.of ha)
 obtain⟨ws,r2,t2,_⟩:=I.tuple (SqT.of hb)
 have l1:=r1.length
 have l2:=r2.length
 have z:=SeqAt.RcAt.tuples (A:=X.A) t1 t2 (by omega) (b5o I hu r1 r2 fx fy)
 simp only[o0,<-l1,<-l2]at z
 exact z _ _ _ _ ⟨.bl _,H,I,rfl,q⟩
theorem c1e(hu:X.A.units+1<cLine):OpR X (u6 .NotEq) c3t:=by
 intro pins s σ H x y v u Q I rx ry ⟨a,b,xs,ys,e1,e2,ha,hb,fx,fy,q⟩
 subst e1 e2
 cases rx
 cases ry
 obtain⟨us,r1,t1,_⟩:=I.tuple (SqT.of ha)
 obtain⟨ws,r2,t2,_⟩:=I.tuple (SqT.of hb)
 have l1:=r1.length
 have l2:=r2.length
 have z:=SeqAt.RcNeAt.tuples (A:=X.A) t1 t2 (by omega) (b5o I hu r1 r2 fx fy)
 simp only[o0,<-l1,<-l2]at z
 exact z _ _ _ _ ⟨.bl _,H,I,rfl,q⟩
theorem a9X:∀ {us:List Value} {ss:List Str},StrsAre us ss->E4 (ss.map V.str) us
 | _,_,.nil=>.nil
 | _,_,.cons _ _ h=>.cons ⟨_,rfl⟩ (a9X h)
def b4l:List V->Hp->VK->Prop:=fun vs H Q=>∃l ss,vs=[.ref l]/\H l=some (.lst (ss.map V.str))/\ss.length<64/\∀(p:Addr) (ts:List Str),ts.Perm ss->H p=none->Q (.ref p) (upd H p (.lst (ts.map V.str)))
theorem b3s:W0 X (.builtin "sorted") b4l:=fun pins s σ H xs us Q I r h=>by
 obtain⟨l,ss,rfl,hl,hn,q⟩:=h
 obtain⟨u,rfl,ru⟩:=a3Z r
 cases ru
 obtain⟨its,rv,pl,hz⟩:=I.list (SqL.of hl)
 have hi:=a8A rv (b3X ss)
 have hil:=rv.length
 rw[b7]at hil
 refine sorted_strs pl.isList hi (by omega) fun out ts a1 a2 a3=>?_
 obtain⟨c,he⟩:=sortedAll_at s.heap its out
 have hl':=a2.length_eq
 have hv:=a9X a1
 refine⟨.ref _,_,I.laid (t':=s.toks) (a:=s.heap.objs.size+1) (o:=.lst (ts.map V.str)) (fun b ob q=>sortedAll_old q) (W1 _) ?_,rfl,q _ ts a2 (I.hok.fresh (W1 _))⟩
 refine⟨by rw[b7,sizeLine_eq];omega,out.toList,c,hv,?_⟩
 exact he
end
theorem b6u:typeLookup (.type "list_reverseiterator") "__len__" = pure none:=by rw[typeLookup_type,c5y];kernel_rfl
theorem b9i:typeLookup (.type "list_reverseiterator") "__length_hint__" = pure (some (.builtin "list_reverseiterator.__length_hint__")):=by rw[typeLookup_type,c5y];kernel_rfl
section
variable {prog:C2}{w:World}{A:G8}{E:Value->l5->Prop}{r l:Addr}{items:Array Value}
abbrev c2b(items:Array Value):Nat->Value->Prop:=fun i v=>items[items.size - 1 - i]? = some v
theorem b8p{Q:Bool->l5->Prop}(hT:s.TypeIs (.ref r) "list_reverseiterator")(h:Q false s):wpAny (model prog w) A (Builtin.List.listLengthHint (.ref r)) Q E s:=by
 unfold Builtin.List.listLengthHint
 refine d4 (wpAny_specialOf hT b6u ?_)
 show wpAny _ A (specialOf (Value.ref r) (Str.ofString "__length_hint__") >>= _) _ _ _
 refine d4 (wpAny_specialOf hT b9i ?_)
 generalize hid:("list_reverseiterator.__length_hint__" : String)=id0
 wp_delta
 rw[show splitId id0=some ("list_reverseiterator","__length_hint__")from by subst hid;decide +kernel]
 subst hid
 refine d4 (wpAny_isInstance (b:=true) hT (by rw[isSubtype_type];kernel_rfl) ?_)
 exact u0 h
theorem b4k{R:b7m->l5->Prop}(hh:A.handled=none)(hit:s.heap.IsRevIter r l ((items.size:Int) - 1))(hl:s.heap.IsList l items)(hne:l≠r)(S:Addr)(hSr:S≠r)(hSl:S≠l)(res:Value)(c₀:Nat)(hS:s.heap.get? S=some { cls:=.type "list",data:=.seq #[] c₀ })
  (hR:∀h' tk acc' c',(∀b o,b≠S->b≠r->s.heap.get? b=some o->h'.get? b=some o)->h'.get? S=some { cls:=.type "list",dict:=none,data:=.seq acc' c',slots := #[] }->ItemsOf (c2b items) acc' items.size->R (.ok (.ret res)) { s with heap:=h',toks:=tk }) (hn:items.size<=q9) :
  wpAny (model prog w) A.in1 (Builtin.List.listExtendWith (.ref S) (.ref r) res)
   (fun fin s'=>match fin with | .done f=>R (.ok f) s' | .again c'=>c'.quiet=true/\a3V (model prog w) A c' R s') (fun e s'=>R (.error e) s') s:=by
 have W:=Walks.listRev (prog:=prog) (w:=w) (A:=A.in1) hh r l hne items
 have hSf:S∉[r,l]:=by simp only[d5,o6,or_false,not_or];exact⟨hSr,hSl⟩
 have h1:Builtin.List.listSameRef (.ref S) (.ref r)=false:=by simp[Builtin.List.listSameRef,hSr]
 have hz:(items.size:Int) - 1 - ((0:Nat):Int)=(items.size:Int) - 1:=by omega
 unfold Builtin.List.listExtendWith
 refine d4 (wpAny_typeOf hit.typeIs ?_)
 rw[if_neg (by rw[h1];decide)]
 refine d4 (wpAny_pyIter_revIter hit ?_)
 refine d4 (a1R (b8p hit.typeIs ?_))
 rw[if_neg (by decide)]
 refine u0 ⟨plainId_quiet PySem.F.plain_extend_loop _,?_⟩
 refine codeAny_extend_loopS W.toS hn S hSf res items.size 0 _ #[] c₀ rfl (J7 _) ⟨J7 _,by rw[hz];exact hit,hl⟩ hS (ItemsOf.nil _) fun s' acc' c' hm hS' hacc=>?_
 rw[Moved.eq_with hm]
 exact hR s'.heap s'.toks acc' c' (fun b o hb hr e=>hm.heap b o (by simp only[d5,o6,or_false,not_or];exact⟨hb,hr⟩) e) hS' hacc
theorem b8o{R:b7m->l5->Prop}(hh:A.handled=none)(hit:s.heap.IsRevIter r l ((items.size:Int) - 1))(hl:s.heap.IsList l items)(hne:l≠r)(S:Addr)(hSr:S≠r)(hSl:S≠l)(hS:s.heap.get? S=some { cls:=.type "list",data:=.seq #[] })
  (hR:∀h' tk acc' c',(∀b o,b≠S->b≠r->s.heap.get? b=some o->h'.get? b=some o)->h'.get? S=some { cls:=.type "list",dict:=none,data:=.seq acc' c',slots := #[] }->ItemsOf (c2b items) acc' items.size->R (.ok (.ret .none)) { s with heap:=h',toks:=tk }) (hn:items.size<=q9) :
  wpAny (model prog w) A.in1 (Builtin.«list.__init__» ⟨[.ref S,.ref r],[]⟩)
   (fun fin s'=>match fin with | .done f=>R (.ok f) s' | .again c'=>c'.quiet=true/\a3V (model prog w) A c' R s') (fun e s'=>R (.error e) s') s:=by
 show wpAny _ _ (do let old <-Builtin.List.listItems (.ref S);Builtin.List.listUpdate (.ref S) (fun _ => #[]);letGo old.toList.reverse;Builtin.List.listExtendWith (.ref S) (.ref r) .none) _ _ s
 refine d4 ?_
 unfold Builtin.List.listItems
 refine d4 (wpAny_seqItems hS rfl (u0 ?_))
 show wpAny _ _ (updateSeq S (fun _ => #[]) >>= fun _=>letGo (#[]:Array Value).toList.reverse >>= fun _=>Builtin.List.listExtendWith (.ref S) (.ref r) .none) _ _ s
 refine d4 (wpAny_updateSeq hS rfl ?_)
 have hS₂:=a5q (Obj.mapSeq (fun _=>(#[]:Array Value))) hS rfl
 have oth:∀b o,b≠S->s.heap.get? b=some o->(s.heap.update S (Obj.mapSeq (fun _=>(#[]:Array Value)))).get? b=some o:=
  fun b o hb e=>(a4O _ _ (Ne.symm hb)).trans e
 refine d4 (wpAny_letGo ?_)
 refine b4k hh (hit.at fun o e=>oth _ _ hSr.symm e) (hl.at fun o e=>oth _ _ hSl.symm e) hne S hSr hSl .none _ hS₂ (fun h' tk acc' c' hk hS' hacc=>?_) hn
 exact hR h' tk acc' c' (fun b o hb hr e=>hk b o hb hr (oth b o hb e)) hS' hacc
theorem b8q{Q:Value->l5->Prop}(hh:A.handled=none)(hit:s.heap.IsRevIter r l ((items.size:Int) - 1))(hl:s.heap.IsList l items)(hne:l≠r)(hn:items.size<=q9)
  (hQ:∀h' tk acc' c',(∀b o,b≠r->s.heap.get? b=some o->h'.get? b=some o)->h'.get? s.heap.objs.size=some { cls:=.type "list",dict:=none,data:=.seq acc' c',slots := #[] }->ItemsOf (c2b items) acc' items.size->Q (.ref s.heap.objs.size) { s with heap:=h',toks:=tk }) :
  wpAny (model prog w) A (call (.type "list") [.ref r]) Q E s:=by
 refine callType_codes (Q₁:=fun obj s₁=>obj=.ref s.heap.objs.size/\s₁={ s with heap:=s.heap.push { cls:=.type "list",data:=.seq #[] } }) PySem.F.called_list (PySem.F.typeCall_list_1 _) PySem.F.entry_list_init
  (code_list_new _ ⟨rfl,rfl⟩) fun obj s₁ h₁=>?_
 obtain⟨rfl,rfl⟩:=h₁
 have hS:(s.heap.push { cls:=.type "list",data:=.seq #[] }).get? s.heap.objs.size=some { cls:=.type "list",data:=.seq #[] }:=y7 _ rfl
 have lr:r<s.heap.objs.size:=let⟨_,e,_⟩:=hit;l3 e
 have ll:l<s.heap.objs.size:=let⟨_,e,_⟩:=hl;l3 e
 refine⟨⟨_,hS,rfl⟩,PySem.F.args_list_init_2 _ _,b8o (A:=A.in1) hh (hit.at fun o e=>g7 _ e) (hl.at fun o e=>g7 _ e) hne _ (a4Z lr) (a4Z ll) hS (fun h' tk acc' c' hk hS' hacc=>?_) hn⟩
 exact⟨rfl,hQ h' tk acc' c' (fun b o hr e=>hk b o (u7 (l3 e)) hr (g7 _ e)) hS' hacc⟩
end
section
variable {e:Expr}{te:TE}{p p2 pos pos2:Pos}
def b5k(te:TE):TE:=fun σ H Q=>te σ H fun x H1=>∃a xs,x=.ref a/\H1 a=some (.lst xs)/\∀p,H1 p=none->Q (.ref p) (upd H1 p (.lst xs.reverse))
theorem b7D{xs:List V}{its:List Value}(r:E4 xs its){acc:Array Value}(h:ItemsOf (c2b its.toArray) acc its.length):E4 xs.reverse acc.toList:=by
 have e:acc.toList=its.reverse:=by
  apply c2j
  intro j
  by_cases hj:j<its.length
  ·have hz:j<acc.size:=by rw[h.1];exact hj
   have q:=h.2 j _ (a0m hz)
   rw[List.getElem?_reverse hj,O1,a0m hz]
   simpa using q.symm
  ·rw[b7a (by rw[a0q,h.1];omega),b7a (by rw[b9U];omega)]
 rw[e]
 exact r.reverse
theorem b4t(he:PE X e te)(hc:X.calm=true)(g1:Gl X "list")(m1:X.mg "list" = none)(g2:Gl X "reversed")(m2:X.mg "reversed" = none)(bl:R4 "list" = some (.type "list"))(br:R4 "reversed" = some (.type "reversed"))
  (s1:i8 [e] X.env=(false,eval e X.env)::i8 [] X.env:=by rfl):PE X (.Call (.Name "list" p) [.Call (.Name "reversed" p2) [e] [] pos2] [] pos) (b5k te):=by
 intro pins s σ H Q I h
 refine a0r (a4v I g1 m1 bl ?_ (by decide) (by decide))
 refine L3 (e:=.Call (.Name "reversed" p2) [e] [] pos2) (rest:=[]) ?_ rfl rfl
 show wpAny _ _ (spliced ((false,eval (.Call (.Name "reversed" p2) [e] [] pos2) X.env)::[])) _ _ s
 refine Calls.spliced_cons ?_
 refine a0r (a4v I g2 m2 br ?_ (by decide) (by decide))
 refine L3 (e:=e) (rest:=[]) ?_ s1 rfl
 rw[s1]
 refine Calls.spliced_cons (thn (he pins s σ H _ I h) fun u s1 hu=>?_)
 obtain⟨x,H1,I1,r1,a,xs,rfl,hl,q⟩:=hu
 cases r1
 obtain⟨its,rv,pl,hz⟩:=I1.list (SqL.of hl)
 have hil:=rv.length
 refine Calls.spliced_nil (call_reversed_list pl.isList ?_)
 refine Calls.spliced_nil ?_
 have hlt:a<s1.heap.objs.size:=let⟨_,e,_⟩:=pl.isList;l3 e
 have hsz:its.toArray.size=its.length:=by simp
 refine b8q (l:=a) (items:=its.toArray) (I1.ok.hd hc) ⟨_,y7 _ rfl,rfl,rfl⟩ (pl.isList.at fun o e=>g7 _ e) (u7 hlt) (by rw[hsz];omega) fun h' tk acc' c' hk hS hacc=>?_
 have hps:(s1.heap.push (revObj a ((its.toArray.size:Int) - 1))).objs.size=s1.heap.objs.size+1:=by simp[Heap.push]
 rw[hsz]at hacc
 refine⟨.ref _,upd H1 (s1.heap.objs.size+1) (.lst xs.reverse),I1.laid (t':=tk) (fun b u e=>hk b u (u7 (l3 e)) (g7 _ e)) (W1 _) ?_,by rw[hps];rfl,q _ (I1.hok.fresh (W1 _))⟩
 rw[hps]at hS
 exact⟨by rw[b9U];exact hz,acc'.toList,c',b7D rv hacc,by simpa using hS⟩
end
section
variable {prog:C2}{w:World}{A:G8}{E:Value->l5->Prop}{l b:Addr}{items items2:Array Value}
def EqW(prog:C2)(w:World)(A:G8)(s:l5)(y x:Value):Prop:=∀(E:Value->l5->Prop) (Q:Bool->l5->Prop),Q true s->wpAny (model prog w) A (eqBool y x) Q E s
theorem b3T{Q:Value->l5->Prop}(hl:s.heap.IsTuple l items)(hb:s.heap.IsTuple b items2)(hsz:items.size=items2.size)(hu:A.units<cLine)
  (he:∀j (h1:j<items.size) (h2:j<items2.size),EqW prog w A.in1 s items[j] items2[j]) (h:Q (.bool true) s):wpAny (model prog w) A (richCompare .Eq (.ref l) (.ref b)) Q E s:=by
 obtain⟨⟨cls,dd,data,sl⟩,ho,hc,n,hd⟩:=id hl
 obtain⟨⟨cls2,dd2,data2,sl2⟩,ho2,hc2,n2,hd2⟩:=id hb
 simp only at hc hd hc2 hd2
 subst hc hd hc2 hd2
 refine wpAny_richCompare_same_room (op:=.Eq) ⟨_,ho,rfl⟩ ⟨_,ho2,rfl⟩ b3F (a3g b3F ⟨_,ho,rfl⟩ PySem.F.entry_tuple_eq ?_ (PySem.F.args_tuple_eq_2 _ _)) hu
 obtain⟨hp,g,d,tk,os⟩:=s
 have f2:=AutoSeq1.sub_tuple_tuple
 have hZ:(items.toList.zip items2.toList).length=items.size:=by simp[hsz]
 wp_walk using wpAny_loadPart' ho,wpAny_loadPart' ho2,wpAny_forIn_list _ (fun rest b s'=>b.1=none/\s'=⟨hp,g,d,tk,os⟩/\∃i,rest=(items.toList.zip items2.toList).drop i) _
 case turn=>
  rintro⟨y,x⟩ rest b s' ⟨hb',rfl,i,hz⟩
  have hlt:i<(items.toList.zip items2.toList).length:=by
   rcases Nat.lt_or_ge i (items.toList.zip items2.toList).length with h' | h'
   ·exact h'
   ·rw[List.drop_of_length_le h']at hz;cases hz
  have h1:i<items.size:=hZ ▸ hlt
  have h2:i<items2.size:=hsz ▸ h1
  rw[List.drop_eq_getElem_cons hlt]at hz
  injection hz with hyx hrest
  have hy:y=items[i]:=by have:=congrArg Prod.fst hyx;simpa using this
  have hx:x=items2[i]:=by have:=congrArg Prod.snd hyx;simpa using this
  subst hy hx
  refine d4 (he i h1 h2 _ _ ?_)
  wp_walk
  exact⟨rfl,rfl,i+1,hrest⟩
 case fin=>
  rintro⟨b1,b2⟩ s' ⟨hb',rfl,i,hz⟩
  simp only at hb'
  subst hb'
  wp_walk
  rw[show Builtin.Tuple.tupleCompareSizes CmpOp.Eq items.size items2.size=.bool true by simp[Builtin.Tuple.tupleCompareSizes,hsz]]
  exact⟨_,rfl,(fun z=>nomatch z),h⟩
 case h=>
  exact⟨rfl,rfl,0,by simp⟩
end
section
def Dd(K:Fg)(H:Hp)(x y:V):Prop:=Dq K H 3 x y\/∃d e kvs,x=.ref d/\y=.ref e/\H d=some (.dK kvs)/\H e=some (.dK kvs)/\(kvs.map (·.1)).Nodup/\kvs.all (fun p=>K7 p.2)=true
theorem Dd.eqW(I:Inv X pins σ H s){x y:V}(d:Dd X.K H x y){A:G8}{v u:Value}(hu:A.units+3<cLine)(rx:E1 x v)(ry:E1 y u):EqW X.prog X.w A s v u:=by
 rcases d with d | ⟨a,b,kvs,rfl,rfl,h1,h2,nd,fl⟩
 ·exact fun E Q q=>(d.both I hu rx ry).1 _ _ E Q q
 ·cases rx
  cases ry
  obtain⟨_,sa,va,r1,d1⟩:=b3g I.hok h1
  obtain⟨_,sb,vb,r2,d2⟩:=b3g I.hok h2
  have l1:=Paired.length r1
  have l2:=Paired.length r2
  by_cases e:a=b
  ·subst e;exact fun E Q q=>SeqAt.EqAt.same _ _ _ E Q q
  ·intro E Q q
   unfold eqBool
   refine a1R ?_
   refine wpAny_ite_split (fun hab=>absurd (by have:=eq_of_beq hab;injection this) e) (fun _=>?_)
   refine d4 (PySem.W.keq_eq sa sb d1 d2 (by omega) (fun _=>c1J r2 nd fl r1 fun p hp=>hp) ?_)
   rw[show va.length=vb.length by omega,beq_self_eq_true,b3I]
   exact J0 q
theorem b9p(I:Inv X pins σ H s){xs ys:List V}{us ws:List Value}(r1:E4 xs us)(r2:E4 ys ws){A:G8}(hu:A.units+3<cLine)
  (h:∀(j:Nat) x y,xs[j]? = some x->ys[j]? = some y->Dd X.K H x y):∀j (h1:j<us.toArray.size) (h2:j<ws.toArray.size),EqW X.prog X.w A s us.toArray[j] ws.toArray[j]:=by
 intro j h1 h2
 have l1:=r1.length
 have l2:=r2.length
 have h1':j<xs.length:=by simpa[l1]using h1
 have h2':j<ys.length:=by simpa[l2]using h2
 obtain⟨u1,e1,q1⟩:=r1.get (i:=j) (x:=xs[j]) (by simp)
 obtain⟨u2,e2,q2⟩:=r2.get (i:=j) (x:=ys[j]) (by simp)
 have z1:us.toArray[j]=u1:=by
  have:=(o3.mp e1).2
  simpa using this
 have z2:ws.toArray[j]=u2:=by
  have:=(o3.mp e2).2
  simpa using this
 rw[z1,z2]
 exact(h j _ _ (by simp) (by simp)).eqW I hu q1 q2
def c3v(K:Fg):R2:=fun x y H Q=>∃a b xs ys,x=.ref a/\y=.ref b/\SqT K H a xs/\SqT K H b ys/\xs.length=ys.length/\(∀(j:Nat) u v,xs[j]? = some u->ys[j]? = some v->Dd K H u v)/\Q (.bl true) H
theorem c1i{k:Nat}(hr:P7 k X.A):OpR X (u6 .Eq) (c3v X.K):=by
 intro pins s σ H x y v u Q I rx ry ⟨a,b,xs,ys,e1,e2,ha,hb,hl,d,q⟩
 subst e1 e2
 cases rx
 cases ry
 have hu:=hr.units
 obtain⟨us,r1,t1,_⟩:=I.tuple ha
 obtain⟨ws,r2,t2,_⟩:=I.tuple hb
 have l1:=r1.length
 have l2:=r2.length
 exact b3T t1 t2 (by simp;omega) (by omega) (b9p I r1 r2 (A:=X.A.in1) (by show X.A.units+1+3<cLine;omega) d) ⟨.bl true,H,I,rfl,q⟩
end
end L2
namespace Y
open PySem PySem.Spec PyProof.Rows L2
structure y'E(X:Cx)(e:Expr)(t:TE):Prop where h:PE X e t
structure y'A(X:Cx)(e:List Expr)(t:TA):Prop where h:PA X e t
structure y'S(X:Cx)(e:Stmt)(t:TS):Prop where h:PS X e t
structure a9z(X:Cx)(e:List Stmt)(t:TS):Prop where h:PSs X e t
structure y'T(X:Cx)(e:Expr)(t:TT):Prop where h:PT X e t
structure y'W(X:Cx)(e:Expr)(t:TT):Prop where h:PW X e t
structure b7y(X:Cx)(e:List Expr)(t:TT):Prop where h:PTs X e t
structure b0z(X:Cx)(tg e:Expr)(t:TI):Prop where h:PI X tg e t
structure y'G(X:Cx)(e:Expr)(t:TG):Prop where h:PG X e t
structure c0g(X:Cx)(e:List Expr)(t:TGs):Prop where h:PGs X e t
structure y'O(X:Cx)(e:Option Expr)(t:TO):Prop where h:PO X e t
structure T4(X:Cx)(f:Value->Value->Sem Value)(r:R2):Prop where h:OpR X f r
structure c7f(X:Cx)(f:Value->Sem Value)(r:V->Hp->VK->Prop):Prop where h:UnR X f r
structure X4(X:Cx)(f:Value)(r:List V->Hp->VK->Prop):Prop where h:W0 X f r
structure a9W(X:Cx)(id:String)(r:V->List V->Hp->VK->Prop):Prop where h:MtR X id r
structure c2n(X:Cx)(r:R2):Prop where h:IxR X r
structure b7z(X:Cx)(r:V->Option Int->Option Int->Hp->VK->Prop):Prop where h:SlR X r
structure b3P(X:Cx)(t:a9N):Prop where h:b9H X t
structure b7B(X:Cx)(t:V->V->Hp->VK->Prop):Prop where h:c5b X t
structure b7A(X:Cx)(op:a9u)(t:TIp):Prop where h:PIp X op t
section
variable {X:Cx}{st:Stmt}{rest:List Stmt}{t u:TS}{e a b c o i:Expr}{es more:List Expr}{te ta tb tc to ti:TE}{tt tu:TT}{tr:TA}{pos p pos':Pos}{x:Str}
theorem o8:a9z X [] D3:=⟨L2.c0J⟩
theorem c5(h1:y'S X st t)(h2:a9z X rest u):a9z X (st::rest) (z6 t u):=⟨L2.b8y h1.h h2.h⟩
theorem c8(h1:y'S X st t):a9z X [st] t:=⟨L2.c0I h1.h⟩
theorem b7o{n:Nat}(hN:X.N.Nodup)(hi:X.N[n]? = some x)(hx:Loc X.env.scope x)(he:y'E X e te)(hs:a1S e (some (.Name x pos')) pos.line X.env=pure false:=by rfl)(hf:X.fn x=true\/X.env.scope.names.lookup x=some .local:=by first | exact .inl rfl | exact .inr rfl) :
  y'S X (.Assign [.Name x pos'] e pos) (E5 te (u4 n)):=⟨L2.c3C hN hi hx he.h hs hf⟩
theorem a5U{tg:Expr}{g:TG}(he:y'E X e te)(hg:y'G X tg g)(hs:swapsWithSole [tg] e pos.line X.env=pure false:=by rfl)(hw:swappedStores [tg] e X.env=pure none:=by rfl)
  (h1:(a0L [tg] X.env).map (·.2)=[a9Q tg X.env]:=by rfl):y'S X (.Assign [tg] e pos) (E5 te g):=⟨L2.c3H he.h hg.h hs hw h1⟩
theorem b5K{tget:V->V->Hp->VK->Prop}{tip:TIp}{tset:a9N}{op:a9u}(ho:y'E X o to)(hi:y'E X i ti)(hg:b7B X tget)(he:y'E X e te)(hp:b7A X op tip)(hs:b3P X tset)
  (ha:∀ov iv new,augStore i ov iv new=(do a3U [new,ov,iv] (c2L ov iv new);release [new,ov,iv] [];pure .next):=by intros;rfl):y'S X (.AugAssign (.Subscript o i p) op e pos) (b5l to ti te tget tip tset):=⟨L2.c0M ho.h hi.h hg.h he.h hp.h hs.h ha⟩
theorem b7p{n:Nat}{op:a9u}{tip:TIp}(hN:X.N.Nodup)(hi:X.N[n]? = some x)(hx:Loc X.env.scope x)(he:y'E X e te)(ho:b7A X op tip)(hf:X.fn x=true\/X.env.scope.names.lookup x=some .local:=by first | exact .inl rfl | exact .inr rfl) :
  y'S X (.AugAssign (.Name x pos') op e pos) (c0n n te tip):=⟨L2.c3G hN hi hx he.h ho.h hf⟩
theorem z5{la lb:List Stmt}(hc:y'T X c tt)(ha:a9z X la t)(hb:a9z X lb u):y'S X (.If c la lb pos) (K6 tt t u):=⟨L2.c6c hc.h ha.h hb.h⟩
theorem o5(he:y'E X e te):y'S X (.Return (some e) pos) (F8 te):=⟨L2.c3D he.h⟩
theorem N6(he:y'E X e te)(hs:a1S e none pos.line X.env=pure false:=by rfl):y'S X (.Expr e pos) (a0B te):=⟨L2.c0K he.h hs⟩
theorem K5{tg:Expr}{wi:TI}{g:TG}{body:List Stmt}(hp:c5z (model X.prog X.w) X.A X.env X.xe)(hc:X.calm=true)(hi:b0z X tg e wi)(hg:y'G X tg g)(hb:a9z X body t)
  (hs:∀x,U6 e X.env x=pure x:=by intro _;rfl):y'S X (.For tg e body [] pos) (a1q wi g t):=⟨L2.c3E hp hc hi.h hg.h hb.h hs⟩
theorem b5L{n:Nat}(hN:X.N.Nodup)(hi:X.N[n]? = some x)(hx:Loc X.env.scope x)(hf:X.fn x=true\/X.env.scope.names.lookup x=some .local:=by first | exact .inl rfl | exact .inr rfl):y'G X (.Name x pos) (u4 n):=⟨L2.b1c hN hi hx hf⟩
theorem a2S:c0g X [] b1w:=⟨L2.b5q⟩
theorem U2{g:TG}{gs:TGs}(h1:y'G X e g)(h2:c0g X es gs)(h:(a0L (e::es) X.env).map (·.2)=a9Q e X.env::(a0L es X.env).map (·.2):=by rfl):c0g X (e::es) (a1A g gs):=⟨L2.a8P h1.h h2.h h⟩
theorem a3W{k n:Nat}{gs:TGs}(hc:X.calm=true)(h:c0g X es gs)(hn:(a0L es X.env).length=n:=by rfl)(hst:(a0L es X.env).findIdx? (·.1)=none:=by rfl):y'G X (.Tuple es k pos) (b1v X.K n gs):=⟨L2.b8D hc h.h hn hst⟩
theorem a8o{ts:a9N}(ho:y'E X o to)(hi:y'E X i ti)(hs:b3P X ts)
  (ha:∀v,a9Q (.Subscript o i pos) X.env v=(do
   let ov <-a3U [v] (eval o X.env)
   let iv <-a3U [v,ov] (eval i X.env)
   b7j pos
   a3U [v,ov,iv] (c2L ov iv v)
   release [v,ov,iv] []):=by intro _;rfl):y'G X (.Subscript o i pos) (b6I to ti ts):=⟨L2.c3L ho.h hi.h hs.h ha⟩
theorem J8{tg:Expr}(hg:Gl X "range")(hm:X.mg "range" = none)(ha:y'A X [a] tr)(hs:i8 [a] X.env=[(false,eval a X.env)]:=by rfl):b0z X tg (.Call (.Name "range" p) [a] [] pos) (a1l tr):=⟨L2.b6j hg hm ha.h hs⟩
theorem F3{tg:Expr}(h:y'E X e te):b0z X tg e (U5 X.K te):=⟨L2.c0S h.h⟩
theorem X0:y'A X [] i9:=⟨L2.c4a⟩
theorem F5(ha:y'E X e te)(hr:y'A X es tr)(hs:i8 (e::es) X.env=(false,eval e X.env)::i8 es X.env:=by rfl):y'A X (e::es) (b6 te tr):=⟨L2.c1c ha.h hr.h hs⟩
theorem F2:b7y X [] T5:=⟨L2.c0G⟩
theorem b5J(h:y'T X e tt):b7y X [e] tt:=⟨L2.c0F h.h⟩
theorem O9{elt iter:Expr}{px:Pos}{ifs:List Expr}{scope:Scope}{wi:TI}(hc:N9 X.N X.env.scope scope x)(hcalm:X.calm=true)(hi:b0z X (.Name x px) iter wi)
  (ht:∀cl C fp s3 H3,b7y (S9 X scope cl C x fp s3 H3) ifs tt) (he:∀cl C fp s3 H3,y'E (S9 X scope cl C x fp s3 H3) elt te)
  (hs:∀x,U6 iter X.env x=pure x:=by intro _;rfl):y'E X (.ListComp elt [⟨.Name x px,iter,ifs,0⟩] scope pos) (V5 wi tt te):=
 ⟨L2.c0Y hc hcalm hi.h (fun cl C fp s3 H3=>(ht cl C fp s3 H3).h) (fun cl C fp s3 H3=>(he cl C fp s3 H3).h) hs⟩
theorem Y5{elt iter:Expr}{px py spos:Pos}{ifs:List Expr}{scope:Scope}{wi:TI}{n:Nat}{y:Str}(hN:X.N.Nodup)(hiy:X.N[n]? = some y)(hy:X.env.scope.names.lookup y=some .local)(hc:N9 X.N X.env.scope scope x)(hcalm:X.calm=true)(hi:b0z X (.Name x px) iter wi)
  (ht:∀cl C fp s3 H3,b7y (S9 X scope cl C x fp s3 H3) ifs tt) (he:∀cl C fp s3 H3,y'E (S9 X scope cl C x fp s3 H3) elt te)
  (hsw:a1S (.ListComp elt [⟨.Name x px,iter,ifs,0⟩] scope pos) (some (.Name y py)) spos.line X.env=pure true:=by rfl)
  (hs:∀x,U6 iter X.env x=pure x:=by intro _;rfl) :
  y'S X (.Assign [.Name y py] (.ListComp elt [⟨.Name x px,iter,ifs,0⟩] scope pos) spos) (fun D σ H=>V5 wi tt te σ H fun v H1=>D.nx (σ.set n (some v)) H1):=
 ⟨L2.b4r hN hiy hy hc hcalm hi.h (fun cl C fp s3 H3=>(ht cl C fp s3 H3).h) (fun cl C fp s3 H3=>(he cl C fp s3 H3).h) hsw hs⟩
theorem b9{n:Int}{j}:y'E X (.Constant (.int n) j pos) (tC (.int n)):=⟨L2.c3V⟩
theorem X3{v:Bool}{j}:y'E X (.Constant (.bool v) j pos) (tC (.bl v)):=⟨L2.c6i⟩
theorem b2g{j}:y'E X (.Constant .none j pos) (tC .non):=⟨L2.c3S⟩
theorem v8{j}:y'E X (.Constant (.str x) j pos) (tC (.str x)):=⟨L2.c3O⟩
theorem c7(n:Nat)(hN:X.N[n]? = some x:=by rfl)(hv:Vis X.env.scope x:=by first | exact Or.inl rfl | exact Or.inr (Or.inl rfl) | exact Or.inr (Or.inr rfl))(hd:(x == ("__debug__" : Str))=false:=by decide)
  (hcd:(x == ("__classdict__" : Str))=false:=by decide):y'E X (.Name x pos) (c6 n):=⟨L2.c3M hN hv hd hcd⟩
theorem Q8{v:V}{u:Value}(hg:Gl X x)(hm:X.mg x=none)(hv:R4 x=some u)(r:E1 v u)(hn:x ≠ "__name__" := by decide)(hd:(x == ("__debug__" : Str))=false:=by decide):y'E X (.Name x pos) (tC v):=⟨L2.c1b hg hm hv r hn hd⟩
theorem M4{v:V}(hm:∃u,X.mg x=some u/\E1 v u)(hg:Gl X x)(hd:(x == ("__debug__" : Str))=false:=by decide):y'E X (.Name x pos) (tC v):=by
 obtain⟨u,h1,h2⟩:=hm
 exact⟨L2.c0W hg h1 h2 hd⟩
theorem E2{op:a9u}{r:R2}(ho:T4 X (X8 op) r)(ha:y'E X a ta)(hb:y'E X b tb):y'E X (.BinOp a op b pos) (tOp r ta tb):=⟨L2.c6e ho.h ha.h hb.h⟩
theorem b7t(ha:y'E X a ta):y'E X (.UnaryOp .Not a pos) (b2v ta):=⟨L2.c3R ha.h⟩
theorem V3{op:CmpOp}{r:R2}(ho:T4 X (u6 op) r)(ha:y'E X a ta)(hb:y'E X b tb)(hm:O3 op b=false):y'E X (.Compare a [op] [b] pos) (tOp r ta tb):=⟨L2.c0Z ho.h ha.h hb.h hm⟩
theorem a1M{op:CmpOp}{r:R2}(ho:T4 X (u6 op) r)(ha:y'E X a ta)(hb:y'E X b tb)(hm:O3 op b=false):y'T X (.Compare a [op] [b] pos) (C8 (tOp r ta tb)):=⟨L2.c0H ho.h ha.h hb.h hm⟩
theorem a8p{op op':CmpOp}{r r':R2}(ho:T4 X (u6 op) r)(ho':T4 X (u6 op') r')(ha:y'E X a ta)(hb:y'E X b tb)(hc:y'E X c tc)
  (hm:c5x [op,op'] [b,c]=false:=by with_unfolding_all rfl):y'E X (.Compare a [op,op'] [b,c] pos) (a4d r r' ta tb tc):=⟨L2.b8K ho.h ho'.h ha.h hb.h hc.h hm⟩
theorem b3N{op op':CmpOp}{r r':R2}(ho:T4 X (u6 op) r)(ho':T4 X (u6 op') r')(ha:y'E X a ta)(hb:y'E X b tb)(hc:y'E X c tc)
  (hm:c5x [op,op'] [b,c]=false:=by with_unfolding_all rfl):y'T X (.Compare a [op,op'] [b,c] pos) (C8 (a4d r r' ta tb tc)):=⟨L2.b8x ho.h ho'.h ha.h hb.h hc.h hm⟩
theorem R5{op}(h:y'E X a te):y'E X (.BoolOp op [a] pos) te:=⟨L2.c3Q h.h⟩
theorem O4(ha:y'E X a ta)(hb:y'E X (.BoolOp .And (b::more) pos) tb):y'E X (.BoolOp .And (a::b::more) pos) (a0a ta tb):=⟨L2.c3Z ha.h hb.h⟩
theorem c0b(ha:y'E X a ta)(hb:y'E X (.BoolOp .Or (b::more) pos) tb):y'E X (.BoolOp .Or (a::b::more) pos) (c0m ta tb):=⟨L2.c6d ha.h hb.h⟩
theorem a0R(hc:y'T X c tt)(ha:y'E X a ta)(hb:y'E X b tb):y'E X (.IfExp c a b pos) (tIf tt ta tb):=⟨L2.b8F hc.h ha.h hb.h⟩
theorem J5{k}(h:y'A X es tr):y'E X (.Tuple es k pos) (a0S tr):=⟨L2.c3N h.h⟩
theorem G9(h:y'A X es tr):y'E X (.List es pos) (a0T tr):=⟨L2.c3U h.h⟩
theorem a2R:y'O X none a2r:=⟨L2.c0Q⟩
theorem a2Q(h:y'E X e te):y'O X (some e) (a7E te):=⟨L2.c0P h.h⟩
theorem a1X{lo hi:Option Expr}{tl th:TO}{r:V->Option Int->Option Int->Hp->VK->Prop}(hr:b7z X r)(he:y'E X e te)(hl:y'O X lo tl)(hu:y'O X hi th):y'E X (.Subscript e (.Slice lo hi none p) pos) (tSl r te tl th):=⟨L2.b8E hr.h he.h hl.h hu.h⟩
theorem c0d{r:R2}(hr:c2n X r)(ha:y'E X a ta)(hb:y'E X b tb)(hs:b1S b):y'E X (.Subscript a b pos) (tOp r ta tb):=⟨L2.c6g hr.h ha.h hb.h hs⟩
theorem b7s{k j:Nat}{ps:List Str}{sp:Sp}(C:D2 X.prog X.w X.K X.mg X.base k x ps sp)(hr:P7 j X.A)(hk:k<=j)(hg:Gl X x)(ha:y'A X (e::es) tr)
  (hdb:(x == ("__debug__" : Str))=false:=by decide) (he:i8 (e::es) X.env=(false,eval e X.env)::i8 es X.env:=by rfl) (hpl:(W8 pos (i8 es X.env)).any (·.1)=false:=by rfl) :
  y'E X (.Call (.Name x p) (e::es) [] pos) (v7 sp [] E0 tr):=⟨L2.c3P C hr hk hg ha.h hdb he hpl⟩
theorem l9{id:String}{r:List V->Hp->VK->Prop}(hc:X4 X (.builtin id) r)(hg:Gl X x)(hm:X.mg x=none)(hv:R4 x=some (.builtin id))(ha:y'A X (e::es) tr)(hn:x ≠ "__name__" := by decide)(hdb:(x == ("__debug__" : Str))=false:=by decide)
  (he:i8 (e::es) X.env=(false,eval e X.env)::i8 es X.env:=by rfl) (hpl:(W8 pos (i8 es X.env)).any (·.1)=false:=by rfl):y'E X (.Call (.Name x p) (e::es) [] pos) (tCB r tr):=⟨L2.b8L hc.h hg hm hv ha.h hn hdb he hpl⟩
theorem F7{id:String}{r:List V->Hp->VK->Prop}(hc:X4 X (.type id) r)(hg:Gl X x)(hm:X.mg x=none)(hv:R4 x=some (.type id))(ha:y'A X (e::es) tr)(hn:x ≠ "__name__" := by decide)(hdb:(x == ("__debug__" : Str))=false:=by decide)
  (he:i8 (e::es) X.env=(false,eval e X.env)::i8 es X.env:=by rfl) (hpl:(W8 pos (i8 es X.env)).any (·.1)=false:=by rfl):y'E X (.Call (.Name x p) (e::es) [] pos) (tCB r tr):=⟨L2.b6k hc.h hg hm hv ha.h hn hdb he hpl⟩
theorem a1C{ty id:String}{name:Str}{r:V->List V->Hp->VK->Prop}{apos:Pos}(pa:c2l ty)(slot:Slot ty name id)(hty:typeOf (.builtin id)=pure (.type "method_descriptor"))(hm:a9W X id r)(ho:y'E X o to)(ha:y'A X (e::es) tr)
  (hbase:W9 o name X.env (eval o X.env)=eval o X.env:=by rfl)
  (hfew:((W8 pos (i8 (e::es) X.env)).all (fun x => !x.1)&&(a9t pos (a2G [] X.env)).all (fun x=>x.1.isSome)
   && decide ((e::es).length+([]:List a6K).length+(if([]:List a6K).isEmpty then 0 else 1)<30))=true:=by rfl)
  (hline:(apos.endLine == pos.line)=true:=by rfl) (hs:i8 (e::es) X.env=(false,eval e X.env)::i8 es X.env:=by rfl) (hplain:(W8 pos (i8 es X.env)).any (·.1)=false:=by rfl) :
  y'E X (.Call (.Attribute o name apos) (e::es) [] pos) (tBM X.K ty r to tr):=⟨L2.c6h pa slot hty hm.h ho.h ha.h hbase hfew hline hs hplain⟩
theorem T3(ha:y'T X a tt):y'T X (.UnaryOp .Not a pos) (a4b tt):=⟨L2.c3B ha.h⟩
theorem a0Q(ha:y'T X a tt):y'W X (.BoolOp .And [a] pos) tt:=⟨L2.c0D ha.h⟩
theorem Z9(ha:y'T X a tt):y'W X (.BoolOp .Or [a] pos) tt:=⟨L2.c3y ha.h⟩
theorem a1V(ha:y'T X a tt)(hb:y'W X (.BoolOp .And (b::more) pos) tu):y'W X (.BoolOp .And (a::b::more) pos) (a9A tt tu):=⟨L2.c3z ha.h hb.h⟩
theorem a0f(ha:y'T X a tt)(hb:y'W X (.BoolOp .Or (b::more) pos) tu):y'W X (.BoolOp .Or (a::b::more) pos) (tOr tt tu):=⟨L2.c6b ha.h hb.h⟩
theorem T1(h:y'W X e tt):y'T X e tt:=⟨PW.pt h.h⟩
theorem N3(h:y'E X e te)(he:∀whole,isTrue e X.env whole=(do let v <-whole;b7j e.pos;a3U [v] (truthy v)):=by intro _;rfl):y'T X e (tB te):=⟨L2.c3A h.h he⟩
theorem Q9:T4 X (X8 .Add) a3b:=⟨L2.c1n⟩
theorem a4D:T4 X (X8 .Sub) b6e:=⟨L2.c1d⟩
theorem a1O:T4 X (X8 .Mult) b2K:=⟨L2.c1f⟩
theorem V4:T4 X (X8 .Mod) a6Z:=⟨L2.c1g⟩
theorem a9U:T4 X (X8 .FloorDiv) c0C:=⟨L2.c1m⟩
theorem A4{k:Nat}(hr:P7 k X.A):T4 X (u6 .Eq) qEq:=⟨L2.c4i hr.units0⟩
theorem a3Y{k:Nat}(hr:P7 k X.A):T4 X (u6 .NotEq) qNe:=⟨L2.c4c hr.units0⟩
theorem Q1:X4 X (.type "list") a0O:=⟨L2.b4W⟩
theorem Y0:T4 X (u6 .Lt) qLt:=⟨L2.c4d⟩
theorem a5W:T4 X (u6 .LtE) qLe:=⟨L2.c4e⟩
theorem a2b:T4 X (u6 .Gt) qGt:=⟨L2.c4g⟩
theorem b7x:T4 X (u6 .GtE) qGe:=⟨L2.c4h⟩
theorem a2a:T4 X (u6 .In) (qIn false):=⟨L2.c4f⟩
theorem b2j:T4 X (u6 .NotIn) (qIn true):=⟨L2.b6m⟩
theorem b2k:T4 X (u6 .IsNot) b4o:=⟨L2.b6n⟩
theorem a1D:X4 X (.type "dict") a5i:=⟨L2.b4X⟩
theorem a1Y:y'E X (.Dict [] [] pos) a4c:=⟨L2.b8H⟩
theorem b7v{k:Nat}(hr:P7 k X.A)(hi:y'E X i ti)(ho:y'E X o to)(h1:O3 .In o=false):y'E X (.Compare i [.In] [o] pos) (b0C ti to):=⟨L2.c3X (L2.b8M (a9c hr) hi.h ho.h) h1⟩
theorem b2f{k:Nat}(hr:P7 k X.A)(hi:y'E X i ti)(ho:y'E X o to)(h1:O3 .In o=false):y'T X (.Compare i [.In] [o] pos) (tB (b0C ti to)):=⟨L2.b8w (L2.b8M (a9c hr) hi.h ho.h) h1⟩
theorem V2{k:Nat}(hr:P7 k X.A)(ho:y'E X o to)(hi:y'E X i ti)(hv:y'E X e te)(hs:a1S e (some (.Subscript o i pos')) pos.line X.env=pure false:=by rfl):y'S X (.Assign [.Subscript o i pos'] e pos) (a0N to ti te):=⟨L2.c0L (a9c hr) ho.h hi.h hv.h hs⟩
theorem a1Z{k:Nat}{apos:Pos}{f:Expr}{tf:TE}(hr:P7 k X.A)(ho:y'E X o to)(he:y'E X e te)(hf:y'E X f tf)(m1:W9 o "get" X.env (eval o X.env)=eval o X.env:=by rfl)
  (m2:((W8 pos (i8 [e,f] X.env)).all (fun x => !x.1)&&(a9t pos (a2G [] X.env)).all (fun x=>x.1.isSome)
   && decide (([e,f]:List Expr).length+([]:List a6K).length+(if([]:List a6K).isEmpty then 0 else 1)<30))=true:=by rfl)
  (m3:(apos.endLine == pos.line)=true:=by rfl) (m4:W8 pos (i8 [e,f] X.env)=[(false,eval e X.env),(false,eval f X.env)]:=by rfl) :
  y'E X (.Call (.Attribute o "get" apos) [e,f] [] pos) (a3i to te tf):=⟨L2.b8I (a9c hr) ho.h he.h hf.h ⟨m1,m2,m3,m4⟩⟩
theorem b7r{tg:Expr}(h:y'E X e te):b0z X tg e (c1I te):=⟨L2.c3K h.h⟩
theorem a7y(hc:X.calm=true):X4 X (.builtin "all") b1b:=⟨L2.b6U hc⟩
theorem c2O:c2n X qIx:=⟨L2.c6V⟩
theorem b0x:b7z X qSl:=⟨L2.c6L⟩
theorem b5I:b7z X (c3l X.K):=⟨L2.b5m⟩
theorem a7T:b3P X b1a:=⟨L2.c5C⟩
theorem c0e:b7B X b6f:=⟨L2.c6s⟩
theorem b2m:b7A X .Add (ipI fun i j=>i+j):=⟨L2.c4L⟩
theorem u5:X4 X (.builtin "len") S8:=⟨L2.b6R⟩
theorem b2q:X4 X (.builtin "abs") b8v:=⟨L2.b6V⟩
theorem L4:X4 X (.builtin "isinstance") a3q:=⟨L2.b6S⟩
theorem Y6:a9W X "list.append" a0h:=⟨L2.b4G⟩
end
theorem b2n{P:C2}{w:World}{K:Fg}{mg:Str->Option Value}{base:Heap}{x qual:Str}{st:Stmt}{f:Addr}{fd:X9}{N ps:List Str}{k:Nat}{sp:Sp}(F:Fun K x qual st f fd)(y'S:A3 N ps (l6 st))(len:∀vs H Q y'E,sp vs H Q y'E->vs.length=ps.length)
  (hbody:∀(cdv:Value) (y'A:G8) (outer:List Env) (s:l5) (H:Hp) (vs:List V) (Q:VK) (y'E:XK),P7 k (y'A.deeper (b2e qual (l6 st) s.heap.objs.size f cdv))->sp vs H Q y'E ->
   ∃t,a9z (b3j CX0 P w K mg base N qual (l6 st) f cdv y'A outer s H y'E).nox (a0H st) t/\t { nx:=fun _ H'=>Q .non H',rt:=Q } (a6d N vs) H):K0 P w K mg base CX0 (k+1) f fd ps sp:=
 F.ok y'S len fun cdv y'A outer s H vs Q y'E hr h=>let⟨t,a,b⟩:=hbody cdv y'A outer s H vs Q y'E hr h; ⟨t,a.h,b⟩
end Y
namespace Y
open PySem PySem.Spec PyProof.Rows L2
section
variable {X:Cx}{st:Stmt}{rest:List Stmt}{t u:TS}{e a b c o i:Expr}{es more:List Expr}{te ta tb tc to ti:TE}{tt tu:TT}{tr:TA}{pos p pos':Pos}{x y:Str}
theorem a1N{elts:List Expr}{x1}{tp:Pos}(hg:Gl X "enumerate")(hm:X.mg "enumerate" = none)(ha:y'A X [a] tr)(hs:i8 [a] X.env=[(false,eval a X.env)]:=by rfl) :
  b0z X (.Tuple elts x1 tp) (.Call (.Name "enumerate" p) [a] [] pos) (a6u X.K tr):=⟨L2.c0T hg hm ha.h hs⟩
theorem b7q{elts:List Expr}{x1}{tp:Pos}(hg:Gl X "zip")(hm:X.mg "zip" = none)(ha:y'A X [a,b] tr)(hs:i8 [a,b] X.env=[(false,eval a X.env),(false,eval b X.env)]:=by rfl)(hs2:i8 [b] X.env=[(false,eval b X.env)]:=by rfl) :
  b0z X (.Tuple elts x1 tp) (.Call (.Name "zip" p) [a,b] [] pos) (c1H X.K tr):=⟨L2.c3J hg hm ha.h hs hs2⟩
theorem a5s{elt iter:Expr}{px py pt:Pos}{kt}{ifs:List Expr}{scope:Scope}{wi:TI}(hc:a2E X.N X.env.scope scope x y)(hcalm:X.calm=true)(hi:b0z X (.Tuple [.Name x px,.Name y py] kt pt) iter wi)
  (ht:∀cl C fp s3 H3,b7y (Q3 X scope cl C x y fp s3 H3) ifs tt) (he:∀cl C fp s3 H3,y'E (Q3 X scope cl C x y fp s3 H3) elt te)
  (hs:∀x,U6 iter X.env x=pure x:=by intro _;rfl):y'E X (.ListComp elt [⟨.Tuple [.Name x px,.Name y py] kt pt,iter,ifs,0⟩] scope pos) (a6P X.K wi tt te):=
 ⟨L2.b8J hc hcalm hi.h (fun cl C fp s3 H3=>(ht cl C fp s3 H3).h) (fun cl C fp s3 H3=>(he cl C fp s3 H3).h) hs⟩
theorem a5r{body:List Stmt}(hp:c5z (model X.prog X.w) X.A X.env X.xe)(hc:y'T X c tt)(hb:a9z X body t):y'S X (.While c body [] pos) (a6O tt t):=⟨L2.b8z hp hc.h hb.h⟩
theorem a1W{e c:Option Expr}:y'S X (.Raise e c pos) (fun _ _ _=>False):=⟨L2.b8A⟩
theorem P8{f:Str}(he:y'E X e te)(hb:W9 e f X.env (eval e X.env)=eval e X.env:=by rfl):y'E X (.Attribute e f pos) (a3h X.K te f):=⟨L2.c3W he.h hb⟩
theorem a8m{f:Str}(ha:y'E X o to)(hv:y'E X e te)(hs:a1S e (some (.Attribute o f pos')) pos.line X.env=pure false:=by rfl):y'S X (.Assign [.Attribute o f pos'] e pos) (b6d X.K to te f):=⟨L2.c3F ha.h hv.h hs⟩
theorem c0c{k j:Nat}{C:Addr}{ps:List Str}{sp:Sp}(M:b3A X.prog X.w X.K X.mg X.base k x C ps sp)(hr:P7 j X.A)(hk:k+1<=j)(hg:Gl X x)(ha:y'A X (e::es) tr)
  (hdb:(x == ("__debug__" : Str))=false:=by decide) (he:i8 (e::es) X.env=(false,eval e X.env)::i8 es X.env:=by rfl) (hpl:(W8 pos (i8 es X.env)).any (·.1)=false:=by rfl) :
  y'E X (.Call (.Name x p) (e::es) [] pos) (a8z C sp [] E0 tr):=⟨L2.c6f M hr hk hg ha.h hdb he hpl⟩
theorem b2h{pl:Sem Bool}{k j:Nat}{m:Str}{C:Addr}{ps:List Str}{sp:Sp}{apos:Pos}(M:a8g X.prog X.w X.K X.mg X.base k m C ps sp)(hr:P7 j X.A)(hk:k<=j)(ho:y'E X o to)(ha:y'A X (e::es) tr)
  (hst:i8 (e::es) X.env=(false,eval e X.env)::i8 es X.env:=by rfl) (hpl:(W8 pos (i8 es X.env)).any (·.1)=false:=by rfl)
  (ht:eval (.Call (.Attribute o m apos) (e::es) [] pos) X.env=(do
   let ov <-eval o X.env
   b7j apos.atName
   let(f,first) <-a3U [ov] (b7k ov m pl)
   callWith pos f first (W8 pos (i8 (e::es) X.env)) (a9t pos (a2G [] X.env))):=by rfl) :
  y'E X (.Call (.Attribute o m apos) (e::es) [] pos) (b0c C m sp [] E0 to tr):=⟨L2.c3T (pl:=pl) M hr hk ho.h ha.h hst hpl ht⟩
theorem b2i{ty id:String}{name:Str}{r:V->List V->Hp->VK->Prop}{apos:Pos}(pa:c2l ty)(slot:Slot ty name id)(hty:typeOf (.builtin id)=pure (.type "method_descriptor"))(hm:a9W X id r)(ho:y'E X o to)
  (hbase:W9 o name X.env (eval o X.env)=eval o X.env:=by rfl) (hline:(apos.endLine == pos.line)=true:=by rfl):y'E X (.Call (.Attribute o name apos) [] [] pos) (b7P X.K ty r to):=⟨L2.c3Y pa slot hty hm.h ho.h hbase hline⟩
structure c0f(X:Cx)(pos:Pos)(ks:List (Option Expr))(vs:List Expr)(trs:List (TE×TE)):Prop where h:PPs X pos ks vs trs
theorem a9R:c0f X pos [] [] []:=⟨L2.c0N⟩
theorem a8n{ks:List (Option Expr)}{vs:List Expr}{trs:List (TE×TE)}(hk:y'E X a ta)(hv:y'E X b tb)(hr:c0f X pos ks vs trs):c0f X pos (some a::ks) (b::vs) ((ta,tb)::trs):=⟨L2.b8B hk.h hv.h hr.h⟩
theorem a9S{keys:List (Option Expr)}{values:List Expr}{trs:List (TE×TE)}(h:c0f X pos keys values trs)(hall:keys.all (·.isSome)=true:=by rfl)(hl:keys.length=values.length:=by rfl)(h0:keys≠[]:=by intro z;cases z)
  (h15:keys.length<=15:=by decide):y'E X (.Dict keys values pos) (b2w trs):=⟨L2.c0X h.h hall hl h0 h15⟩
theorem a1h{k:Nat}(hr:P7 k X.A)(hi:y'E X i ti)(ho:y'E X o to)(h1:O3 .NotIn o=false):y'T X (.Compare i [.NotIn] [o] pos) (tB (a1E ti to)):=⟨L2.b8w (L2.b6l (a9c hr) hi.h ho.h) h1⟩
theorem b2o(hc:X.calm=true):X4 X (.builtin "min") b8u:=⟨L2.b6Q hc⟩
theorem b2p(hc:X.calm=true):X4 X (.builtin "any") b4p:=⟨L2.b6T hc⟩
theorem a8q:X4 X (.builtin "sorted") a4K:=⟨L2.b1H⟩
theorem a5e(hc:X.calm=true):X4 X (.type "list") a4l:=⟨L2.b3u hc⟩
theorem b2l:a9W X "list.index" a7a:=⟨L2.b6v⟩
theorem a5X:a9W X "list.extend" a3r:=⟨L2.b4F⟩
theorem a9V:a9W X "list.pop" b4m:=⟨L2.c1y⟩
theorem a9T{k:Nat}(hr:P7 k X.A):T4 X (u6 .Eq) (c0B X.K):=⟨L2.c1j hr⟩
theorem b5Q{k:Nat}(hr:P7 k X.A):T4 X (u6 .Eq) (c3x X.K):=⟨L2.c1l hr⟩
theorem b5N:T4 X (u6 .In) (c3u X.K):=⟨L2.c1h⟩
end
end Y
namespace Y
open PySem PySem.Spec PyProof.Rows L2
end Y
namespace Y
open PySem PySem.Spec PyProof.Rows L2
end Y
namespace Y
open PySem PySem.Spec PyProof.Rows L2
end Y
namespace Y
open PySem PySem.Spec PyProof.Rows L2
end Y
namespace Y
open PySem PySem.Spec PyProof.Rows L2
end Y
namespace Y
open PySem PySem.Spec PyProof.Rows L2
section
variable {X:Cx}{e0 e1 e2 e3 e4:Expr}{t0 t1 t2 t3 t4:TE}
theorem o9(h0:y'E X e0 t0)(s0:i8 [e0] X.env=(false,eval e0 X.env)::i8 [] X.env:=by rfl):y'A X [e0] (b6 t0 i9):=(F5 h0 X0 s0)
theorem A6(h0:y'E X e0 t0)(h1:y'E X e1 t1)(s0:i8 [e0,e1] X.env=(false,eval e0 X.env)::i8 [e1] X.env:=by rfl)(s1:i8 [e1] X.env=(false,eval e1 X.env)::i8 [] X.env:=by rfl):y'A X [e0,e1] (b6 t0 (b6 t1 i9)):=(F5 h0 (F5 h1 X0 s1) s0)
theorem a2T(h0:y'E X e0 t0)(h1:y'E X e1 t1)(h2:y'E X e2 t2)(s0:i8 [e0,e1,e2] X.env=(false,eval e0 X.env)::i8 [e1,e2] X.env:=by rfl)(s1:i8 [e1,e2] X.env=(false,eval e1 X.env)::i8 [e2] X.env:=by rfl)(s2:i8 [e2] X.env=(false,eval e2 X.env)::i8 [] X.env:=by rfl):y'A X [e0,e1,e2] (b6 t0 (b6 t1 (b6 t2 i9))):=(F5 h0 (F5 h1 (F5 h2 X0 s2) s1) s0)
theorem a5V(h0:y'E X e0 t0)(h1:y'E X e1 t1)(h2:y'E X e2 t2)(h3:y'E X e3 t3)(s0:i8 [e0,e1,e2,e3] X.env=(false,eval e0 X.env)::i8 [e1,e2,e3] X.env:=by rfl)(s1:i8 [e1,e2,e3] X.env=(false,eval e1 X.env)::i8 [e2,e3] X.env:=by rfl)(s2:i8 [e2,e3] X.env=(false,eval e2 X.env)::i8 [e3] X.env:=by rfl)(s3:i8 [e3] X.env=(false,eval e3 X.env)::i8 [] X.env:=by rfl):y'A X [e0,e1,e2,e3] (b6 t0 (b6 t1 (b6 t2 (b6 t3 i9)))):=(F5 h0 (F5 h1 (F5 h2 (F5 h3 X0 s3) s2) s1) s0)
theorem b7w(h0:y'E X e0 t0)(h1:y'E X e1 t1)(h2:y'E X e2 t2)(h3:y'E X e3 t3)(h4:y'E X e4 t4)(s0:i8 [e0,e1,e2,e3,e4] X.env=(false,eval e0 X.env)::i8 [e1,e2,e3,e4] X.env:=by rfl)(s1:i8 [e1,e2,e3,e4] X.env=(false,eval e1 X.env)::i8 [e2,e3,e4] X.env:=by rfl)(s2:i8 [e2,e3,e4] X.env=(false,eval e2 X.env)::i8 [e3,e4] X.env:=by rfl)(s3:i8 [e3,e4] X.env=(false,eval e3 X.env)::i8 [e4] X.env:=by rfl)(s4:i8 [e4] X.env=(false,eval e4 X.env)::i8 [] X.env:=by rfl):y'A X [e0,e1,e2,e3,e4] (b6 t0 (b6 t1 (b6 t2 (b6 t3 (b6 t4 i9))))):=(F5 h0 (F5 h1 (F5 h2 (F5 h3 (F5 h4 X0 s4) s3) s2) s1) s0)
end
end Y
local macro_rules | `(tactic| walk_at "sc") => `(tactic| exact ⟨rfl, rfl, rfl, by decide +kernel, rfl, by decide +kernel, by decide +kernel⟩)
namespace Y
open PySem PySem.Spec PyProof.Rows L2
section
variable {X:Cx}{e a b o:Expr}{es:List Expr}{te ta tb to:TE}{tr:TA}{pos p pos':Pos}{x:Str}
theorem v9(n:Nat)(hN:X.N.Nodup)(he:y'E X e te)(hi:X.N[n]? = some x:=by rfl)(hx:Loc X.env.scope x:=by first | exact Or.inl rfl | exact Or.inr rfl)(hs:a1S e (some (.Name x pos')) pos.line X.env=pure false:=by rfl)(hf:X.fn x=true\/X.env.scope.names.lookup x=some .local:=by first | exact .inl rfl | exact .inr rfl) :
  y'S X (.Assign [.Name x pos'] e pos) (E5 te (u4 n)):=b7o hN hi hx he hs hf
theorem N7(n:Nat)(hN:X.N.Nodup)(hi:X.N[n]? = some x:=by rfl)(hx:Loc X.env.scope x:=by first | exact Or.inl rfl | exact Or.inr rfl)(hf:X.fn x=true\/X.env.scope.names.lookup x=some .local:=by first | exact .inl rfl | exact .inr rfl):y'G X (.Name x pos) (u4 n):=b5L hN hi hx hf
theorem p9{k j:Nat}{ps:List Str}{sp:Sp}(C:D2 X.prog X.w X.K X.mg X.base k x ps sp)(hr:P7 j X.A)(ha:y'A X (e::es) tr)(hk:k<=j:=by decide)(hg:Gl X x:=by rfl)
  (hdb:(x == ("__debug__" : Str))=false:=by decide) (he:i8 (e::es) X.env=(false,eval e X.env)::i8 es X.env:=by rfl) (hpl:(W8 pos (i8 es X.env)).any (·.1)=false:=by rfl) :
  y'E X (.Call (.Name x p) (e::es) [] pos) (v7 sp [] E0 tr):=b7s C hr hk hg ha hdb he hpl
theorem b7u{k j:Nat}{C:Addr}{ps:List Str}{sp:Sp}(M:b3A X.prog X.w X.K X.mg X.base k x C ps sp)(hr:P7 j X.A)(ha:y'A X (e::es) tr)(hk:k+1<=j:=by decide)(hg:Gl X x:=by rfl)
  (hdb:(x == ("__debug__" : Str))=false:=by decide) (he:i8 (e::es) X.env=(false,eval e X.env)::i8 es X.env:=by rfl) (hpl:(W8 pos (i8 es X.env)).any (·.1)=false:=by rfl) :
  y'E X (.Call (.Name x p) (e::es) [] pos) (a8z C sp [] E0 tr):=c0c M hr hk hg ha hdb he hpl
theorem t5(ha:y'E X a ta)(hb:y'E X b tb)(hs:b1S b:=by exact fun _ _=>rfl):y'E X (.Subscript a b pos) (tOp qIx ta tb):=c0d c2O ha hb hs
theorem a3X{op:CmpOp}{r:R2}(ho:T4 X (u6 op) r)(ha:y'E X a ta)(hb:y'E X b tb)(hm:O3 op b=false:=by exact a4s _):y'E X (.Compare a [op] [b] pos) (tOp r ta tb):=V3 ho ha hb hm
theorem C5{op:CmpOp}{r:R2}(ho:T4 X (u6 op) r)(ha:y'E X a ta)(hb:y'E X b tb)(hm:O3 op b=false:=by exact a4s _):y'T X (.Compare a [op] [b] pos) (C8 (tOp r ta tb)):=a1M ho ha hb hm
end
end Y
namespace Y
open PySem PySem.Spec PyProof.Rows L2
section
variable {X:Cx}{e o i:Expr}{te to ti:TE}{t:TS}{pos p:Pos}{k:Nat}
theorem b3O:y'E X (.Dict [] [] pos) b3W:=⟨L2.b8G⟩
theorem a9y(hc:X.calm=true):X4 X (.type "list") b4n:=⟨L2.b3t hc⟩
end
end Y
namespace Y
open PySem PySem.Spec PyProof.Rows L2
end Y
namespace Y
open PySem PySem.Spec PyProof.Rows L2
section
variable {X:Cx}{i o:Expr}{ti to:TE}{pos:Pos}{k:Nat}
end
end Y
namespace Y
open PySem PySem.Spec PyProof.Rows L2
section
variable {X:Cx}{k:Nat}
theorem b5P(hr:P7 k X.A):T4 X (u6 .Eq) c3w:=⟨L2.c1k (a9c hr)⟩
theorem b5M(hr:P7 k X.A):T4 X (u6 .NotEq) c3t:=⟨L2.c1e (a9c hr)⟩
theorem a9x:X4 X (.builtin "sorted") b4l:=⟨L2.b3s⟩
end
end Y
namespace Y
open PySem PySem.Spec PyProof.Rows L2
section
variable {X:Cx}{e o i:Expr}{te to ti:TE}{t:TS}{pos p:Pos}{k:Nat}
end
end Y
namespace Y
open PySem PySem.Spec PyProof.Rows L2
section
variable {X:Cx}{k:Nat}{e:Expr}{te:TE}{p p2 pos pos2:Pos}
theorem b5O(hr:P7 k X.A):T4 X (u6 .Eq) (c3v X.K):=⟨L2.c1i hr⟩
theorem b0y(he:y'E X e te)(hc:X.calm=true)(g1:Gl X "list")(m1:X.mg "list" = none)(g2:Gl X "reversed")(m2:X.mg "reversed" = none)(bl:R4 "list" = some (.type "list"))(br:R4 "reversed" = some (.type "reversed"))
  (s1:i8 [e] X.env=(false,eval e X.env)::i8 [] X.env:=by rfl):y'E X (.Call (.Name "list" p) [.Call (.Name "reversed" p2) [e] [] pos2] [] pos) (b5k te):=⟨L2.b4t he.h hc g1 m1 g2 m2 bl br s1⟩
end
end Y
namespace RD
open PySem PySem.Spec L2
variable{C a b d dx na p ra:Addr}{H H' H0 H1:Hp}{o:HO}{xs ys:List V}{i j m:Nat}{D:a6E}{σ:St}{ta te:TE}{tt:TT}{Q:VK}{v:V}{z:Str}{ks l:List Nat}{QD:Hp->Prop}{R:It->Hp->Prop}{M N:Nt}{ns:List Int}{as rs:List Addr}{Z:Addr->Prop}{Do:Nat->Bool}{kvs:List (Key×V)}{RC:Nat->List V}{ss:List Str}
def D4(b:Addr)(H H':Hp):Prop:=(∀a o,H a=some o->a≠b->H' a=some o)/\∀o,H b=some o->∃o',H' b=some o'
theorem D4.refl(b:Addr)(H:Hp):D4 b H H:=⟨fun _ _ h _=>h,fun o h=>⟨o,h⟩⟩
theorem D4.trans{H2:Hp}(x:D4 b H H1)(y:D4 b H1 H2):D4 b H H2:=
 ⟨fun a o h n=>y.1 a o (x.1 a o h n) n,fun o h=>let⟨o',h'⟩:=x.2 o h;y.2 o' h'⟩
theorem D4.upd(b:Addr)(H:Hp)(o:HO):D4 b H (upd H b o):=⟨fun a u h n=>by rw[l7 n];exact h,fun _ _=>⟨o,d6⟩⟩
theorem D4.new(h:H p=none):D4 b H (L2.upd H p o):=
 ⟨fun a u e _=>by rw[l7 (d9 e h)];exact e,fun u e=>⟨u,by rw[l7 (d9 e h)];exact e⟩⟩
theorem D4.of_same(s:t9 H H'):D4 b H H':=⟨fun a o h _=>s a o h,fun o h=>⟨o,s _ _ h⟩⟩
theorem A0(h:H p=none):t9 H (L2.upd H p o):=fun a u e=>by rw[l7 (d9 e h)];exact e
theorem D4.none(k:D4 b H H')(h:H' p=Option.none):H p=Option.none:=by
 cases e:H p with
 | none=>rfl
 | some o=>
  by_cases z:p=b
  ·subst z
   obtain⟨o',h'⟩:=k.2 o e
   rw[h]at h'
   cases h'
  ·rw[k.1 p o e z]at h
   cases h
theorem D4.tup{b a:Addr}{H H':Hp}{xs ys:List V}(k:D4 b H H')(hb:H b=some (.lst ys))(h:H a=some (.tup xs)):H' a=some (.tup xs):=
 k.1 a _ h (L6 h hb (by intro z;cases z))
structure Bag(H:Hp)(b c:Addr):Prop where
 ex:∃(i0 i1 i2:Int) (ns:List Int),H b=some (.lst [.int i0,.int i1,.int i2,.ref c])/\H c=some (.lst (ns.map V.int))/\0<=i0/\0<=i1/\i1<2147483647/\0<=i2/\∀x∈ns,0<=x
theorem Bag.lst{H:Hp}{b c:Addr}(h:Bag H b c):∃xs,H b=some (.lst xs):=by
 obtain⟨i0,i1,i2,ns,h,_⟩:=h.ex
 exact⟨_,h⟩
theorem Bag.same{c:Addr}(h:Bag H b c)(s:t9 H H'):Bag H' b c:=by
 obtain⟨i0,i1,i2,ns,h1,h2,r⟩:=h.ex
 exact⟨i0,i1,i2,ns,s _ _ h1,s _ _ h2,r⟩
theorem Bag.new{c:Addr}(h:Bag H b c)(n:H p=none):Bag (L2.upd H p o) b c:=h.same (A0 n)
theorem Bag.put{c:Addr}(h:Bag H b c)(n1:p≠b)(n2:p≠c):Bag (L2.upd H p o) b c:=by
 obtain⟨i0,i1,i2,ns,h1,h2,r⟩:=h.ex
 exact⟨i0,i1,i2,ns,by rw[l7 n1.symm];exact h1,by rw[l7 n2.symm];exact h2,r⟩
theorem Bag.nb{c:Addr}(h:Bag H b c)(n:H p=none):p≠b/\p≠c:=by
 obtain⟨i0,i1,i2,ns,h1,h2,r⟩:=h.ex
 exact⟨(d9 h1 n).symm,(d9 h2 n).symm⟩
theorem D4.put(k:D4 b H H')(n:H p=Option.none):D4 b H (L2.upd H' p o):=
 ⟨fun a u e z=>by rw[l7 (d9 e n)];exact k.1 a u e z,fun u e=>by
  obtain⟨o',h⟩:=k.2 u e
  exact⟨o',by rw[l7 (d9 e n)];exact h⟩⟩
theorem U0{α:Type}(a:α)(r:List α):atI (a::r) 0=some a:=by
 have := @Z5 α (a::r) 0 a rfl
 simpa using this
theorem a0Z{α:Type}(a b:α)(r:List α):atI (a::b::r) 1=some b := @Z5 α (a::b::r) 1 b rfl
theorem a4T{α:Type}(a b c:α)(r:List α):atI (a::b::c::r) 2=some c := @Z5 α (a::b::c::r) 2 c rfl
theorem c4U{α:Type}(a b c d:α)(r:List α):atI (a::b::c::d::r) 3=some d := @Z5 α (a::b::c::d::r) 3 d rfl
theorem a2M{α:Type}{xs:List α}{i:Int}(h0:0<=i)(h1:i<xs.length):∃v,atI xs i=some v/\xs[i.toNat]? = some v:=by
 have hl:i.toNat<xs.length:=by omega
 have e:xs[i.toNat]? = some (xs[i.toNat]'hl):=by simp[hl]
 refine⟨_,?_,e⟩
 have:=Z5 e
 rwa [Int.toNat_of_nonneg h0]at this
section
variable {t u:TS}{tb tc to ti:TE}{tu:TT}{tr:TA}{QB:Bool->Hp->Prop}{QA:List V->Hp->Prop}{QO:Option Int->Hp->Prop}{x y:V}{i j:Int}{n:Nat}{r r':R2}{K:Fg}
theorem U4(h:t { D with nx:=u D } σ H):z6 t u D σ H:=h
theorem a0M{P:St->Hp->Prop}(tail:∀σ H,P σ H->u D σ H)(main:∀nx:St->Hp->Prop,(∀σ H,P σ H->nx σ H)->t { D with nx:=nx } σ H):z6 t u D σ H:=main _ tail
theorem b8h{g:TG}(h:te σ H fun x H1=>g x σ H1 D.nx):E5 te g D σ H:=h
theorem b0V{QS:St->Hp->Prop}(h:QS (σ.set n (some v)) H):u4 n v σ H QS:=h
theorem c3a{QS:St->Hp->Prop}{ts:a9N}(h:to σ H fun o H1=>ti σ H1 fun i H2=>ts o i v H2 fun H3=>QS σ H3):b6I to ti ts v σ H QS:=h
theorem c2u(h:te σ H D.rt):F8 te D σ H:=h
theorem b8e(h:te σ H fun _ H1=>D.nx σ H1):a0B te D σ H:=h
theorem c5K(h:tt σ H fun b H1=>if b=true then t D σ H1 else u D σ H1):K6 tt t u D σ H:=h
theorem b8a(h:D.nx σ H):D3 D σ H:=h
theorem c2V(h:te σ H fun x H'=>∃k,x=.bl k/\QB k H'):C8 te σ H QB:=h
theorem c5E(h:te σ H fun x H'=>∃k,x=.bl k/\QB k H'):tB te σ H QB:=h
theorem c5H(h:tt σ H fun c H1=>QB (!c) H1):a4b tt σ H QB:=h
theorem c5N(h:tt σ H fun c H1=>if c=true then tu σ H1 QB else QB false H1):a9A tt tu σ H QB:=h
theorem c6N(h:tt σ H fun c H1=>if c=true then QB true H1 else tu σ H1 QB):tOr tt tu σ H QB:=h
theorem c3d(h:ta σ H fun x H1=>∃c,x=.bl c/\if c=true then tb σ H1 Q else Q (.bl false) H1):a0a ta tb σ H Q:=h
theorem c5F(h:ta σ H fun x H1=>∃c,x=.bl c/\if c=true then Q (.bl true) H1 else tb σ H1 Q):c0m ta tb σ H Q:=h
theorem c2X(h:ta σ H fun x H1=>∃c,x=.bl c/\Q (.bl (!c)) H1):b2v ta σ H Q:=h
theorem c5J(h:tt σ H fun c H1=>if c=true then ta σ H1 Q else tb σ H1 Q):tIf tt ta tb σ H Q:=h
theorem c5G(h:ta σ H fun x H1=>tb σ H1 fun y H2=>r x y H2 Q):tOp r ta tb σ H Q:=h
theorem c0w(h:ta σ H fun x H1=>tb σ H1 fun y H2=>r x y H2 fun z H3=>∃k,z=.bl k/\(if k=true then tc σ H3 fun w' H4=>r' y w' H4 Q else Q (.bl false) H3)):a4d r r' ta tb tc σ H Q:=h
theorem a3I(e:σ[n]? = some (some v))(h:Q v H):c6 n σ H Q:=⟨v,e,h⟩
theorem s_c(h:Q v H):tC v σ H Q:=h
theorem a2I(h:te σ H fun x H1=>tr σ H1 fun xs H2=>QA (x::xs) H2):b6 te tr σ H QA:=h
theorem b0e(h:QA [] H):i9 σ H QA:=h
theorem c3b{sp:Sp}{E:XK}(h:tr σ H fun vs H1=>sp (vs++[]) H1 Q E):v7 sp [] E tr σ H Q:=h
theorem c5L{f:List V->Hp->VK->Prop}(h:tr σ H fun vs H1=>f vs H1 Q):tCB f tr σ H Q:=h
def New(o:HO)(n:Nat)(H:Hp)(Q:VK):Prop:=n<=q9/\∀p,H p=none->Q (.ref p) (upd H p o)
theorem E3(hl:n<=100000)(h:∀p H',H p=none->H' p=some o->t9 H H'->Q (.ref p) H'):New o n H Q:=
 ⟨F6 hl (by rw[a3e];decide),fun p hp=>h p _ hp d6 (A0 hp)⟩
theorem c2t(h:tr σ H fun xs H1=>New (.tup xs) xs.length H1 Q):a0S tr σ H Q:=h
theorem c5I(h:tr σ H fun xs H1=>New (.lst xs) xs.length H1 Q):a0T tr σ H Q:=h
theorem c6M{f:V->Option Int->Option Int->Hp->VK->Prop}{tl th:TO}(h:te σ H fun x H1=>tl σ H1 fun l H2=>th σ H2 fun u H3=>f x l u H3 Q):tSl f te tl th σ H Q:=h
theorem c2W(h:te σ H fun x H1=>∃i,x=.int i/\QO (some i) H1):a7E te σ H QO:=h
theorem b7Z(h:QO none H):a2r σ H QO:=h
theorem b4g(h:QB true H):T5 σ H QB:=h
theorem b0X{f:V->List V->Hp->VK->Prop}(h:to σ H fun x H1=>tyV K "list" x H1/\tr σ H1 fun xs H2=>f x xs H2 Q):tBM K "list" f to tr σ H Q:=h
theorem c3c{tget:V->V->Hp->VK->Prop}{tip:TIp}{tset:a9N}(h:to σ H fun o H1=>ti σ H1 fun i H2=>tget o i H2 fun x H3=>te σ H3 fun y H4=>tip x y H4 fun z H5=>tset o i z H5 fun H6=>D.nx σ H6):b5l to ti te tget tip tset D σ H:=h
theorem c5Z(h:Q (.int (i+j)) H):a3b (.int i) (.int j) H Q:=h
theorem c3r{a b:Str}(hl:a.length+b.length<=q9)(h:Q (.str (a++b)) H):a3b (.str a) (.str b) H Q:=⟨hl,h⟩
theorem c3s(ha:H a=some (.lst xs))(hb:H b=some (.lst ys))(h:New (.lst (xs++ys)) (xs.length+ys.length) H Q):a3b (.ref a) (.ref b) H Q:=by
 unfold a3b
 simp only[ha,hb]
 exact h
theorem c3o{g:Int->Int->V}(h:Q (g i j) H):b2L g (.int i) (.int j) H Q:=h
theorem a0G{C:Int->Int->Prop}{g:Int->Int->V}(hc:C i j)(h:Q (g i j) H):q2I C g (.int i) (.int j) H Q:=⟨hc,h⟩
theorem c6S{f:Int->Int->Int}(h:Q (.int (f i j)) H):ipI f (.int i) (.int j) H Q:=⟨i,j,rfl,rfl,h⟩
theorem L5(hp:H p=some (.lst xs))(he:atI xs i=some v)(h:Q v H):qIx (.ref p) (.int i) H Q:=by
 unfold qIx
 simp only[hp]
 exact⟨v,he,h⟩
theorem C3(hp:H p=some (.tup xs))(he:atI xs i=some v)(h:Q v H):qIx (.ref p) (.int i) H Q:=by
 unfold qIx
 simp only[hp]
 exact⟨v,he,h⟩
theorem c5V{c:Nat}(hz:z.length<=q9)(he:atI z.cps.toList i=some c)(h:Q (.str ⟨#[c]⟩) H):qIx (.str z) (.int i) H Q:=⟨hz,c,he,h⟩
theorem b5p{QH:Hp->Prop}{k:Nat}(hp:H p=some (.lst xs))(he:ixN xs.length i=some k)(h:QH (upd H p (.lst (xs.set k v)))):b1a (.ref p) (.int i) v H QH:=by
 unfold b1a
 simp only[hp]
 exact⟨k,he,h⟩
theorem c5W(hp:H p=some (.lst xs))(h0:0<=i)(he:xs[i.toNat]? = some v)(h:Q v H):b6f (.ref p) (.int i) H Q:=by
 unfold b6f
 simp only[hp]
 exact⟨h0,v,he,h⟩
theorem N8(hp:H p=some (.lst xs))(h:Q (.int xs.length) H):S8 [.ref p] H Q:=by
 unfold S8
 simp only[hp]
 exact h
theorem a2J(hp:H p=some (.tup xs))(h:Q (.int xs.length) H):S8 [.ref p] H Q:=by
 unfold S8
 simp only[hp]
 exact h
theorem c3n(hz:z.length<=q9)(h:Q (.int z.length) H):S8 [.str z] H Q:=⟨hz,h⟩
theorem c6a(h:Q (.int (if i<0 then -i else i)) H):b8v [.int i] H Q:=h
theorem c6T(hs:b2A x y=true)(h:Q (.bl (decide (x=y))) H):qEq x y H Q:=⟨_,if_pos hs,h⟩
theorem c6R(hs:b2A x y=true)(h:Q (.bl (!decide (x=y))) H):qNe x y H Q:=⟨_,if_pos hs,h⟩
theorem c1P(ha:H a=some (.lst xs))(hb:H b=some (.lst ys))(fx:xs.all K7=true)(fy:ys.all K7=true):eqO (.ref a) (.ref b) H=some (a0Y xs ys):=by
 unfold eqO
 rw[if_neg (by intro z;cases z)]
 simp only[ha,hb]
 rw[if_pos ⟨fx,fy⟩]
theorem c3m(hp:H p=some (.tup ys))(h:∀l H',H l=none->H' l=some (.lst ys)->t9 H H'->Q (.ref l) H'):a0O [.ref p] H Q:=by
 unfold a0O
 simp only[hp]
 exact fun l hl=>h l _ hl d6 (A0 hl)
theorem a5h(hp:H p=some (.tup xs))(hx:K7 x=true)(ha:xs.all K7=true)(h:Q (.bl (inV x xs)) H):qIn false x (.ref p) H Q:=by
 unfold qIn
 cases x <;> first | (simp only[hp];exact⟨hx,ha,h⟩) | cases hx
theorem a3a{l:Addr}(hp:H l=some (.lst xs))(hl:xs.length<q9)(h:Q .non (upd H l (.lst (xs++[y])))):a0h (.ref l) [y] H Q:=by
 unfold a0h
 simp only[hp]
 exact⟨hl,h⟩
theorem b8t{lo hi:Option Int}(ha:H a=some (.tup xs))(hw:¬(HT.sIx xs.length 0 lo=0/\HT.sIx xs.length xs.length hi=xs.length))(h:∀p H',H p=none->H' p=some (.tup (a5L xs lo hi))->t9 H H'->Q (.ref p) H'):qSl (.ref a) lo hi H Q:=by
 unfold qSl
 simp only[ha]
 exact⟨hw,fun p hp=>h p _ hp d6 (A0 hp)⟩
theorem c5T{lo hi:Option Int}(ha:H a=some (.lst xs))(h:∀p H',H p=none->H' p=some (.lst (a5L xs lo hi))->t9 H H'->Q (.ref p) H'):qSl (.ref a) lo hi H Q:=by
 unfold qSl
 simp only[ha]
 exact fun p hp=>h p _ hp d6 (A0 hp)
theorem a1z{s c:String}(e:a2d x H=some s)(hc:c∈a7l)(h:Q (.bl (b4L s c)) H):a3q [x,.ty c] H Q:=⟨s,e,hc,h⟩
end
section
variable {D:Addr}{K:Fg}
theorem a4y{lo:Int}{n:Nat}(Pv:Nat->List V->Hp->Prop)(h0:Pv 0 [] (upd H1 D (.lst [])))(hP:∀i ys H,Pv i ys H->H D=some (.lst ys))
  (step:∀i ys H2,i<n->Pv i ys H2->∀R:VK,(∀y H5,H5 D=some (.lst ys)->ys.length<q9->Pv (i+1) (ys++[y]) (upd H5 D (.lst (ys++[y])))->R y H5)->te (some (.int (lo+i))::σ) H2 R)
  (done:∀ys H2,Pv n ys H2->QD H2) :
  ∃W:Nat->Nat->List V->Hp->Prop,(∃m,W 0 m [] (upd H1 D (.lst [])))/\∀i m ys H2,W i m ys H2->H2 D=some (.lst ys) /\
   (((Itr lo n).stop i H2 /\ QD H2) \/ ((Itr lo n).go i H2 /\ ∀ x H3,(Itr lo n).yld i H2 x H3 -> T5 (some x :: σ) H3 fun ok H4 => if ok = true then
     te (some x::σ) H4 (fun y H5=>H5 D=some (.lst ys)/\ys.length<q9/\∃m',m'<m/\W (i+1) m' (ys++[y]) (upd H5 D (.lst (ys++[y]))))
     else ∃m',m'<m/\W (i+1) m' ys H4)):=by
 refine⟨fun i m ys H=>m=n - i/\i<=n/\Pv i ys H,⟨n,rfl,J7 _,h0⟩,?_⟩
 rintro i m ys H2 ⟨rfl,hi,p⟩
 refine⟨hP i ys H2 p,?_⟩
 by_cases hlt:i<n
 ·refine .inr ⟨hlt,fun x H3 y=>?_⟩
  obtain⟨e,y⟩:=y
  subst e y
  refine b4g ?_
  rw[if_pos rfl]
  exact step i ys _ hlt p _ fun y H5 h1 h2 h3=>⟨h1,h2,n - (i+1),by omega,rfl,hlt,h3⟩
 ·have e:i=n:=by omega
  subst e
  exact .inl ⟨g9 _,done ys H2 p⟩
theorem T7(Pv:Nat->List V->Hp->Prop)(h0:Pv 0 [] (upd H1 D (.lst [])))(hP:∀i ys H,Pv i ys H->H D=some (.lst ys))(hl:∀i ys H,i<=xs.length->Pv i ys H->SqL K H a xs)
  (step:∀i x ys H2,xs[i]? = some x->Pv i ys H2->∀R:VK,(∀y H5,H5 D=some (.lst ys)->ys.length<q9->Pv (i+1) (ys++[y]) (upd H5 D (.lst (ys++[y])))->R y H5)->te (some x::σ) H2 R)
  (done:∀ys H2,Pv xs.length ys H2->QD H2) :
  ∃W:Nat->Nat->List V->Hp->Prop,(∃m,W 0 m [] (upd H1 D (.lst [])))/\∀i m ys H2,W i m ys H2->H2 D=some (.lst ys) /\
   (((Itl K a).stop i H2 /\ QD H2) \/ ((Itl K a).go i H2 /\ ∀ x H3,(Itl K a).yld i H2 x H3 -> T5 (some x :: σ) H3 fun ok H4 => if ok = true then
     te (some x::σ) H4 (fun y H5=>H5 D=some (.lst ys)/\ys.length<q9/\∃m',m'<m/\W (i+1) m' (ys++[y]) (upd H5 D (.lst (ys++[y]))))
     else ∃m',m'<m/\W (i+1) m' ys H4)):=by
 refine⟨fun i m ys H=>m=xs.length - i/\i<=xs.length/\Pv i ys H,⟨xs.length,rfl,J7 _,h0⟩,?_⟩
 rintro i m ys H2 ⟨rfl,hi,p⟩
 refine⟨hP i ys H2 p,?_⟩
 have q:=hl i ys H2 hi p
 by_cases hlt:i<xs.length
 ·refine .inr ⟨⟨xs,xs[i],q,by simp[hlt]⟩,fun x H3 y=>?_⟩
  obtain⟨e,y⟩:=y
  subst e
  refine b4g ?_
  rw[if_pos rfl]
  exact step i x ys _ (y xs q) p _ fun y H5 h1 h2 h3=>⟨h1,h2,xs.length - (i+1),by omega,rfl,hlt,h3⟩
 ·have e:i=xs.length:=by omega
  subst e
  exact .inl ⟨⟨xs,q,g9 _⟩,done ys H2 p⟩
theorem V8{wi:TI}(h:wi σ H1 fun J H1=>∀D,H1 D=none->∃W:Nat->Nat->List V->Hp->Prop,
 (∃m,W 0 m [] (upd H1 D (.lst [])))/\∀i m ys H2,W i m ys H2->H2 D=some (.lst ys) /\
  ((J.stop i H2 /\ Q (.ref D) H2) \/ (J.go i H2 /\ ∀ x H3,J.yld i H2 x H3 -> tt (some x :: σ) H3 fun ok H4 => if ok = true then
    te (some x::σ) H4 (fun y H5=>H5 D=some (.lst ys)/\ys.length<q9/\∃m',m'<m/\W (i+1) m' (ys++[y]) (upd H5 D (.lst (ys++[y]))))
    else ∃m',m'<m/\W (i+1) m' ys H4))):V5 wi tt te σ H1 Q:=h
theorem a0F{ta:TA}(h:ta σ H1 fun vs H2=>∃j:Int,vs=[.int j] /\ -(2 ^ 62)<=j/\j<2 ^ 62/\R (Itr 0 j.toNat) H2):a1l ta σ H1 R:=h
theorem R8(h:ta σ H1 fun x H2=>∃a,x=.ref a/\(∃xs,SqL K H2 a xs)/\R (Itl K a) H2):U5 K ta σ H1 R:=h
theorem a0c{wi:TI}{g:TG}{tb:TS}{D:a6E}(h:wi σ H1 fun J H1=>∃W:Nat->Nat->St->Hp->Prop,(∃m,W 0 m σ H1)/\∀i m σ H,W i m σ H ->
 (J.stop i H/\D.nx σ H)\/(J.go i H/\∃N:St->Hp->Prop,(∀σ' H',N σ' H'->∃m',m'<m/\W (i+1) m' σ' H')/\∀x H',J.yld i H x H'->g x σ H' fun σ2 H2=>tb { D with nx:=N,ct:=N,bk:=D.nx } σ2 H2)):a1q wi g tb D σ H1:=h
end
def J1(H H':Hp):Prop:=∀a xs,H a=some (.tup xs)->H' a=some (.tup xs)
theorem J1.trans{H2:Hp}(x:J1 H H1)(y:J1 H1 H2):J1 H H2:=fun a xs h=>y a xs (x a xs h)
theorem J1.put(h:H p=some (.lst ys)):J1 H (upd H p o):=fun a xs e=>by
 rw[l7 (L6 e h (by intro z;cases z))];exact e
theorem t9.ts(s:t9 H H'):J1 H H':=fun a xs h=>s a _ h
theorem D4.ts{c:Addr}(k:D4 b H H')(hB:Bag H b c):J1 H H':=fun a xs h=>by
 obtain⟨ys,hb⟩:=hB.lst
 exact k.tup hb h
def OpV(v:V):Prop:=(∃s,v=.str s)\/∃n:Int,v=.int n/\0<=n/\n<1000000000000
def c5j(H:Hp)(p:Addr):Prop:=∃k v1 v2,H p=some (.tup [.str k,v1,v2])/\OpV v1/\OpV v2/\k∈(["plus","minus","times","less","same"]:List Str)
inductive b0t(H:Hp):List V->Prop
 | set (n:Str) (p:Addr):c5j H p->b0t H [.str "set",.str n,.ref p]
 | copy (n:Str) (v:V):OpV v->b0t H [.str "copy",.str n,v]
 | take (n:Str):b0t H [.str "take",.str n]
 | tell (v:V):OpV v->b0t H [.str "tell",v]
 | ask (v:V):OpV v->b0t H [.str "ask",v]
 | skip:b0t H [.str "skip"]
structure c7h(H:Hp)(a:Addr):Prop where
 ex:∃ss:List Str,H a=some (.lst (ss.map V.str))/\ss≠[]/\ss.length<=8
theorem small{n:Nat}(h:n<=100000):n<=q9:=F6 h (by rw[a3e];decide)
theorem F9{n:Nat}(h:n<100000):n<q9:=A8 h (by rw[a3e];decide)
theorem D9{c:Bool}{A B:Prop}(hc:c=true)(h:A):if c=true then A else B:=by rw[if_pos hc];exact h
theorem v4{c:Bool}{A B:Prop}(hc:c=false)(h:B):if c=true then A else B:=by rw[hc];exact L2.c4J h
section
variable {t u:TS}{tb tc to ti:TE}{tu:TT}{tr:TA}{QB:Bool->Hp->Prop}{QA:List V->Hp->Prop}{x y:V}{i j:Int}{n:Nat}{K:Fg}
theorem a8L(h:∀p H',H p=none->H' p=some (.dK [])->t9 H H'->Q (.ref p) H'):a4c σ H Q:=fun p hp=>h p _ hp d6 (A0 hp)
theorem b8f(h:ti σ H fun y H1=>to σ H1 fun x H2=>∃a o,x=.ref a/\a3C H2 a y o/\Q (.bl o.isSome) H2):b0C ti to σ H Q:=h
theorem a4j(h:ti σ H fun y H1=>to σ H1 fun x H2=>∃a o,x=.ref a/\a3C H2 a y o/\Q (.bl (!o.isSome)) H2):a1E ti to σ H Q:=h
theorem a2i(h:te σ H fun v H1=>to σ H1 fun x H2=>ti σ H2 fun y H3=>∃a H4,x=.ref a/\a4W H3 a y v H4/\D.nx σ H4):a0N to ti te D σ H:=h
theorem a1y{f:Str}(h:ta σ H fun x H1=>∃a C dx fs v,x=.ref a/\H1 a=some (.ins C dx fs)/\Cls K C/\a2o K C f/\fs.lookup f=some v/\Q v H1):a3h K ta f σ H Q:=h
theorem b4i{f:Str}(h:te σ H fun y H1=>ta σ H1 fun x H2=>∃a C dx fs,x=.ref a/\H2 a=some (.ins C dx fs)/\Cls K C/\a2o K C f/\fs.length<1000/\D.nx σ (upd H2 a (.ins C dx (a2q f y fs)))):b6d K ta te f D σ H:=h
theorem b8c{m:Str}{sp:Sp}{E:XK}(h:ta σ H fun x H1=>∃a dx fs,x=.ref a/\H1 a=some (.ins C dx fs)/\fs.lookup m=none/\tr σ H1 fun vs H2=>sp (x::(vs++[])) H2 Q E):b0c C m sp [] E ta tr σ H Q:=h
theorem b8d{sp:Sp}{E:XK}(h:tr σ H fun vs H1=>∀x dx,H1 x=none->H1 dx=none->dx≠x ->
 sp (.ref x::(vs++[])) (upd (upd H1 dx (.own x)) x (.ins C dx [])) (fun v H2=>v=.non/\Q (.ref x) H2) E):a8z C sp [] E tr σ H Q:=h
theorem c2v{f:V->List V->Hp->VK->Prop}(h:to σ H fun x H1=>tyV K "list" x H1/\f x [] H1 Q):b7P K "list" f to σ H Q:=h
theorem a0A(h:H p=some (.lst xs)):tyV K "list" (.ref p) H:=.inl ⟨rfl,xs,SqL.of h⟩
theorem a7Z{a b:Nat}{QS:St->Hp->Prop}(hp:SqT K H p [x,y])(h:QS ((σ.set a (some x)).set b (some y)) H):b1v K 2 (a1A (u4 a) (a1A (u4 b) b1w)) (.ref p) σ H QS:=
 ⟨p,_,rfl,hp,rfl,_,_,rfl,_,_,rfl,rfl,h⟩
theorem a4I(h:tr σ H fun vs H1=>∃a,vs=[.ref a]/\(∃xs,SqL K H1 a xs)/\R (Ite K a) H1):a6u K tr σ H R:=h
theorem c2Y(h:tr σ H fun vs H1=>∃a b,vs=[.ref a,.ref b]/\(∃xs,SqL K H1 a xs)/\(∃xs,SqL K H1 b xs)/\R (Itz K a b) H1):c1H K tr σ H R:=h
theorem b0Q(h:∃W:Nat->St->Hp->Prop,(∃m,W m σ H)/\∀m σ H,W m σ H ->
 tt σ H fun b H1=>if b=true then ∃N:St->Hp->Prop,(∀σ' H',N σ' H'->∃m',m'<m/\W m' σ' H')/\t { D with nx:=N,ct:=N,bk:=D.nx } σ H1 else D.nx σ H1):a6O tt t D σ H:=h
theorem a8H(h:te σ H fun v H1=>D.nx (σ.set n (some v)) H1):(fun D σ H=>te σ H fun v H1=>(D:a6E).nx (σ.set n (some v)) H1:TS) D σ H:=h
theorem b0W{wi:TI}(h:wi σ H1 fun J H1=>∀D,H1 D=none->∃W:Nat->Nat->List V->Hp->Prop,
 (∃m,W 0 m [] (upd H1 D (.lst [])))/\∀i m ys H2,W i m ys H2->H2 D=some (.lst ys) /\
  ((J.stop i H2 /\ Q (.ref D) H2) \/ (J.go i H2 /\ ∀ x H3,J.yld i H2 x H3 -> ∃ a u v,x = .ref a /\ SqT K H3 a [u,v] /\ tt (some u :: some v :: σ) H3 fun ok H4 => if ok = true then
    te (some u::some v::σ) H4 (fun y H5=>H5 D=some (.lst ys)/\ys.length<q9/\∃m',m'<m/\W (i+1) m' (ys++[y]) (upd H5 D (.lst (ys++[y]))))
    else ∃m',m'<m/\W (i+1) m' ys H4))):a6P K wi tt te σ H1 Q:=h
theorem b4U{J:It}{D:Addr}(n:Nat)(Pv:Nat->List V->Hp->Prop)(h0:Pv 0 [] (upd H1 D (.lst [])))(hP:∀i ys H,Pv i ys H->H D=some (.lst ys))(stop:∀ys H,Pv n ys H->J.stop n H/\QD H)(go:∀i ys H,i<n->Pv i ys H->J.go i H)
  (step:∀i ys H2,i<n->Pv i ys H2->∀x H3,J.yld i H2 x H3->∃a u v,x=.ref a/\SqT K H3 a [u,v]/\∀(R:VK) (S:Hp->Prop),(∀y H5,H5 D=some (.lst ys)->ys.length<q9->Pv (i+1) (ys++[y]) (upd H5 D (.lst (ys++[y])))->R y H5)->(∀H4,Pv (i+1) ys H4->S H4) ->
   tt (some u::some v::σ) H3 fun ok H4=>if ok=true then te (some u::some v::σ) H4 R else S H4) :
  ∃W:Nat->Nat->List V->Hp->Prop,(∃m,W 0 m [] (upd H1 D (.lst [])))/\∀i m ys H2,W i m ys H2->H2 D=some (.lst ys) /\
   ((J.stop i H2 /\ QD H2) \/ (J.go i H2 /\ ∀ x H3,J.yld i H2 x H3 -> ∃ a u v,x = .ref a /\ SqT K H3 a [u,v] /\ tt (some u :: some v :: σ) H3 fun ok H4 => if ok = true then
     te (some u::some v::σ) H4 (fun y H5=>H5 D=some (.lst ys)/\ys.length<q9/\∃m',m'<m/\W (i+1) m' (ys++[y]) (upd H5 D (.lst (ys++[y]))))
     else ∃m',m'<m/\W (i+1) m' ys H4)):=by
 refine⟨fun i m ys H=>m=n - i/\i<=n/\Pv i ys H,⟨n,rfl,J7 _,h0⟩,?_⟩
 rintro i m ys H2 ⟨rfl,hi,p⟩
 refine⟨hP i ys H2 p,?_⟩
 by_cases hlt:i<n
 ·refine .inr ⟨go i ys H2 hlt p,fun x H3 hy=>?_⟩
  obtain⟨a,u,v,e,hs,st⟩:=step i ys H2 hlt p x H3 hy
  exact⟨a,u,v,e,hs,st _ _ (fun y H5 h1 h2 h3=>⟨h1,h2,n - (i+1),by omega,rfl,hlt,h3⟩) fun H4 h4=>⟨n - (i+1),by omega,rfl,hlt,h4⟩⟩
 ·have e:i=n:=by omega
  subst e
  exact .inl (stop ys H2 p)
theorem b5u{J:It}{g:TG}{tb:TS}(n:Nat)(Pv:Nat->St->Hp->Prop)(h0:Pv 0 σ H)(stop:∀σ H,Pv n σ H->J.stop n H/\D.nx σ H)(go:∀i σ H,i<n->Pv i σ H->J.go i H)
  (hs:∀i σ H,i<n->Pv i σ H->∀x H',J.yld i H x H'->g x σ H' fun σ2 H2=>tb { D with nx:=Pv (i+1),ct:=Pv (i+1),bk:=D.nx } σ2 H2) :
  ∃W:Nat->Nat->St->Hp->Prop,(∃m,W 0 m σ H)/\∀i m σ H,W i m σ H ->
   (J.stop i H/\D.nx σ H)\/(J.go i H/\∃N:St->Hp->Prop,(∀σ' H',N σ' H'->∃m',m'<m/\W (i+1) m' σ' H')/\∀x H',J.yld i H x H'->g x σ H' fun σ2 H2=>tb { D with nx:=N,ct:=N,bk:=D.nx } σ2 H2):=by
 refine⟨fun i m σ H=>m=n - i/\i<=n/\Pv i σ H,⟨n,rfl,J7 _,h0⟩,?_⟩
 rintro i m σ H ⟨rfl,hi,p⟩
 by_cases hlt:i<n
 ·exact .inr ⟨go i σ H hlt p,Pv (i+1),fun σ' H' p'=>⟨n - (i+1),by omega,rfl,hlt,p'⟩,fun x H' hy=>hs i σ H hlt p x H' hy⟩
 ·have e:i=n:=by omega
  subst e
  exact .inl (stop σ H p)
theorem c5U(h:Q (.int (if j<i then j else i)) H):b8u [.int i,.int j] H Q:=h
theorem a7K(bs:List Bool):T8 (bs.map V.bl)=some bs:=by
 induction bs with
 | nil=>rfl
 | cons s r ih=>simp[T8,ih]
theorem c5X{l:Addr}{bs:List Bool}(hl:H l=some (.lst (bs.map V.bl)))(h:Q (.bl (bs.any id)) H):b4p [.ref l] H Q:=by
 unfold b4p
 simp only[hl]
 exact⟨bs,a7K bs,h⟩
theorem c5Y{l:Addr}{bs:List Bool}(hl:H l=some (.lst (bs.map V.bl)))(h:Q (.bl (bs.all id)) H):b1b [.ref l] H Q:=by
 unfold b1b
 simp only[hl]
 exact⟨bs,a7K bs,h⟩
theorem b2J{l:Addr}{zs:List V}(hl:H l=some (.lst xs))(hb:H b=some (.lst zs))(hz:xs.length+zs.length<=q9)(h:Q .non (upd H l (.lst (xs++zs)))):a3r (.ref l) [.ref b] H Q:=by
 unfold a3r
 simp only[hl,hb]
 exact⟨hz,h⟩
theorem c2y{l:Addr}(hl:H l=some (.lst (xs++[y])))(h:Q y (upd H l (.lst xs))):b4m (.ref l) [] H Q:=by
 unfold b4m
 simp only[hl]
 refine⟨y,by simp,?_⟩
 simpa using h
theorem a4J(hp:H p=some (.lst ys))(h:∀l H',H l=none->H' l=some (.lst ys)->t9 H H'->Q (.ref l) H'):a0O [.ref p] H Q:=by
 unfold a0O
 simp only[hp]
 exact fun l hl=>h l _ hl d6 (A0 hl)
end
def IL(l:List Nat):List V:=l.map fun(n:Nat)=>V.int (n:Int)
theorem O5(l:List Nat):(IL l).length=l.length:=by simp[IL]
theorem b5E(l:List Nat):(IL l).all K7=true:=by
 rw[M3]
 intro x hx
 obtain⟨s,_,rfl⟩:=A2.mp hx
 rfl
def KS(ks:List Nat):List (Key×V):=ks.map fun(k:Nat)=>(Sum.inl (k:Int),V.bl true)
theorem b9J(ks:List Nat)(k:Nat):(a0w (KS ks) (Sum.inl (k:Int))).isSome=decide (k∈ks):=by
 induction ks with
 | nil=>rfl
 | cons a r ih=>
  by_cases e:a=k
  ·subst e
   rw[show KS (a::r)=(Sum.inl (a:Int),V.bl true)::KS r from rfl,a2U rfl]
   simp
  ·rw[show KS (a::r)=(Sum.inl (a:Int),V.bl true)::KS r from rfl,a2c (by intro z;have:=Sum.inl.inj z;exact e (by omega)),ih]
   have:(k∈a::r)↔k∈r:=by
    rw[d5]
    exact⟨fun h=>h.elim (fun z=>absurd z.symm e) id,.inr⟩
   simp[this]
def a4m(ks:List Nat)(k:Nat):List Nat:=if k∈ks then ks else ks++[k]
theorem c5d(ks:List Nat)(k:Nat):Y2 (KS ks) (Sum.inl (k:Int)) (V.bl true)=KS (a4m ks k):=by
 unfold Y2 a4m
 rw[a2V,b9J]
 by_cases h:k∈ks
 ·rw[if_pos (c8s h),if_pos h]
  unfold KS
  rw[L8]
  apply R3
  intro a _
  show(if(Sum.inl (a:Int):Key)=Sum.inl (k:Int)then ((Sum.inl (a:Int):Key),V.bl true)else ((Sum.inl (a:Int):Key),V.bl true))=_
  split <;> rfl
 ·rw[if_neg (by simpa using h),if_neg h]
  simp[KS]
theorem Y3{k:Nat}:j∈a4m ks k↔j∈ks\/j=k:=by
 unfold a4m
 split
 ·rename_i h
  exact⟨.inl,fun q=>q.elim id fun z=>z ▸ h⟩
 ·simp
theorem a8a{k:Nat}(h:ks.Nodup):(a4m ks k).Nodup:=by
 unfold a4m
 split
 ·exact h
 ·rename_i hk
  rw[V0]
  exact⟨h,by simp,fun a ha b hb=>by rw[g8.mp hb];intro z;exact hk (z ▸ ha)⟩
theorem c5e(ks:List Nat):(KS ks).length=ks.length:=by simp[KS]
theorem a6r:∀(n:Nat) (ks:List Nat),ks.Nodup->(∀k∈ks,k<n)->ks.length<=n:=by
 intro n
 induction n with
 | zero=>
  intro ks _ h
  cases ks with
  | nil=>exact g9 _
  | cons a r=>exact absurd (h a D8) (Nat.not_lt_zero _)
 | succ n ih=>
  intro ks nd h
  by_cases hn:n∈ks
  ·have:=ih (ks.erase n) (nd.erase n) fun k hk=>by
    have h1:=(List.Nodup.mem_erase_iff nd).mp hk
    have:=h k h1.2
    have:=h1.1
    omega
   rw[a3N hn]at this
   omega
  ·have:=ih ks nd fun k hk=>by
    have:=h k hk
    have:k≠n:=fun z=>hn (z ▸ hk)
    omega
   omega
theorem a4L(h:H d=some (.dK (KS ks)))(k:Nat):∃o,a3C H d (.int (k:Int)) o/\o.isSome=decide (k∈ks):=⟨_,a3C.k (k:=Sum.inl (k:Int)) h,b9J ks k⟩
theorem b1B(h:H d=some (.dK (KS ks)))(hl:ks.length<100000)(k:Nat):a4W H d (.int (k:Int)) (.bl true) (upd H d (.dK (KS (a4m ks k)))):=by
 rw[<-c5d]
 exact a4W.k (k:=Sum.inl (k:Int)) h (F9 (by rw[c5e];exact hl))
end RD
namespace RD
variable{C a b d dx na p ra:Addr}{H H' H0 H1:Hp}{o:HO}{xs ys:List V}{i j m:Nat}{D:a6E}{σ:St}{ta te:TE}{tt:TT}{Q:VK}{v:V}{z:Str}{ks l:List Nat}{QD:Hp->Prop}{R:It->Hp->Prop}{M N:Nt}{ns:List Int}{as rs:List Addr}{Z:Addr->Prop}{Do:Nat->Bool}{kvs:List (Key×V)}{RC:Nat->List V}{ss:List Str}
theorem b8X:∀(l m:List Nat),l.Nodup->(∀x∈l,x∈m)->l.length<=m.length
 | [],_,_,_=>J7 _
 | a::r,m,nd,h=>by
  have ha:=h a D8
  have:=b8X r (m.erase a) (F0.mp nd).2 fun x hx=>(b7f (show x≠a from fun z=>(F0.mp nd).1 (z ▸ hx))).mpr (h x (A9 _ hx))
  rw[a3N ha]at this
  have:=a4N ha
  rw[C0]
  omega
inductive Gd(N:Nt):Nat->Prop
 | stop {k:Nat}:N[k]? = some []->Gd N k
 | step {k t:Nat} {l:List Nat}:N[k]? = some l->t∈l->Gd N t->Gd N k
inductive Rc(N:Nt):Nat->Prop
 | zero:Rc N 0
 | step {k t:Nat} {l:List Nat}:Rc N k->N[k]? = some l->t∈l->Rc N t
structure a0t(N:Nt):Prop where
 pos:0<N.length
 le:N.length<=400
 two:∀l∈N,l.length<=2
 lt:∀l∈N,∀t∈l,t<N.length
 rc:∀k,k<N.length->Rc N k
 gd:∀k,k<N.length->Gd N k
def a2z(N:Nt)(G:List Nat):List (List Nat):=(E7 N.length).map fun k=>if k∈G then N.getD k [] else (N.length - 1)::(N.getD k []).drop 1
theorem b0i(N:Nt)(G:List Nat):(a2z N G).length=N.length:=by simp[a2z]
theorem a8Y{G:List Nat}{k:Nat}(h:k<N.length):(a2z N G)[k]? = some (if k∈G then N.getD k [] else (N.length - 1)::(N.getD k []).drop 1):=by
 unfold a2z
 rw[c9,a6G h]
 rfl
theorem a6s{G:List Nat}{k:Nat}(h:N[k]? = some l)(hk:k∈G):(a2z N G)[k]? = some l:=by
 have hl:=(o3.mp h).1
 rw[a8Y hl,if_pos hk]
 simp[N4,h]
theorem b0h{G:List Nat}{k:Nat}(h:N[k]? = some l)(hk:¬k∈G):(a2z N G)[k]? = some ((N.length - 1)::l.drop 1):=by
 have hl:=(o3.mp h).1
 rw[a8Y hl,if_neg hk]
 simp[N4,h]
theorem c1M{G:List Nat}(hG:∀k∈G,Gd N k)(hl:N[N.length - 1]? = some [])(hm:N.length - 1∈G):∀k,k<N.length->Gd (a2z N G) k:=by
 have last:Gd (a2z N G) (N.length - 1):=.stop (a6s hl hm)
 have out:∀k,k<N.length->¬k∈G->Gd (a2z N G) k:=fun k hk h=>.step (b0h (l:=N[k]) (by simp) h) D8 last
 have go:∀k,Gd N k->Gd (a2z N G) k:=by
  intro k h
  induction h with
  | @stop k h=>
   by_cases hk:k∈G
   ·exact .stop (a6s h hk)
   ·exact out k (o3.mp h).1 hk
  | @step k t l h ht _ ih=>
   by_cases hk:k∈G
   ·exact .step (a6s h hk) ht ih
   ·exact out k (o3.mp h).1 hk
 intro k hk
 by_cases h:k∈G
 ·exact go k (hG k h)
 ·exact out k hk h
theorem b3a{G:List Nat}(hp:0<N.length)(hs:∀l∈N,l.length<=2/\∀t∈l,t<N.length)(hl:N[N.length - 1]? = some [])(hm:N.length - 1∈G):∀l∈a2z N G,l.length<=2/\∀t∈l,t<N.length:=by
 intro l hl'
 obtain⟨k,hk⟩:=G5.mp hl'
 have hkl:k<N.length:=by have:=(o3.mp hk).1;rwa [b0i]at this
 rw[a8Y hkl]at hk
 have e:N.getD k []=N[k]:=by simp[N4,hkl]
 rw[e]at hk
 obtain⟨h1,h2⟩:=hs N[k] (D6 _)
 by_cases hg:k∈G
 ·rw[if_pos hg]at hk
  cases hk
  exact⟨h1,h2⟩
 ·rw[if_neg hg]at hk
  cases hk
  refine⟨?_,fun t ht=>?_⟩
  ·rw[C0,a9w];omega
  ·rcases d5.mp ht with z | z
   ·omega
   ·exact h2 t (List.drop_subset _ _ z)
def a5t(N:Nt)(O:List Nat):List (List Nat):=O.map fun k=>(N.getD k []).map fun t=>O.idxOf t
theorem b9g{O:List Nat}{t:Nat}(h:t∈O):O.idxOf t<O.length:=b3H.mpr h
theorem b0D{O:List Nat}{k:Nat}(hk:k∈O)(h:N[k]? = some l):(a5t N O)[O.idxOf k]? = some (l.map fun t=>O.idxOf t):=by
 unfold a5t
 have:O[O.idxOf k]? = some k:=by
  rw[d8 (b9g hk)]
  simp
 rw[c9,this]
 simp[N4,h]
theorem b4Q{O:List Nat}(h0:0∈O)(hs:O.Pairwise (· <= ·)):O.idxOf 0=0:=by
 cases O with
 | nil=>cases h0
 | cons a r=>
  have:a=0:=by
   rcases d5.mp h0 with z | z
   ·exact z.symm
   ·have:=(List.pairwise_cons.mp hs).1 0 z
    omega
  subst this
  simp
theorem b5R{O:List Nat}(h0:0∈O)(hs:O.Pairwise (· <= ·))(hnd:O.Nodup)(hlt:∀k∈O,k<N.length)(hN:N.length<=400)(hcl:∀k∈O,∀l,N[k]? = some l->∀t∈l,t∈O)(hrc:∀k∈O,Rc N k)
  (hsm:∀l∈N,l.length<=2) (hgd:∀k,k<N.length->Gd N k):a0t (a5t N O):=by
 have hlen:(a5t N O).length=O.length:=by simp[a5t]
 have rc:∀k,Rc N k->k∈O/\Rc (a5t N O) (O.idxOf k):=by
  intro k h
  induction h with
  | zero=>
   refine⟨h0,?_⟩
   rw[b4Q h0 hs]
   exact .zero
  | @step k t l _ hl ht ih=>
   obtain⟨i1,i2⟩:=ih
   exact⟨hcl k i1 l hl t ht,.step i2 (b0D i1 hl) (A2.mpr ⟨t,ht,rfl⟩)⟩
 have gd:∀k,Gd N k->k∈O->Gd (a5t N O) (O.idxOf k):=by
  intro k h
  induction h with
  | @stop k h=>
   intro hk
   exact .stop (by rw[b0D hk h];rfl)
  | @step k t l h ht _ ih=>
   intro hk
   exact .step (b0D hk h) (A2.mpr ⟨t,ht,rfl⟩) (ih (hcl k hk l h t ht))
 have at_:∀i,i<O.length->∃k∈O,O.idxOf k=i:=fun i hi=>⟨O[i],D6 _,hnd.idxOf_getElem i hi⟩
 have mem:∀l∈a5t N O,∃k∈O,∃l',N[k]? = some l'/\l=l'.map fun t=>O.idxOf t:=by
  intro l hl
  obtain⟨k,hk,rfl⟩:=A2.mp hl
  refine⟨k,hk,N[k]'(hlt k hk),by simp[hlt k hk],?_⟩
  simp[N4,hlt k hk]
 refine⟨?_,?_,fun l hl=>?_,fun l hl t ht=>?_,fun i hi=>?_,fun i hi=>?_⟩
 ·rw[hlen]
  exact a4N h0
 ·rw[hlen]
  exact F6 (a6r _ _ hnd hlt) hN
 ·obtain⟨k,hk,l',e,rfl⟩:=mem l hl
  rw[b7]
  exact hsm l' (V1 e)
 ·obtain⟨k,hk,l',e,rfl⟩:=mem l hl
  obtain⟨t',ht',rfl⟩:=A2.mp ht
  rw[hlen]
  exact b9g (hcl k hk l' e t' ht')
 ·rw[hlen]at hi
  obtain⟨k,hk,rfl⟩:=at_ i hi
  exact(rc k (hrc k hk)).2
 ·rw[hlen]at hi
  obtain⟨k,hk,rfl⟩:=at_ i hi
  exact gd k (hgd k (hlt k hk)) hk
end RD
namespace RD
open PySem PySem.Spec PyProof.Rows L2
variable{C a b d dx na p ra:Addr}{H H' H0 H1:Hp}{o:HO}{xs ys:List V}{i j m:Nat}{D:a6E}{σ:L2.St}{ta te:TE}{tt:TT}{Q:VK}{v:V}{z:Str}{ks l:List Nat}{QD:Hp->Prop}{R:It->Hp->Prop}{M N:Nt}{ns:List Int}{as rs:List Addr}{Z:Addr->Prop}{Do:Nat->Bool}{kvs:List (Key×V)}{RC:Nat->List V}{ss:List Str}
structure Cn where
 M7:Addr
 a3E:Addr
 Q6:Addr
variable{c:Cn}
structure a3D(K:Fg)(c:Cn):Prop where
 L7:Cls K c.M7
 a0n:a2o K c.M7 "entries"
 O2:a2o K c.M7 "nexts"
 K9:a2o K c.M7 "rows"
 b1Y:∀H,SqT K H c.a3E [.str "plus",.str "minus",.str "times",.str "less",.str "same"]
 a1K:∀H,SqT K H c.Q6 [.int (-1),.int (0)]
def spD(n m:Nat)(t:TS):Sp:=fun vs H Q _=>vs.length=n/\t { nx:=fun _ H'=>Q .non H',rt:=Q } (vs.map some++C7 (m - vs.length) none) H
def c2s(K:Fg):TS:=F8 (a0T (b6 (tC (.int 0)) (b6 (tC (.int 1234567891)) (b6 (tC (.int 0)) (b6 (V5 (U5 K (tSl (c3l K) (c6 0) a2r (a7E (tC (.int 63))))) T5 (tCB b8v (b6 (c6 0) i9))) i9)))))
def b0H(K:Fg):Sp:=spD 1 1 (c2s K)
def b7J(K:Fg):TS:=z6 (K6 (C8 (tOp qEq (tOp qIx (c6 0) (tC (.int 0))) (tC (.int 0)))) (z6 (E5 (tC (.int 12345)) (u4 2)) (z6 (K6 (C8 (tOp qLt (tOp qIx (c6 0) (tC (.int 2))) (tCB S8 (b6 (tOp qIx (c6 0) (tC (.int 3))) i9)))) (z6 (E5 (tOp qIx (tOp qIx (c6 0) (tC (.int 3))) (tOp qIx (c6 0) (tC (.int 2)))) (u4 3)) (z6 (b5l (c6 0) (tC (.int 2)) (tC (.int 1)) b6f (ipI fun i j=>i+j) b1a) (z6 (K6 (C8 (tOp qGe (c6 3) (tC (.int 1000000000000000000)))) (E5 (c6 3) (b6I (c6 0) (tC (.int 0)) b1a)) D3) (E5 (tOp a3b (tOp a6Z (c6 3) (tC (.int 2147483647))) (tC (.int 1))) (u4 2))))) D3) (E5 (tOp a6Z (tOp a3b (tOp b2K (tOp qIx (c6 0) (tC (.int 1))) (tC (.int 48271))) (c6 2)) (tC (.int 2147483647))) (b6I (c6 0) (tC (.int 1)) b1a)))) D3) (z6 (K6 (C8 (tOp qGt (tOp qIx (c6 0) (tC (.int 0))) (tC (.int 0)))) (z6 (E5 (tOp a6Z (tOp qIx (c6 0) (tC (.int 0))) (c6 1)) (u4 4)) (z6 (E5 (tOp c0C (tOp qIx (c6 0) (tC (.int 0))) (c6 1)) (b6I (c6 0) (tC (.int 0)) b1a)) (F8 (c6 4)))) D3) (z6 (E5 (tOp a6Z (tOp b2K (tOp qIx (c6 0) (tC (.int 1))) (tC (.int 39373))) (tC (.int 1000000007))) (u4 5)) (z6 (E5 (tOp a6Z (tOp b2K (c6 5) (tC (.int 30011))) (tC (.int 998244353))) (u4 6)) (z6 (K6 (C8 (tOp qGt (c6 1) (tC (.int 1000000)))) (F8 (tOp a6Z (tOp a3b (tOp b2K (c6 6) (tC (.int 1000000000))) (c6 5)) (c6 1))) D3) (F8 (tOp a6Z (tOp c0C (c6 6) (tC (.int 3))) (c6 1)))))))
def F4(K:Fg):Sp:=spD 2 7 (b7J K)
def b7K(K:Fg):TS:=z6 (E5 (a0T (b6 (tC (.str "a")) (b6 (tC (.str "b1")) (b6 (tC (.str "set")) (b6 (tC (.str "k0")) (b6 (tC (.str "ask")) (b6 (tC (.str "k1")) (b6 (tC (.str "total")) (b6 (tC (.str "x2y3z4w5")) (b6 (tC (.str "k2")) (b6 (tC (.str "take")) i9))))))))))) (u4 1)) (z6 (E5 (v7 (F4 K) [] E0 (b6 (c6 0) (b6 (tC (.int 10)) i9))) (u4 2)) (F8 (V5 (a1l (b6 (tOp a3b (tC (.int 2)) (v7 (F4 K) [] E0 (b6 (c6 0) (b6 (tC (.int 3)) i9)))) i9)) T5 (tOp qIx (c6 2) (tOp a6Z (tOp a3b (c6 3) (tOp b2K (tC (.int 3)) (c6 0))) (tC (.int 10)))))))
def a7V(K:Fg):Sp:=spD 1 3 (b7K K)
def c2r(K:Fg):TS:=z6 (E5 (a0T i9) (u4 2)) (z6 (a1q (a1l (b6 (c6 1) i9)) (u4 3) (z6 (E5 (tCB b8u (b6 (tOp a3b (c6 3) (tC (.int 1))) (b6 (tOp b6e (c6 1) (tC (.int 1))) i9))) (u4 4)) (z6 (E5 (a0T (b6 (c6 4) (b6 (v7 (F4 K) [] E0 (b6 (c6 0) (b6 (c6 1) i9))) i9))) (u4 5)) (z6 (E5 (v7 (F4 K) [] E0 (b6 (c6 0) (b6 (tC (.int 8)) i9))) (u4 6)) (z6 (K6 (C8 (tOp qLt (c6 6) (tC (.int 3)))) (E5 (a0T (b6 (tOp qIx (c6 5) (tC (.int 1))) (b6 (c6 4) i9))) (u4 5)) D3) (z6 (K6 (C8 (tOp qEq (c6 6) (tC (.int 3)))) (E5 (a0T (b6 (tOp qIx (c6 5) (tC (.int 1))) (b6 (v7 (F4 K) [] E0 (b6 (c6 0) (b6 (c6 1) i9))) i9))) (u4 5)) D3) (z6 (K6 (tOr (a9A (C8 (tOp qGt (c6 6) (tC (.int 3)))) (C8 (tOp qLt (c6 6) (tC (.int 7))))) (C8 (tOp qEq (c6 1) (tC (.int 1))))) (E5 (a0T (b6 (c6 4) i9)) (u4 5)) D3) (z6 (K6 (a9A (C8 (tOp qEq (c6 6) (tC (.int 7)))) (C8 (tOp qGt (c6 1) (tC (.int 1))))) (E5 (a0T (b6 (tOp qIx (c6 5) (tC (.int 1))) i9)) (u4 5)) D3) (z6 (K6 (tOr (C8 (tOp qEq (c6 3) (tOp b6e (c6 1) (tC (.int 1))))) (a9A (C8 (tOp qEq (c6 6) (tC (.int 6)))) (C8 (tOp qEq (v7 (F4 K) [] E0 (b6 (c6 0) (b6 (tC (.int 4)) i9))) (tC (.int 0)))))) (E5 (a0T i9) (u4 5)) D3) (a0B (tBM K "list" a0h (c6 2) (b6 (c6 5) i9)))))))))))) (F8 (c6 2)))
def b0G(K:Fg):Sp:=spD 2 7 (c2r K)
def b2t(K:Fg):TS:=z6 (E5 a4c (u4 1)) (z6 (a1q (a1l (b6 (tCB S8 (b6 (c6 0) i9)) i9)) (u4 2) (a1q (a1l (b6 (tCB S8 (b6 (c6 0) i9)) i9)) (u4 3) (K6 (tOr (C8 (tOp qEq (tOp qIx (c6 0) (c6 3)) (a0T i9))) (tB (tCB b4p (b6 (V5 (U5 K (tOp qIx (c6 0) (c6 3))) T5 (b0C (c6 0) (c6 2))) i9)))) (a0N (c6 1) (c6 3) (tC (.bl true))) D3))) (z6 (E5 (V5 (a1l (b6 (tCB S8 (b6 (c6 0) i9)) i9)) T5 (tIf (tB (b0C (c6 0) (c6 2))) (tOp qIx (c6 1) (c6 0)) (tOp a3b (a0T (b6 (tOp b6e (tCB S8 (b6 (c6 1) i9)) (tC (.int 1))) i9)) (tSl qSl (tOp qIx (c6 1) (c6 0)) (a7E (tC (.int 1))) a2r)))) (u4 0)) (z6 (E5 (b2w ((tC (.int 0),tC (.bl true))::[])) (u4 4)) (z6 (a1q (a1l (b6 (tCB S8 (b6 (c6 0) i9)) i9)) (u4 2) (a1q (a1l (b6 (tCB S8 (b6 (c6 0) i9)) i9)) (u4 3) (K6 (tB (b0C (c6 3) (c6 4))) (a1q (U5 K (tOp qIx (c6 0) (c6 3))) (u4 5) (a0N (c6 4) (c6 5) (tC (.bl true)))) D3))) (z6 (E5 (tCB a4K (b6 (tCB a4l (b6 (c6 4) i9)) i9)) (u4 6)) (F8 (V5 (U5 K (c6 6)) T5 (V5 (U5 K (tOp qIx (c6 1) (c6 0))) T5 (tBM K "list" a7a (c6 8) (b6 (c6 0) i9))))))))))
def a4F(K:Fg):Sp:=spD 1 7 (b2t K)
def b0a(K:Fg):TS:=z6 (K6 (C8 (tOp qEq (v7 (F4 K) [] E0 (b6 (c6 0) (b6 (tC (.int 4)) i9))) (tC (.int 0)))) (z6 (E5 (a0T (b6 (tC (.int 0)) (b6 (tC (.int 1)) (b6 (tC (.int 999999999999)) (b6 (v7 (F4 K) [] E0 (b6 (c6 0) (b6 (tC (.int 1000000000000)) i9))) i9))))) (u4 2)) (F8 (tOp qIx (c6 2) (v7 (F4 K) [] E0 (b6 (c6 0) (b6 (tC (.int 4)) i9)))))) D3) (F8 (tOp qIx (c6 1) (v7 (F4 K) [] E0 (b6 (c6 0) (b6 (tCB S8 (b6 (c6 1) i9)) i9)))))
def Y1(K:Fg):Sp:=spD 2 3 (b0a K)
def b7O(K:Fg):TS:=z6 (E5 (a0T (b6 (tC (.str "plus")) (b6 (tC (.str "minus")) (b6 (tC (.str "times")) (b6 (tC (.str "less")) (b6 (tC (.str "same")) i9)))))) (u4 2)) (F8 (a0S (b6 (tOp qIx (c6 2) (v7 (F4 K) [] E0 (b6 (c6 0) (b6 (tC (.int 5)) i9)))) (b6 (v7 (Y1 K) [] E0 (b6 (c6 0) (b6 (c6 1) i9))) (b6 (v7 (Y1 K) [] E0 (b6 (c6 0) (b6 (c6 1) i9))) i9)))))
def a7Y(K:Fg):Sp:=spD 2 3 (b7O K)
def c2q(K:Fg):TS:=z6 (K6 (tB (c6 3)) (F8 (a0S (b6 (tC (.str "ask")) (b6 (v7 (Y1 K) [] E0 (b6 (c6 0) (b6 (c6 1) i9))) i9)))) D3) (z6 (E5 (v7 (F4 K) [] E0 (b6 (c6 0) (b6 (tC (.int 9)) i9))) (u4 4)) (z6 (E5 (tOp qIx (c6 1) (v7 (F4 K) [] E0 (b6 (c6 0) (b6 (tCB S8 (b6 (c6 1) i9)) i9)))) (u4 5)) (z6 (K6 (C8 (tOp qLt (c6 4) (tC (.int 4)))) (F8 (a0S (b6 (tC (.str "set")) (b6 (c6 5) (b6 (tOp qIx (c6 2) (v7 (F4 K) [] E0 (b6 (c6 0) (b6 (tCB S8 (b6 (c6 2) i9)) i9)))) i9))))) D3) (z6 (K6 (C8 (tOp qLt (c6 4) (tC (.int 7)))) (F8 (a0S (b6 (tC (.str "copy")) (b6 (c6 5) (b6 (v7 (Y1 K) [] E0 (b6 (c6 0) (b6 (c6 1) i9))) i9))))) D3) (z6 (K6 (C8 (tOp qEq (c6 4) (tC (.int 7)))) (F8 (tOp qIx (a0T (b6 (a0S (b6 (tC (.str "take")) (b6 (c6 5) i9))) (b6 (a0S (b6 (tC (.str "tell")) (b6 (v7 (Y1 K) [] E0 (b6 (c6 0) (b6 (c6 1) i9))) i9))) i9))) (v7 (F4 K) [] E0 (b6 (c6 0) (b6 (tC (.int 2)) i9))))) D3) (F8 (a0S (b6 (tC (.str "skip")) i9))))))))
def b0F(K:Fg):Sp:=spD 4 6 (c2q K)
def b7L(K:Fg):TS:=z6 (E5 (v7 (a7V K) [] E0 (b6 (c6 0) i9)) (u4 1)) (z6 (E5 (tOp a3b (tC (.int 1)) (v7 (F4 K) [] E0 (b6 (c6 0) (b6 (tC (.int 9)) i9)))) (u4 2)) (z6 (E5 (tOp a3b (tC (.int 1)) (v7 (F4 K) [] E0 (b6 (c6 0) (b6 (tC (.int 5)) i9)))) (u4 3)) (z6 (K6 (C8 (tOp qEq (v7 (F4 K) [] E0 (b6 (c6 0) (b6 (tC (.int 8)) i9))) (tC (.int 7)))) (z6 (E5 (tOp a3b (tC (.int 15)) (v7 (F4 K) [] E0 (b6 (c6 0) (b6 (tC (.int 10)) i9)))) (u4 2)) (E5 (tOp a3b (tC (.int 1)) (v7 (F4 K) [] E0 (b6 (c6 0) (b6 (tC (.int 3)) i9)))) (u4 3))) D3) (z6 (E5 (v7 (a4F K) [] E0 (b6 (v7 (b0G K) [] E0 (b6 (c6 0) (b6 (c6 2) i9))) i9)) (u4 4)) (z6 (E5 (V5 (a1l (b6 (c6 3) i9)) T5 (v7 (a7Y K) [] E0 (b6 (c6 1) (b6 (c6 2) i9)))) (u4 5)) (z6 (fun D σ H=>(V5 (U5 K (c6 4)) T5 (v7 (b0F K) [] E0 (b6 (c6 1) (b6 (c6 2) (b6 (c6 6) (b6 (tOp qEq (tCB S8 (b6 (c6 0) i9)) (tC (.int 2))) i9)))))) σ H fun v H1=>D.nx (σ.set 6 (some v)) H1) (F8 (a0S (b6 (c6 6) (b6 (c6 4) i9))))))))))
def a7W(K:Fg):Sp:=spD 1 7 (b7L K)
def a4a(K:Fg):TS:=z6 (K6 (tOr (a4b (tB (tCB a3q (b6 (c6 0) (b6 (tC (.ty "list")) i9))))) (C8 (tOp qLt (tCB S8 (b6 (c6 0) i9)) (c6 2)))) (fun _ _ _=>False) D3) (K6 (C8 (tOp qGt (tCB S8 (b6 (c6 0) i9)) (tC (.int 400)))) (fun _ _ _=>False) D3)
def a0g(K:Fg):Sp:=spD 3 3 (a4a K)
def a6N(K:Fg):TS:=z6 (K6 (tOr (a4b (tB (tCB a3q (b6 (c6 0) (b6 (tC (.ty "str")) i9))))) (a4b (C8 (a4d qLe qLe (tC (.int 1)) (tCB S8 (b6 (c6 0) i9)) (tC (.int 8)))))) (F8 (tC (.bl false))) D3) (F8 (a0a (tOp (qIn false) (tOp qIx (c6 0) (tC (.int 0))) (tC (.str "abcdefghijklmnopqrstuvwxyz"))) (tCB b1b (b6 (V5 (c1I (c6 0)) T5 (tOp (qIn false) (c6 0) (tOp a3b (tC (.str "abcdefghijklmnopqrstuvwxyz")) (tC (.str "0123456789"))))) i9))))
def W4(K:Fg):Sp:=spD 1 1 (a6N K)
def b3U(K:Fg):TS:=F8 (a0a (tCB a3q (b6 (c6 0) (b6 (tC (.ty "int")) i9))) (b2v (tCB a3q (b6 (c6 0) (b6 (tC (.ty "bool")) i9)))))
def a1j(K:Fg):Sp:=spD 1 1 (b3U K)
def a8x(K:Fg):TS:=F8 (a0a (v7 (a1j K) [] E0 (b6 (c6 0) i9)) (a4d qLe qLt (tC (.int 0)) (c6 0) (tC (.int 1000000000000))))
def a2v(K:Fg):Sp:=spD 1 1 (a8x K)
def a5Z(K:Fg):TS:=F8 (c0m (v7 (W4 K) [] E0 (b6 (c6 0) i9)) (v7 (a2v K) [] E0 (b6 (c6 0) i9)))
def U3(K:Fg):Sp:=spD 1 1 (a5Z K)
def b0b(K:Fg)(c:Cn):TS:=z6 (K6 (tOr (a4b (tB (tCB a3q (b6 (c6 0) (b6 (tC (.ty "tuple")) i9))))) (C8 (tOp qNe (tCB S8 (b6 (c6 0) i9)) (tC (.int 3))))) (F8 (tC (.bl false))) D3) (F8 (a0a (tOp (c3u K) (tOp qIx (c6 0) (tC (.int 0))) (tC (.ref c.a3E))) (a0a (v7 (U3 K) [] E0 (b6 (tOp qIx (c6 0) (tC (.int 1))) i9)) (v7 (U3 K) [] E0 (b6 (tOp qIx (c6 0) (tC (.int 2))) i9)))))
def a3k(K:Fg)(c:Cn):Sp:=spD 1 1 (b0b K c)
def b2u(K:Fg)(c:Cn):TS:=z6 (K6 (tOr (a4b (tB (tCB a3q (b6 (c6 0) (b6 (tC (.ty "tuple")) i9))))) (C8 (tOp qEq (tCB S8 (b6 (c6 0) i9)) (tC (.int 0))))) (F8 (tC (.bl false))) D3) (z6 (E5 (tOp qIx (c6 0) (tC (.int 0))) (u4 1)) (z6 (E5 (tSl qSl (c6 0) (a7E (tC (.int 1))) a2r) (u4 2)) (z6 (K6 (C8 (tOp qEq (c6 1) (tC (.str "set")))) (F8 (a0a (tOp qEq (tCB S8 (b6 (c6 2) i9)) (tC (.int 2))) (a0a (v7 (W4 K) [] E0 (b6 (tOp qIx (c6 2) (tC (.int 0))) i9)) (v7 (a3k K c) [] E0 (b6 (tOp qIx (c6 2) (tC (.int 1))) i9))))) D3) (z6 (K6 (C8 (tOp qEq (c6 1) (tC (.str "copy")))) (F8 (a0a (tOp qEq (tCB S8 (b6 (c6 2) i9)) (tC (.int 2))) (a0a (v7 (W4 K) [] E0 (b6 (tOp qIx (c6 2) (tC (.int 0))) i9)) (v7 (U3 K) [] E0 (b6 (tOp qIx (c6 2) (tC (.int 1))) i9))))) D3) (z6 (K6 (C8 (tOp qEq (c6 1) (tC (.str "take")))) (F8 (a0a (tOp qEq (tCB S8 (b6 (c6 2) i9)) (tC (.int 1))) (v7 (W4 K) [] E0 (b6 (tOp qIx (c6 2) (tC (.int 0))) i9)))) D3) (z6 (K6 (C8 (tOp (qIn false) (c6 1) (a0S (b6 (tC (.str "tell")) (b6 (tC (.str "ask")) i9))))) (F8 (a0a (tOp qEq (tCB S8 (b6 (c6 2) i9)) (tC (.int 1))) (v7 (U3 K) [] E0 (b6 (tOp qIx (c6 2) (tC (.int 0))) i9)))) D3) (F8 (a0a (tOp qEq (c6 1) (tC (.str "skip"))) (tOp qEq (tCB S8 (b6 (c6 2) i9)) (tC (.int 0)))))))))))
def a4G(K:Fg)(c:Cn):Sp:=spD 1 3 (b2u K c)
def a6b(K:Fg):TS:=a1q (a6u K (b6 (c6 0) i9)) (b1v K 2 (a1A (u4 1) (a1A (u4 2) (b1w)))) (K6 (a4b (tB (c6 2))) (fun _ _ _=>False) D3)
def a0b(K:Fg):Sp:=spD 1 3 (a6b K)
def a8y(K:Fg):TS:=F8 (a0a (v7 (a1j K) [] E0 (b6 (c6 0) i9)) (a4d qLe qLt (tC (.int 0)) (c6 0) (c6 1)))
def a2w(K:Fg):Sp:=spD 2 2 (a8y K)
def a7C(K:Fg):TS:=z6 (K6 (a4b (tB (tCB a3q (b6 (c6 1) (b6 (tC (.ty "list")) i9))))) (F8 (tC (.bl false))) D3) (z6 (E5 (tIf (C8 (tOp qEq (tOp qIx (c6 0) (tC (.int 0))) (tC (.str "ask")))) (a0S (b6 (tC (.int 2)) i9)) (a0S (b6 (tC (.int 0)) (b6 (tC (.int 1)) i9)))) (u4 3)) (F8 (a0a (tOp (qIn false) (tCB S8 (b6 (c6 1) i9)) (c6 3)) (tCB b1b (b6 (V5 (U5 K (c6 1)) T5 (v7 (a2w K) [] E0 (b6 (c6 0) (b6 (c6 3) i9)))) i9)))))
def a1H(K:Fg):Sp:=spD 3 4 (a7C K)
def a5g(K:Fg):TS:=z6 (K6 (tOr (a4b (tB (tCB a3q (b6 (c6 1) (b6 (tC (.ty "list")) i9))))) (C8 (tOp qNe (tCB S8 (b6 (c6 1) i9)) (tCB S8 (b6 (c6 0) i9))))) (fun _ _ _=>False) D3) (a0B (v7 (a0b K) [] E0 (b6 (a6P K (c1H K (b6 (c6 0) (b6 (c6 1) i9))) T5 (v7 (a1H K) [] E0 (b6 (c6 0) (b6 (c6 1) (b6 (tCB S8 (b6 (c6 2) i9)) i9))))) i9)))
def a0D(K:Fg):Sp:=spD 2 2 (a5g K)
def a9Y(K:Fg):TS:=z6 (E5 a4c (u4 2)) (z6 (E5 (tCB a0O (b6 (c6 0) i9)) (u4 3)) (z6 (a6O (C8 (tOp qGt (tCB S8 (b6 (c6 3) i9)) (tC (.int 0)))) (z6 (E5 (b7P K "list" b4m (c6 3)) (u4 4)) (K6 (tB (a1E (c6 4) (c6 2))) (z6 (a0N (c6 2) (c6 4) (tC (.bl true))) (a0B (tBM K "list" a3r (c6 3) (b6 (tOp qIx (c6 1) (c6 4)) i9)))) D3))) (F8 (c6 2))))
def a2g(K:Fg):Sp:=spD 2 5 (a9Y K)
def b2r(K:Fg):TS:=z6 (fun D σ H=>(V5 (U5 K (c6 0)) T5 (a0T i9)) σ H fun v H1=>D.nx (σ.set 1 (some v)) H1) (z6 (a1q (a6u K (b6 (c6 0) i9)) (b1v K 2 (a1A (u4 2) (a1A (u4 3) (b1w)))) (a1q (U5 K (c6 3)) (u4 4) (a0B (tBM K "list" a0h (tOp qIx (c6 1) (c6 4)) (b6 (c6 2) i9))))) (F8 (c6 1)))
def a4E(K:Fg):Sp:=spD 1 5 (b2r K)
def a8u(K:Fg):TS:=F8 (a6P K (a6u K (b6 (c6 0) i9)) (C8 (tOp qEq (tCB S8 (b6 (c6 1) i9)) (tC (.int 0)))) (c6 0))
def a2s(K:Fg):Sp:=spD 1 1 (a8u K)
def a6a(K:Fg):TS:=z6 (E5 (v7 (a2g K) [] E0 (b6 (a0T (b6 (tC (.int 0)) i9)) (b6 (c6 0) i9))) (u4 1)) (z6 (E5 (v7 (a2g K) [] E0 (b6 (v7 (a2s K) [] E0 (b6 (c6 0) i9)) (b6 (v7 (a4E K) [] E0 (b6 (c6 0) i9)) i9))) (u4 2)) (a1q (a1l (b6 (tCB S8 (b6 (c6 0) i9)) i9)) (u4 3) (K6 (tOr (tB (a1E (c6 3) (c6 1))) (tB (a1E (c6 3) (c6 2)))) (fun _ _ _=>False) D3)))
def a1a(K:Fg):Sp:=spD 1 4 (a6a K)
def a8v(K:Fg)(c:Cn):TS:=z6 (E5 (a0T (b6 (tC (.ref c.Q6)) i9)) (u4 1)) (z6 (a1q (a6u K (b6 (c6 0) i9)) (b1v K 2 (a1A (u4 2) (a1A (u4 3) (b1w)))) (a0B (tBM K "list" a3r (c6 1) (b6 (V5 (a1l (b6 (tCB S8 (b6 (c6 3) i9)) i9)) T5 (a0S (b6 (c6 3) (b6 (c6 0) i9)))) i9)))) (F8 (c6 1)))
def a2t(K:Fg)(c:Cn):Sp:=spD 1 4 (a8v K c)
def a3H(K:Fg)(c:Cn):TS:=z6 (K6 (C8 (tOp (c3x K) (c6 1) (tC (.ref c.Q6)))) (F8 (tC (.int 0))) D3) (F8 (tOp qIx (tOp qIx (a3h K (c6 0) "nexts") (tOp qIx (c6 1) (tC (.int 0)))) (tOp qIx (c6 1) (tC (.int 1)))))
def V6(K:Fg)(c:Cn):Sp:=spD 2 2 (a3H K c)
def a7D(K:Fg)(c:Cn):TS:=z6 (a0B (v7 (a0g K) [] E0 (b6 (c6 1) (b6 (tC (.int 0)) (b6 (tC (.int 1)) i9))))) (z6 (a0B (v7 (a0b K) [] E0 (b6 (V5 (U5 K (c6 1)) T5 (v7 (a4G K c) [] E0 (b6 (c6 0) i9))) i9))) (z6 (a0B (v7 (a0D K) [] E0 (b6 (c6 1) (b6 (c6 2) i9)))) (z6 (a0B (v7 (a1a K) [] E0 (b6 (c6 2) i9))) (z6 (b6d K (c6 0) (tCB a0O (b6 (c6 1) i9)) "rows") (z6 (b6d K (c6 0) (V5 (U5 K (c6 2)) T5 (tCB a0O (b6 (c6 0) i9))) "nexts") (z6 (b6d K (c6 0) (V5 (U5 K (c6 1)) T5 (a0T i9)) "entries") (a1q (U5 K (v7 (a2t K c) [] E0 (b6 (a3h K (c6 0) "nexts") i9))) (u4 3) (a0B (tBM K "list" a0h (tOp qIx (a3h K (c6 0) "entries") (b0c c.M7 "leads_to" (V6 K c) [] E0 (c6 0) (b6 (c6 3) i9))) (b6 (c6 3) i9))))))))))
def a0E(K:Fg)(c:Cn):Sp:=spD 3 4 (a7D K c)
def b7M(K:Fg)(c:Cn):TS:=F8 (a8z c.M7 (a0E K c) [] E0 (b6 (tCB a0O (b6 (c6 0) i9)) (b6 (V5 (U5 K (c6 1)) T5 (tCB a0O (b6 (c6 0) i9))) i9)))
def a7X(K:Fg)(c:Cn):Sp:=spD 2 2 (b7M K c)
def a8w(K:Fg):TS:=z6 (E5 a4c (u4 1)) (z6 (a1q (U5 K (c6 0)) (u4 2) (z6 (E5 (tCB a0O (b6 (tSl qSl (c6 2) (a7E (tC (.int 1))) a2r) i9)) (u4 3)) (z6 (K6 (C8 (tOp qEq (tOp qIx (c6 2) (tC (.int 0))) (tC (.str "set")))) (E5 (a0T (b6 (tOp qIx (c6 2) (tC (.int 1))) (b6 (tOp qIx (tOp qIx (c6 2) (tC (.int 2))) (tC (.int 1))) (b6 (tOp qIx (tOp qIx (c6 2) (tC (.int 2))) (tC (.int 2))) i9)))) (u4 3)) D3) (a1q (U5 K (c6 3)) (u4 4) (K6 (tB (tCB a3q (b6 (c6 4) (b6 (tC (.ty "str")) i9)))) (a0N (c6 1) (c6 4) (tC (.bl true))) D3))))) (F8 (tCB b4l (b6 (tCB a4l (b6 (c6 1) i9)) i9))))
def a2u(K:Fg):Sp:=spD 1 5 (a8w K)
def a7B(K:Fg):TS:=z6 (E5 b3W (u4 1)) (z6 (a1q (U5 K (a3h K (c6 0) "rows")) (u4 2) (K6 (a9A (C8 (tOp qEq (tOp qIx (c6 2) (tC (.int 0))) (tC (.str "copy")))) (C8 (tOp qNe (tOp qIx (c6 2) (tC (.int 1))) (tOp qIx (c6 2) (tC (.int 2)))))) (a0N (c6 1) (c6 2) (tC (.bl true))) D3)) (F8 (tCB b4n (b6 (c6 1) i9))))
def a1G(K:Fg):Sp:=spD 1 3 (a7B K)
def b2s(K:Fg):TS:=F8 (tIf (C8 (tOp (qIn false) (tOp qIx (c6 0) (tC (.int 0))) (a0S (b6 (tC (.str "set")) (b6 (tC (.str "copy")) (b6 (tC (.str "take")) i9)))))) (tOp qIx (c6 0) (tC (.int 1))) (tC .non))
def a1P(K:Fg):Sp:=spD 1 1 (b2s K)
def a9Z(K:Fg):TS:=a1q (a6u K (b6 (tOp qIx (a3h K (c6 0) "nexts") (c6 1)) i9)) (b1v K 2 (a1A (u4 4) (a1A (u4 5) (b1w)))) (K6 (tB (a1E (c6 5) (c6 2))) (z6 (a0N (c6 2) (c6 5) (a0S (b6 (c6 1) (b6 (c6 4) i9)))) (a0B (tBM K "list" a0h (c6 3) (b6 (c6 5) i9)))) D3)
def a2h(K:Fg):Sp:=spD 4 6 (a9Z K)
def a3F(K:Fg)(c:Cn):TS:=z6 (E5 (b2w ((tC (.int 0),tC (.ref c.Q6))::[])) (u4 3)) (z6 (E5 (a0T (b6 (tC (.int 0)) i9)) (u4 4)) (z6 (a1q (a1l (b6 (tCB S8 (b6 (a3h K (c6 0) "rows") i9)) i9)) (u4 5) (K6 (tB (tOp qIx (c6 2) (c6 5))) (a0B (v7 (a2h K) [] E0 (b6 (c6 0) (b6 (c6 5) (b6 (c6 3) (b6 (c6 4) i9)))))) D3)) (z6 (E5 (tC (.int 0)) (u4 6)) (z6 (a6O (C8 (tOp qLt (c6 6) (tCB S8 (b6 (c6 4) i9)))) (z6 (E5 (tOp qIx (c6 4) (c6 6)) (u4 5)) (z6 (c0n 6 (tC (.int 1)) (ipI fun i j=>i+j)) (K6 (a4b (tB (tOp qIx (c6 1) (c6 5)))) (a0B (v7 (a2h K) [] E0 (b6 (c6 0) (b6 (c6 5) (b6 (c6 3) (b6 (c6 4) i9)))))) D3)))) (F8 (c6 3))))))
def Y7(K:Fg)(c:Cn):Sp:=spD 3 7 (a3F K c)
def a2W(K:Fg)(c:Cn):TS:=z6 (fun D σ H=>(V5 (U5 K (a3h K (c6 0) "rows")) T5 (tOp c3w (c6 0) (c6 2))) σ H fun v H1=>D.nx (σ.set 2 (some v)) H1) (z6 (fun D σ H=>(V5 (U5 K (a3h K (c6 0) "rows")) T5 (a0a (tOp c3t (c6 0) (c6 2)) (tOp (qIn false) (v7 (a1P K) [] E0 (b6 (c6 0) i9)) (tSl qSl (c6 2) (a7E (tC (.int 1))) a2r)))) σ H fun v H1=>D.nx (σ.set 3 (some v)) H1) (F8 (v7 (Y7 K c) [] E0 (b6 (c6 0) (b6 (c6 2) (b6 (c6 3) i9))))))
def X5(K:Fg)(c:Cn):Sp:=spD 2 4 (a2W K c)
def a2X(K:Fg)(c:Cn):TS:=z6 (fun D σ H=>(V5 (U5 K (a3h K (c6 0) "rows")) T5 a4c) σ H fun v H1=>D.nx (σ.set 1 (some v)) H1) (z6 (a1q (U5 K (v7 (a1G K) [] E0 (b6 (c6 0) i9))) (u4 2) (z6 (E5 (v7 (X5 K c) [] E0 (b6 (c6 0) (b6 (c6 2) i9))) (u4 3)) (a1q (a1l (b6 (tCB S8 (b6 (a3h K (c6 0) "rows") i9)) i9)) (u4 4) (K6 (tB (a1E (c6 4) (c6 3))) (a0N (tOp qIx (c6 1) (c6 4)) (tOp qIx (c6 2) (tC (.int 1))) (tOp qIx (c6 2) (tC (.int 2)))) D3)))) (F8 (c6 1)))
def X6(K:Fg)(c:Cn):Sp:=spD 1 5 (a2X K c)
def a3G(K:Fg):TS:=z6 (K6 (C8 (tOp qEq (tOp qIx (c6 0) (tC (.int 0))) (tC (.str "set")))) (z6 (E5 (tOp qIx (c6 0) (tC (.int 2))) (u4 2)) (F8 (a0S (b6 (tC (.str "set")) (b6 (tOp qIx (c6 0) (tC (.int 1))) (b6 (a0S (b6 (tOp qIx (c6 2) (tC (.int 0))) (b6 (a3i (c6 1) (tOp qIx (c6 2) (tC (.int 1))) (tOp qIx (c6 2) (tC (.int 1)))) (b6 (a3i (c6 1) (tOp qIx (c6 2) (tC (.int 2))) (tOp qIx (c6 2) (tC (.int 2)))) i9)))) i9)))))) D3) (z6 (K6 (C8 (tOp qEq (tOp qIx (c6 0) (tC (.int 0))) (tC (.str "copy")))) (F8 (a0S (b6 (tC (.str "copy")) (b6 (tOp qIx (c6 0) (tC (.int 1))) (b6 (a3i (c6 1) (tOp qIx (c6 0) (tC (.int 2))) (tOp qIx (c6 0) (tC (.int 2)))) i9))))) D3) (z6 (K6 (C8 (tOp (qIn false) (tOp qIx (c6 0) (tC (.int 0))) (a0S (b6 (tC (.str "tell")) (b6 (tC (.str "ask")) i9))))) (F8 (a0S (b6 (tOp qIx (c6 0) (tC (.int 0))) (b6 (a3i (c6 1) (tOp qIx (c6 0) (tC (.int 1))) (tOp qIx (c6 0) (tC (.int 1)))) i9)))) D3) (F8 (c6 0))))
def Y8(K:Fg):Sp:=spD 2 3 (a3G K)
def a7A(K:Fg)(c:Cn):TS:=z6 (E5 (v7 (X6 K c) [] E0 (b6 (c6 0) i9)) (u4 1)) (F8 (a8z c.M7 (a0E K c) [] E0 (b6 (a6P K (a6u K (b6 (a3h K (c6 0) "rows") i9)) T5 (v7 (Y8 K) [] E0 (b6 (c6 1) (b6 (tOp qIx (c6 3) (c6 0)) i9)))) (b6 (a3h K (c6 0) "nexts") i9))))
def Y9(K:Fg)(c:Cn):Sp:=spD 1 2 (a7A K c)
def b5h(K:Fg):TS:=z6 (E5 (a0T (b6 (tC (.int 0)) (b6 (tC (.int 1)) (b6 (tC (.int 2)) (b6 (tC (.int 999999999999)) (b6 (v7 (F4 K) [] E0 (b6 (c6 0) (b6 (tC (.int 1000000000000)) i9))) (b6 (v7 (F4 K) [] E0 (b6 (c6 0) (b6 (tC (.int 9)) i9))) i9))))))) (u4 1)) (F8 (tOp qIx (c6 1) (v7 (F4 K) [] E0 (b6 (c6 0) (b6 (tC (.int 6)) i9)))))
def a2f(K:Fg):Sp:=spD 1 2 (b5h K)
def b5i(K:Fg):TS:=z6 (E5 a4c (u4 2)) (z6 (a1q (U5 K (c6 1)) (u4 3) (K6 (C8 (tOp qEq (v7 (F4 K) [] E0 (b6 (c6 0) (b6 (tC (.int 2)) i9))) (tC (.int 0)))) (a0N (c6 2) (c6 3) (v7 (a2f K) [] E0 (b6 (c6 0) i9))) D3)) (z6 (K6 (C8 (tOp qEq (v7 (F4 K) [] E0 (b6 (c6 0) (b6 (tC (.int 2)) i9))) (tC (.int 0)))) (a0N (c6 2) (tC (.str "rest")) (v7 (a2f K) [] E0 (b6 (c6 0) i9))) D3) (z6 (K6 (a9A (C8 (tOp qEq (v7 (F4 K) [] E0 (b6 (c6 0) (b6 (tC (.int 4)) i9))) (tC (.int 0)))) (C8 (tOp (qIn true) (tC (.str "k3")) (c6 1)))) (a0N (c6 2) (tC (.str "k3")) (v7 (a2f K) [] E0 (b6 (c6 0) i9))) D3) (F8 (c6 2)))))
def a6f(K:Fg):Sp:=spD 2 4 (b5i K)
def a8t(K:Fg):TS:=z6 (K6 (tB (tCB a3q (b6 (c6 0) (b6 (tC (.ty "str")) i9)))) (F8 (a3i (c6 1) (c6 0) (tC (.int 0)))) D3) (F8 (c6 0))
def W3(K:Fg):Sp:=spD 2 2 (a8t K)
def b5g(K:Fg):TS:=z6 (E5 (tOp qIx (c6 0) (tC (.int 0))) (u4 2)) (z6 (E5 (v7 (W3 K) [] E0 (b6 (tOp qIx (c6 0) (tC (.int 1))) (b6 (c6 1) i9))) (u4 3)) (z6 (E5 (v7 (W3 K) [] E0 (b6 (tOp qIx (c6 0) (tC (.int 2))) (b6 (c6 1) i9))) (u4 4)) (z6 (K6 (C8 (tOp qEq (c6 2) (tC (.str "plus")))) (F8 (tOp a6Z (tOp a3b (c6 3) (c6 4)) (tC (.int 1000000000000)))) D3) (z6 (K6 (C8 (tOp qEq (c6 2) (tC (.str "minus")))) (F8 (tOp a6Z (tOp b6e (c6 3) (c6 4)) (tC (.int 1000000000000)))) D3) (z6 (K6 (C8 (tOp qEq (c6 2) (tC (.str "times")))) (F8 (tOp a6Z (tOp b2K (c6 3) (c6 4)) (tC (.int 1000000000000)))) D3) (z6 (K6 (C8 (tOp qEq (c6 2) (tC (.str "less")))) (F8 (tIf (C8 (tOp qLt (c6 3) (c6 4))) (tC (.int 1)) (tC (.int 0)))) D3) (F8 (tIf (C8 (tOp qEq (c6 3) (c6 4))) (tC (.int 1)) (tC (.int 0))))))))))
def a6e(K:Fg):Sp:=spD 2 5 (b5g K)
def a7z(K:Fg):TS:=z6 (K6 (C8 (tOp qEq (tOp qIx (c6 0) (tC (.int 0))) (tC (.str "set")))) (F8 (v7 (a6e K) [] E0 (b6 (tOp qIx (c6 0) (tC (.int 2))) (b6 (c6 1) i9)))) D3) (z6 (K6 (C8 (tOp qEq (tOp qIx (c6 0) (tC (.int 0))) (tC (.str "copy")))) (F8 (v7 (W3 K) [] E0 (b6 (tOp qIx (c6 0) (tC (.int 2))) (b6 (c6 1) i9)))) D3) (F8 (tIf (C8 (tOp qGt (tCB S8 (b6 (c6 2) i9)) (tC (.int 0)))) (b7P K "list" b4m (c6 2)) (tC (.int 0)))))
def a1F(K:Fg):Sp:=spD 3 3 (a7z K)
def a5f(K:Fg):TS:=z6 (K6 (a9A (C8 (tOp qEq (tOp qIx (c6 1) (tC (.int 0))) (tC (.str "ask")))) (C8 (tOp qEq (v7 (W3 K) [] E0 (b6 (tOp qIx (c6 1) (tC (.int 1))) (b6 (c6 2) i9))) (tC (.int 0))))) (F8 (a0S (b6 (c6 0) (b6 (tC (.int 1)) i9)))) D3) (F8 (a0S (b6 (c6 0) (b6 (tC (.int 0)) i9))))
def a0C(K:Fg):Sp:=spD 3 3 (a5f K)
def c2p(K:Fg)(c:Cn):TS:=z6 (E5 (tCB a5i (b6 (c6 1) i9)) (u4 4)) (z6 (E5 (b5k (c6 2)) (u4 5)) (z6 (E5 (a0T i9) (u4 6)) (z6 (E5 (a0T i9) (u4 7)) (z6 (E5 (tC (.ref c.Q6)) (u4 8)) (z6 (E5 (tC (.bl false)) (u4 9)) (z6 (a6O (a9A (C8 (tOp qLt (tCB S8 (b6 (c6 7) i9)) (c6 3))) (a4b (tB (c6 9)))) (z6 (a0B (tBM K "list" a0h (c6 7) (b6 (c6 8) i9))) (z6 (E5 (b0c c.M7 "leads_to" (V6 K c) [] E0 (c6 0) (b6 (c6 8) i9)) (u4 10)) (z6 (E5 (tOp qIx (a3h K (c6 0) "rows") (c6 10)) (u4 11)) (z6 (K6 (C8 (tOp b4o (v7 (a1P K) [] E0 (b6 (c6 11) i9)) (tC .non))) (a0N (c6 4) (v7 (a1P K) [] E0 (b6 (c6 11) i9)) (v7 (a1F K) [] E0 (b6 (c6 11) (b6 (c6 4) (b6 (c6 5) i9))))) (K6 (C8 (tOp qEq (tOp qIx (c6 11) (tC (.int 0))) (tC (.str "tell")))) (a0B (tBM K "list" a0h (c6 6) (b6 (v7 (W3 K) [] E0 (b6 (tOp qIx (c6 11) (tC (.int 1))) (b6 (c6 4) i9))) i9))) D3)) (z6 (E5 (tOp qEq (tCB S8 (b6 (tOp qIx (a3h K (c6 0) "nexts") (c6 10)) i9)) (tC (.int 0))) (u4 9)) (E5 (v7 (a0C K) [] E0 (b6 (c6 10) (b6 (c6 11) (b6 (c6 4) i9)))) (u4 8)))))))) (F8 (a0S (b6 (c6 6) (b6 (c6 7) (b6 (c6 4) (b6 (c6 9) i9))))))))))))
def a4g(K:Fg)(c:Cn):Sp:=spD 4 12 (c2p K c)
def b5j(K:Fg):TS:=z6 (K6 (tOr (a4b (tB (tCB a3q (b6 (c6 0) (b6 (tC (.ty "tuple")) i9))))) (tOr (a4b (tB (tCB a3q (b6 (c6 1) (b6 (tC (.ty "tuple")) i9))))) (tOr (C8 (tOp qNe (tCB S8 (b6 (c6 0) i9)) (tC (.int 4)))) (C8 (tOp qNe (tCB S8 (b6 (c6 1) i9)) (tC (.int 4))))))) (F8 (tC (.bl false))) D3) (F8 (a0a (tOp (c3v K) (c6 0) (c6 1)) (tCB a3q (b6 (tOp qIx (c6 1) (tC (.int 3))) (b6 (tC (.ty "bool")) i9)))))
def a4h(K:Fg):Sp:=spD 2 2 (b5j K)
def b7N(K:Fg)(c:Cn):TS:=z6 (E5 (v7 (b0H K) [] E0 (b6 (c6 0) i9)) (u4 1)) (z6 (E5 (v7 (a7W K) [] E0 (b6 (c6 1) i9)) (b1v K 2 (a1A (u4 2) (a1A (u4 3) (b1w))))) (z6 (E5 (v7 (a7X K c) [] E0 (b6 (c6 2) (b6 (c6 3) i9))) (u4 4)) (z6 (E5 (v7 (a2u K) [] E0 (b6 (c6 2) i9)) (u4 5)) (z6 (E5 (v7 (Y9 K c) [] E0 (b6 (c6 4) i9)) (u4 6)) (z6 (E5 (v7 (Y9 K c) [] E0 (b6 (c6 6) i9)) (u4 7)) (z6 (a1q (a1l (b6 (tC (.int 3)) i9)) (u4 8) (z6 (E5 (v7 (a6f K) [] E0 (b6 (c6 1) (b6 (c6 5) i9))) (u4 9)) (z6 (fun D σ H=>(V5 (a1l (b6 (v7 (F4 K) [] E0 (b6 (c6 1) (b6 (tC (.int 7)) i9))) i9)) T5 (v7 (a2f K) [] E0 (b6 (c6 2) i9))) σ H fun v H1=>D.nx (σ.set 10 (some v)) H1) (z6 (E5 (v7 (F4 K) [] E0 (b6 (c6 1) (b6 (tC (.int 121)) i9))) (u4 11)) (z6 (E5 (v7 (a4g K c) [] E0 (b6 (c6 4) (b6 (tCB a5i (b6 (c6 9) i9)) (b6 (tCB a0O (b6 (c6 10) i9)) (b6 (c6 11) i9))))) (u4 12)) (z6 (K6 (a4b (tB (v7 (a4h K) [] E0 (b6 (c6 12) (b6 (v7 (a4g K c) [] E0 (b6 (c6 6) (b6 (tCB a5i (b6 (c6 9) i9)) (b6 (tCB a0O (b6 (c6 10) i9)) (b6 (c6 11) i9))))) i9))))) (F8 (tC (.bl false))) D3) (K6 (a4b (tB (v7 (a4h K) [] E0 (b6 (c6 12) (b6 (v7 (a4g K c) [] E0 (b6 (c6 7) (b6 (tCB a5i (b6 (c6 9) i9)) (b6 (tCB a0O (b6 (c6 10) i9)) (b6 (c6 11) i9))))) i9))))) (F8 (tC (.bl false))) D3))))))) (F8 (a0a (tOp (c0B K) (a3h K (c6 4) "rows") (c6 2)) (tOp (c0B K) (a3h K (c6 4) "nexts") (c6 3))))))))))
def a8C(K:Fg):Sp:=fun vs H Q _=>vs.length=1/\∀c,a3D K c->b7N K c { nx:=fun _ H'=>Q .non H',rt:=Q } (vs.map some++C7 (13 - vs.length) none) H
end RD
local macro_rules | `(tactic| walk_at "st") => `(tactic| (with_reducible first
 | refine RD.b8h ?_ | refine RD.b0V ?_ | refine RD.c3a ?_ | refine RD.c2u ?_ | refine RD.b8e ?_ | refine RD.c5K ?_ | refine RD.b8a ?_ | refine RD.c2V ?_ | refine RD.c5E ?_ | refine RD.c5H ?_ | refine RD.c5N ?_ | refine RD.c6N ?_ | refine RD.c3d ?_ | refine RD.c5F ?_ | refine RD.c2X ?_ | refine RD.c5J ?_ | refine RD.c5G ?_ | refine RD.c0w ?_ | refine RD.s_un ?_ | refine RD.s_neg ?_ | refine RD.s_c ?_ | refine RD.a2I ?_ | refine RD.b0e ?_ | refine RD.c3b ?_ | refine RD.c5L ?_ | refine RD.c2t ?_ | refine RD.c5I ?_ | refine RD.c6M ?_ | refine RD.c2W ?_ | refine RD.b7Z ?_ | refine RD.s_rev ?_ | refine RD.b4g ?_ | refine RD.c3c ?_ | refine RD.s_bmS ?_
 | refine RD.a3I (by with_unfolding_all rfl) ?_ | refine Exists.intro _ (And.intro (Eq.refl (L2.V.bl _)) ?_) | refine Exists.intro _ (And.intro (Eq.refl (L2.V.int _)) ?_)
 | refine RD.c5Z ?_ | refine RD.c3o ?_ | refine RD.c6S ?_ | refine RD.c6a ?_ | refine RD.c6T rfl ?_ | refine RD.c6R rfl ?_))
local macro_rules | `(tactic| walk_at "ev") => `(tactic| repeat walk_at "st")
local macro_rules | `(tactic| walk_at "go") => `(tactic| repeat (first | with_reducible refine RD.U4 ?_ | walk_at "st"))
local macro_rules | `(tactic| ext) => `(tactic| walk_at "ev")
local macro_rules | `(tactic| exists $t:term) => `(tactic| (refine $t; walk_at "ev"))
local macro_rules | `(tactic| specialize $t:term) => `(tactic| (with_reducible refine $t; walk_at "ev"))
local macro_rules | `(tactic| exact_mod_cast $t:term) => `(tactic| with_reducible refine $t)
local macro_rules | `(tactic| nofun) => `(tactic| (with_reducible refine RD.U4 ?_; walk_at "ev"))
namespace RD
open PySem PySem.Spec L2
variable{C a b d dx na p ra:Addr}{H H' H0 H1:Hp}{o:HO}{xs ys:List V}{i j m:Nat}{D:a6E}{σ:St}{ta te:TE}{tt:TT}{Q:VK}{v:V}{z:Str}{ks l:List Nat}{QD:Hp->Prop}{R:It->Hp->Prop}{M N:Nt}{ns:List Int}{as rs:List Addr}{Z:Addr->Prop}{Do:Nat->Bool}{kvs:List (Key×V)}{RC:Nat->List V}{ss:List Str}{c:Cn}
section
variable {D:Addr}
theorem c2Z(h:ta σ H fun v H2=>∃x,v=.str x/\R (Its x) H2):c1I ta σ H R:=h
theorem b9u{x:Str}(Pv:Nat->List V->Hp->Prop)(h0:Pv 0 [] (upd H1 D (.lst [])))(hP:∀i ys H,Pv i ys H->H D=some (.lst ys))
  (step:∀i c ys H2,x.cps[i]? = some c->Pv i ys H2->∀(R:VK) (R':Hp->Prop),(∀y H5,H5 D=some (.lst ys)->ys.length<q9->Pv (i+1) (ys++[y]) (upd H5 D (.lst (ys++[y])))->R y H5)->(∀H4,Pv (i+1) ys H4->R' H4) ->
   tt (some (.str ⟨#[c]⟩)::σ) H2 fun ok H4=>if ok=true then te (some (.str ⟨#[c]⟩)::σ) H4 R else R' H4)
  (done:∀ys H2,Pv x.length ys H2->QD H2) :
  ∃W:Nat->Nat->List V->Hp->Prop,(∃m,W 0 m [] (upd H1 D (.lst [])))/\∀i m ys H2,W i m ys H2->H2 D=some (.lst ys) /\
   (((Its x).stop i H2 /\ QD H2) \/ ((Its x).go i H2 /\ ∀ v H3,(Its x).yld i H2 v H3 -> tt (some v :: σ) H3 fun ok H4 => if ok = true then
     te (some v::σ) H4 (fun y H5=>H5 D=some (.lst ys)/\ys.length<q9/\∃m',m'<m/\W (i+1) m' (ys++[y]) (upd H5 D (.lst (ys++[y]))))
     else ∃m',m'<m/\W (i+1) m' ys H4)):=by
 refine⟨fun i m ys H=>m=x.length - i/\i<=x.length/\Pv i ys H,⟨x.length,rfl,J7 _,h0⟩,?_⟩
 rintro i m ys H2 ⟨rfl,hi,p⟩
 refine⟨hP i ys H2 p,?_⟩
 by_cases hlt:i<x.length
 ·refine .inr ⟨hlt,fun v H3 y=>?_⟩
  obtain⟨e,c,hc,ev⟩:=y
  subst e ev
  exact step i c ys _ hc p _ _ (fun y H5 h1 h2 h3=>⟨h1,h2,x.length - (i+1),by omega,rfl,hlt,h3⟩) fun H4 h=>⟨x.length - (i+1),by omega,rfl,hlt,h⟩
 ·have e:i=x.length:=by omega
  subst e
  exact .inl ⟨g9 _,done ys H2 p⟩
end
def sgn(S:Str)(c:Nat):Bool := !(Builtin.Str.occurrences S ⟨#[c]⟩ 0 S.length 1).isEmpty
theorem c2z{S:Str}{c:Nat}(h:Q (.bl (sgn S c)) H):qIn false (.str ⟨#[c]⟩) (.str S) H Q:=h
abbrev LET:Str := "abcdefghijklmnopqrstuvwxyz"
abbrev SGN:Str := "abcdefghijklmnopqrstuvwxyz0123456789"
theorem c2Q:LET++("0123456789" : Str)=SGN:=by decide +kernel
def a5j(z:Str):Bool:=decide (1<=z.length)&&decide (z.length<=8)&&(match z.cps[0]? with | some c=>sgn LET c | none=>false)&&z.cps.toList.all (sgn SGN)
theorem b3d{K:Fg}{E:XK}(hz:z.length<=100)(k:∀H',t9 H H'->Q (.bl (a5j z)) H'):W4 K [.str z] H Q E:=by
 refine⟨rfl,?_⟩
 unfold a6N
 have hz':=small (show z.length<=100000 by omega)
 nofun
 exists a1z (s := "str") rfl (by decide) ?_
 exists v4 (by decide) ?_
 exists c3n hz' ?_
 by_cases h1:1<=z.length
 case neg=>
  exists v4 (c8r (by omega)) ?_
  exists D9 rfl ?_
  have e:a5j z=false:=by unfold a5j;rw[c8r h1];simp
  rw[<-e]
  exact k H (t9.refl _)
 exists D9 (c8s (by omega)) ?_
 by_cases h8:z.length<=8
 case neg=>
  rw[c8r (show ¬((z.length:Int)<=8) by omega)]
  exists D9 rfl ?_
  have e:a5j z=false:=by unfold a5j;rw[c8r h8];simp
  rw[<-e]
  exact k H (t9.refl _)
 rw[c8s (show(z.length:Int)<=8 by omega)]
 exists v4 rfl ?_
 have hl:z.cps.toList.length=z.length:=a0q
 obtain⟨c0,hc0,hc1⟩:=a2M (xs:=z.cps.toList) (i:=0) (by decide) (by omega)
 have hc2:z.cps[0]? = some c0:=by rw[<-O1];exact hc1
 exists c5V hz' hc0 ?_
 have en:a5j z=(sgn LET c0&&z.cps.toList.all (sgn SGN)):=by
  unfold a5j
  rw[c8s h1,c8s h8,hc2]
  simp
 refine c2z (S:=LET) ?_
 refine⟨_,rfl,?_⟩
 cases hs:sgn LET c0 with
 | false=>
  refine c4J ?_
  have e:a5j z=false:=by rw[en,hs];rfl
  rw[<-e]
  exact k H (t9.refl _)
 | true=>
  exists b3c ?_
  specialize V8 (c2Z ?_)
  refine⟨z,rfl,fun D hD=>?_⟩
  refine b9u (fun i ys H2=>ys=(z.cps.toList.take i).map (fun c=>V.bl (sgn SGN c))/\H2=upd H D (.lst ys)) ⟨by simp,rfl⟩ ?_ ?_ ?_
  ·rintro i ys _ ⟨_,rfl⟩
   exact d6
  ·rintro i c ys _ hc ⟨rfl,rfl⟩ R R' hR hR'
   have hc':z.cps.toList[i]? = some c:=by rw[O1];exact hc
   ext
   exists b3c ?_
   refine c3r (small (by decide +kernel)) ?_
   have e:(("abcdefghijklmnopqrstuvwxyz" : Str)++("0123456789" : Str))=SGN:=c2Q
   rw[e]
   refine c2z (S:=SGN) ?_
   refine hR (.bl (sgn SGN c)) _ d6 (F9 ?_) ⟨?_,?_⟩
   ·rw[b7,R7];omega
   ·rw[U9,hc'];simp
   ·rw[a7U]
  ·rintro ys _ ⟨rfl,rfl⟩
   ext
   have eb:T8 ((z.cps.toList.take z.length).map (fun c=>V.bl (sgn SGN c)))=some ((z.cps.toList.take z.length).map (sgn SGN)):=by
    generalize z.cps.toList.take z.length=l
    induction l with
    | nil=>rfl
    | cons a r ih=>simp[T8,ih]
   have ea:((z.cps.toList.take z.length).map (sgn SGN)).all id=a5j z:=by
    rw[en,hs,b3I,a1f (by omega),List.all_map]
    rfl
   refine(show b1b [.ref D] _ _ from ?_)
   unfold b1b
   simp only[d6]
   refine⟨_,eb,?_⟩
   rw[ea]
   exact k _ (A0 hD)
def NmS(s:Str):Prop:=a5j s=true/\s.length<=8
def OpN(v:V):Prop:=(∃s,v=.str s/\NmS s)\/∃n:Int,v=.int n/\0<=n/\n<1000000000000
theorem OpN.flat{v:V}(h:OpN v):K7 v=true:=by
 rcases h with ⟨s,rfl,_⟩ | ⟨n,rfl,_⟩ <;> rfl
abbrev b9K:List Str:=["plus","minus","times","less","same"]
def a5n(H:Hp)(p:Addr):Prop:=∃k v1 v2,H p=some (.tup [.str k,v1,v2])/\OpN v1/\OpN v2/\k∈b9K
theorem a5n.ts(h:a5n H p)(t:J1 H H'):a5n H' p:=by
 obtain⟨k,v1,v2,h,a,b,c⟩:=h
 exact⟨k,v1,v2,t _ _ h,a,b,c⟩
inductive a3O(H:Hp):List V->Prop
 | set (n:Str) (p:Addr):NmS n->a5n H p->a3O H [.str "set",.str n,.ref p]
 | copy (n:Str) (v:V):NmS n->OpN v->a3O H [.str "copy",.str n,v]
 | take (n:Str):NmS n->a3O H [.str "take",.str n]
 | tell (v:V):OpN v->a3O H [.str "tell",v]
 | ask (v:V):OpN v->a3O H [.str "ask",v]
 | skip:a3O H [.str "skip"]
theorem a3O.ts(h:a3O H xs)(t:J1 H H'):a3O H' xs:=by
 cases h with
 | set n p a d=>exact .set n p a (d.ts t)
 | copy n v a o=>exact .copy n v a o
 | take n a=>exact .take n a
 | tell v o=>exact .tell v o
 | ask v o=>exact .ask v o
 | skip=>exact .skip
def a5N(H:Hp)(v:V)(ask:Bool):Prop:=∃p xs,v=.ref p/\H p=some (.tup xs)/\a3O H xs/\(∃k r,xs=.str k::r/\decide ((k:Str) = "ask")=ask)
theorem a5N.ts{a:Bool}(h:a5N H v a)(t:J1 H H'):a5N H' v a:=by
 obtain⟨p,xs,rfl,h,r,q⟩:=h
 exact⟨p,xs,rfl,t _ _ h,r.ts t,q⟩
theorem c4M{n:Int}(k:Q (.bl true) H) :
  F8 (a0a (tCB a3q (b6 (c6 0) (b6 (tC (.ty "int")) i9))) (b2v (tCB a3q (b6 (c6 0) (b6 (tC (.ty "bool")) i9))))) { nx:=fun _ H'=>Q .non H',rt:=Q } [some (.int n)] H:=by
 ext
 exists a1z (s := "int") rfl (by decide) ?_
 exists D9 (by decide) ?_
 exists a1z (s := "int") rfl (by decide) ?_
 exact k
theorem a6t{K:Fg}{n:Int}{E:XK}(k:Q (.bl true) H):a1j K [.int n] H Q E:=⟨rfl,c4M k⟩
theorem b1r{K:Fg}{n:Int}{E:XK}(h0:0<=n)(h1:n<1000000000000)(k:Q (.bl true) H):a2v K [.int n] H Q E:=by
 refine⟨rfl,?_⟩
 unfold a8x
 ext
 refine a6t ?_
 exists ⟨_,rfl,b3c ?_⟩
 exists D9 (c8s h0) ?_
 show Q (.bl (decide (n<1000000000000))) H
 rw[c8s h1]
 exact k
theorem b1s{K:Fg}{n m:Int}{E:XK}(h0:0<=n)(h1:n<m)(k:Q (.bl true) H):a2w K [.int n,.int m] H Q E:=by
 refine⟨rfl,?_⟩
 unfold a8y
 ext
 refine a6t ?_
 exists ⟨_,rfl,b3c ?_⟩
 exists D9 (c8s h0) ?_
 show Q (.bl (decide (n<m))) H
 rw[c8s h1]
 exact k
theorem a3v{K:Fg}{E:XK}(h:NmS z)(k:∀H',t9 H H'->Q (.bl true) H'):W4 K [.str z] H Q E:=by
 refine b3d (by have:=h.2;omega) fun H' s=>?_
 rw[h.1]
 exact k H' s
theorem b3e{K:Fg}{n:Int}{E:XK}(k:Q (.bl false) H):W4 K [.int n] H Q E:=by
 refine⟨rfl,?_⟩
 unfold a6N
 nofun
 exists a1z (s := "int") rfl (by decide) ?_
 refine D9 (by decide) ?_
 exists D9 rfl ?_
 exact k
theorem a0d{K:Fg}{E:XK}(h:OpN v)(k:∀H',t9 H H'->Q (.bl true) H'):U3 K [v] H Q E:=by
 refine⟨rfl,?_⟩
 unfold a5Z
 ext
 rcases h with ⟨s,rfl,hs⟩ | ⟨n,rfl,h0,h1⟩
 ·refine a3v hs fun G s=>?_
  exact⟨_,rfl,b3c (k G s)⟩
 ·refine b3e ?_
  exists ⟨_,rfl,c4J ?_⟩
  exact b1r h0 h1 (k H (t9.refl _))
theorem b9f{k:Str}(h:k∈b9K):inV (.str k) [.str "plus",.str "minus",.str "times",.str "less",.str "same"]=true:=by
 simp only[b9K,d5,o6,or_false]at h
 rcases h with rfl | rfl | rfl | rfl | rfl <;> decide +kernel
theorem b4K{K:Fg}{E:XK}(ck:a3D K c)(h:a5n H p)(k:∀H',t9 H H'->Q (.bl true) H'):a3k K c [.ref p] H Q E:=by
 obtain⟨kd,v1,v2,hp,o1,o2,hk⟩:=h
 refine⟨rfl,?_⟩
 unfold b0b
 nofun
 exists a1z (s := "tuple") (by simp only[a2d,hp]) (by decide) ?_
 exists v4 (by decide) ?_
 exists a2J hp ?_
 exists v4 (by simp) ?_
 exists C3 hp (U0 _ _) ?_
 refine⟨_,_,rfl,ck.b1Y H,rfl,rfl,?_⟩
 exists ⟨_,rfl,D9 (b9f hk) ?_⟩
 exists C3 hp (a0Z _ _ _) ?_
 refine a0d o1 fun G1 s1=>?_
 exists ⟨_,rfl,b3c ?_⟩
 exists C3 (s1 _ _ hp) (a4T _ _ _ _) ?_
 exact a0d o2 fun G2 s2=>k G2 (s1.trans s2)
theorem c1T(a:V)(r:List V):a5L (a::r) (some 1) none=r:=by
 unfold a5L
 have e:HT.sIx (a::r).length 0 (some 1)=1:=by
  have:=HT.b0Z (a::r).length 0 1
  rw[show((1:Nat):Int)=1 from rfl]at this
  rw[this,C0]
  omega
 rw[e]
 show List.take ((a::r).length - 1) r=r
 rw[a1f (by simp)]
theorem a8X(a:V)(r:List V):¬(HT.sIx (a::r).length 0 (some 1)=0/\HT.sIx (a::r).length (a::r).length none=(a::r).length):=by
 intro h
 have e:HT.sIx (a::r).length 0 (some 1)=1:=by
  have:=HT.b0Z (a::r).length 0 1
  rw[show((1:Nat):Int)=1 from rfl]at this
  rw[this,C0]
  omega
 omega
theorem b6D{K:Fg}{a:Bool}{E:XK}(ck:a3D K c)(h:a5N H v a)(k:∀H',t9 H H'->Q (.bl true) H'):a4G K c [v] H Q E:=by
 obtain⟨p,xs,rfl,hp,hr,kd,r,rfl,_⟩:=h
 refine⟨rfl,?_⟩
 unfold b2u
 nofun
 exists a1z (s := "tuple") (by simp only[a2d,hp]) (by decide) ?_
 exists v4 (by decide) ?_
 exists a2J hp ?_
 exists v4 (c8r (by intro z;have:=V.int.inj z;rw[C0]at this;omega)) ?_
 nofun
 exists C3 hp (U0 _ _) ?_
 nofun
 refine b8t hp (a8X _ _) fun q G hq e s=>?_
 rw[c1T]at e
 ext
 have hr:=hr.ts (t9.ts s)
 cases hr with
 | set n d hn hd=>
  nofun
  exists D9 (by decide) ?_
  exists a2J e ?_
  exists D9 (by simp) ?_
  exists C3 e (U0 _ _) ?_
  refine a3v hn fun G1 s1=>?_
  exists ⟨_,rfl,b3c ?_⟩
  exists C3 (s1 _ _ e) (a0Z _ _ _) ?_
  exact b4K ck (hd.ts (t9.ts s1)) fun G2 s2=>k G2 ((s.trans s1).trans s2)
 | copy n v hn ho=>
  nofun
  exists v4 (by decide) ?_
  nofun
  exists D9 (by decide) ?_
  exists a2J e ?_
  exists D9 (by simp) ?_
  exists C3 e (U0 _ _) ?_
  refine a3v hn fun G1 s1=>?_
  exists ⟨_,rfl,b3c ?_⟩
  exists C3 (s1 _ _ e) (a0Z _ _ _) ?_
  exact a0d ho fun G2 s2=>k G2 ((s.trans s1).trans s2)
 | take n hn=>
  nofun
  exists v4 (by decide) ?_
  nofun
  exists v4 (by decide) ?_
  nofun
  exists D9 (by decide) ?_
  exists a2J e ?_
  exists D9 (by simp) ?_
  exists C3 e (U0 _ _) ?_
  exact a3v hn fun G1 s1=>k G1 (s.trans s1)
 | tell v ho=>
  nofun
  exists v4 (by decide) ?_
  nofun
  exists v4 (by decide) ?_
  nofun
  exists v4 (by decide) ?_
  nofun
  refine E3 (by simp) fun q2 G2 hq2 e2 s2=>?_
  exists a5h e2 rfl rfl ?_
  exists D9 (by decide +kernel) ?_
  exists a2J (s2 _ _ e) ?_
  exists D9 (by simp) ?_
  exists C3 (s2 _ _ e) (U0 _ _) ?_
  exact a0d ho fun G1 s1=>k G1 ((s.trans s2).trans s1)
 | ask v ho=>
  nofun
  exists v4 (by decide) ?_
  nofun
  exists v4 (by decide) ?_
  nofun
  exists v4 (by decide) ?_
  nofun
  refine E3 (by simp) fun q2 G2 hq2 e2 s2=>?_
  exists a5h e2 rfl rfl ?_
  exists D9 (by decide +kernel) ?_
  exists a2J (s2 _ _ e) ?_
  exists D9 (by simp) ?_
  exists C3 (s2 _ _ e) (U0 _ _) ?_
  exact a0d ho fun G1 s1=>k G1 ((s.trans s2).trans s1)
 | skip=>
  nofun
  exists v4 (by decide) ?_
  nofun
  exists v4 (by decide) ?_
  nofun
  exists v4 (by decide) ?_
  nofun
  refine E3 (by simp) fun q2 G2 hq2 e2 s2=>?_
  exists a5h e2 rfl rfl ?_
  exists v4 (by decide +kernel) ?_
  exists D9 (by decide) ?_
  exists a2J (s2 _ _ e) ?_
  have e0:decide (V.int ((([]:List V).length:Nat):Int)=V.int 0)=true:=by decide
  rw[e0]
  exact k G2 (s.trans s2)
theorem ix0{α:Type}(a b c d:α):ixN [a,b,c,d].length 0=some 0:=by
 show ixN 4 0=some 0
 decide
theorem ix1{α:Type}(a b c d:α):ixN [a,b,c,d].length 1=some 1:=by
 show ixN 4 1=some 1
 decide
theorem ix2{α:Type}(a b c d:α):ixN [a,b,c,d].length 2=some 2:=by
 show ixN 4 2=some 2
 decide
structure a9q(H:Hp)(b:Addr)(i0 i1 i2:Int)(c:Addr)(ns:List Int):Prop where
 hb:H b=some (.lst [.int i0,.int i1,.int i2,.ref c])
 hc:H c=some (.lst (ns.map V.int))
 p0:0<=i0
 p1:0<=i1
 p1':i1<2147483647
 p2:0<=i2
 pn:∀x∈ns,0<=x
theorem a9q.bag{i0 i1 i2:Int}{c:Addr}(h:a9q H b i0 i1 i2 c ns):Bag H b c:=⟨i0,i1,i2,ns,h.hb,h.hc,h.p0,h.p1,h.p1',h.p2,h.pn⟩
theorem Bag.parts{c:Addr}(h:Bag H b c):∃i0 i1 i2 ns,a9q H b i0 i1 i2 c ns:=by
 obtain⟨i0,i1,i2,ns,h1,h2,h3,h4,h5,h6,h7⟩:=h.ex
 exact⟨i0,i1,i2,ns,h1,h2,h3,h4,h5,h6,h7⟩
theorem a9q.ne{i0 i1 i2:Int}{c:Addr}(h:a9q H b i0 i1 i2 c ns):c≠b:=L6 h.hc h.hb (by
  intro z
  have z:=HO.lst.inj z
  cases ns with
  | nil=>cases z
  | cons a r=>cases r with
   | nil=>cases z
   | cons a2 r=>cases r with
    | nil=>cases z
    | cons a3 r=>cases r with
     | nil=>cases z
     | cons a4 r=>simp at z)
theorem a9q.put{i0 i1 i2 j0 j1 j2:Int}{c:Addr}(h:a9q H b i0 i1 i2 c ns)(q0:0<=j0)(q1:0<=j1)(q1':j1<2147483647)(q2:0<=j2) :
  a9q (upd H b (.lst [.int j0,.int j1,.int j2,.ref c])) b j0 j1 j2 c ns:=⟨d6,by rw[l7 h.ne];exact h.hc,q0,q1,q1',q2,h.pn⟩
theorem G7{K:Fg}{c:Addr}{many:Int}{E:XK}(hB:Bag H b c)(h0:0<many)(h1:many<2 ^ 64)
  (k:∀n H',0<=n->n<many->Bag H' b c->D4 b H H'->Q (.int n) H'):F4 K [.ref b,.int many] H Q E:=by
 obtain⟨i0,i1,i2,ns,B⟩:=hB.parts
 refine⟨rfl,?_⟩
 unfold b7J
 refine a0M (P:=fun σ H1=>∃x2 x3 j0 j1 j2,σ=[some (.ref b),some (.int many),x2,x3,none,none,none]/\a9q H1 b j0 j1 j2 c ns/\D4 b H H1) ?_ ?_
 ·-- the second part
  rintro _ H1 ⟨x2,x3,j0,j1,j2,rfl,B1,k1⟩
  refine a0M (P:=fun σ H2=>H2=H1/\σ=[some (.ref b),some (.int many),x2,x3,none,none,none]) ?_ ?_
  ·rintro _ _ ⟨rfl,rfl⟩
   walk_at "go"
   refine L5 B1.hb (a0Z _ _ _) ?_
   walk_at "go"
   refine a0G (.inr (by omega)) ?_
   walk_at "go"
   refine a0G (by omega) ?_
   walk_at "go"
   have g1:=R0 (j1 * 39373) (show(1000000007:Int)≠0 by decide)
   have g2:=O8 (j1 * 39373) (show(0:Int)<1000000007 by decide)
   refine a0G (.inr (by omega)) ?_
   walk_at "go"
   refine a0G (by omega) ?_
   walk_at "go"
   have g3:=R0 (j1 * 39373 % 1000000007 * 30011) (show(998244353:Int)≠0 by decide)
   have g4:=O8 (j1 * 39373 % 1000000007 * 30011) (show(0:Int)<998244353 by decide)
   refine Y4 (fun _=>?_) (fun _=>?_)
   ·walk_at "go"
    refine a0G (.inr (by omega)) ?_
    walk_at "go"
    refine a0G h0 ?_
    exact k _ _ (R0 _ (by omega)) (O8 _ h0) B1.bag k1
   ·walk_at "go"
    refine a0G (by omega) ?_
    walk_at "go"
    refine a0G h0 ?_
    exact k _ _ (R0 _ (by omega)) (O8 _ h0) B1.bag k1
  ·intro nx hnx
   walk_at "go"
   refine L5 B1.hb (U0 _ _) ?_
   walk_at "go"
   refine Y4 (fun _=>?_) (fun _=>?_)
   ·walk_at "go"
    refine L5 B1.hb (U0 _ _) ?_
    walk_at "go"
    refine a0G h0 ?_
    walk_at "go"
    refine L5 B1.hb (U0 _ _) ?_
    walk_at "go"
    refine a0G ⟨h0,h1⟩ ?_
    walk_at "go"
    refine b5p B1.hb (ix0 _ _ _ _) ?_
    walk_at "go"
    refine k _ _ (R0 _ (by omega)) (O8 _ h0) (B1.put (Int.ediv_nonneg B1.p0 (by omega)) B1.p1 B1.p1' B1.p2).bag (k1.trans (D4.upd _ _ _))
   ·walk_at "go"
    exact hnx _ _ ⟨rfl,rfl⟩
 ·intro nx hnx
  walk_at "go"
  refine L5 B.hb (U0 _ _) ?_
  walk_at "go"
  refine Y4 (fun e=>?_) (fun _=>?_)
  ·have e:i0=0:=by simpa using e
   subst e
   nofun
   exact_mod_cast a0M (P:=fun σ H1=>∃m x3 j0 j2,σ=[some (.ref b),some (.int many),some (.int m),x3,none,none,none]/\a9q H1 b j0 i1 j2 c ns/\D4 b H H1/\0<=m) ?_ ?_
   ·rintro _ H1 ⟨m,x3,j0,j2,rfl,B1,k1,hm⟩
    walk_at "go"
    refine L5 B1.hb (a0Z _ _ _) ?_
    walk_at "go"
    refine a0G (.inr (by omega)) ?_
    walk_at "go"
    refine a0G (by omega) ?_
    walk_at "go"
    refine b5p B1.hb (ix1 _ _ _ _) ?_
    have g1:=R0 (i1 * 48271+m) (show(2147483647:Int)≠0 by decide)
    have g2:=O8 (i1 * 48271+m) (show(0:Int)<2147483647 by decide)
    exact hnx _ _ ⟨_,x3,j0,_,j2,rfl,B1.put B1.p0 g1 g2 B1.p2,k1.trans (D4.upd _ _ _)⟩
   ·intro nx2 hnx2
    walk_at "go"
    refine L5 B.hb (a4T _ _ _ _) ?_
    walk_at "go"
    refine L5 B.hb (c4U _ _ _ _ _) ?_
    walk_at "go"
    refine N8 B.hc ?_
    walk_at "go"
    refine Y4 (fun e=>?_) (fun _=>?_)
    ·have e:i2<(ns.length:Int):=by simpa using e
     obtain⟨v,ev,ev2⟩:=a2M (xs:=ns.map V.int) B.p2 (by simpa using e)
     obtain⟨z,ez,rfl⟩:∃z,ns[i2.toNat]? = some z/\v=V.int z:=by
      rw[c9]at ev2
      cases q:ns[i2.toNat]? with
      | none=>rw[q]at ev2;cases ev2
      | some z=>rw[q]at ev2;exact⟨z,rfl,(Option.some.inj ev2).symm⟩
     have hz:0<=z:=B.pn z (mI ez)
     walk_at "go"
     refine L5 B.hb (c4U _ _ _ _ _) ?_
     walk_at "go"
     refine L5 B.hb (a4T _ _ _ _) ?_
     walk_at "go"
     refine L5 B.hc ev ?_
     walk_at "go"
     exists c5W B.hb (by decide) rfl ?_
     refine b5p B.hb (ix2 _ _ _ _) ?_
     have B2:=B.put (j0:=0) (j1:=i1) (j2:=i2+1) (Int.le_refl _) B.p1 B.p1' (by have:=B.p2;omega)
     exact_mod_cast a0M (P:=fun σ H1=>∃j0,σ=[some (.ref b),some (.int many),some (.int 12345),some (.int z),none,none,none]/\a9q H1 b j0 i1 (i2+1) c ns/\D4 b H H1) ?_ ?_
     ·rintro _ H1 ⟨j0,rfl,B1,k1⟩
      walk_at "go"
      refine a0G (by omega) ?_
      walk_at "go"
      have g1:=R0 z (show(2147483647:Int)≠0 by decide)
      exact hnx2 _ _ ⟨_,_,j0,_,rfl,B1,k1,by omega⟩
     ·intro nx3 hnx3
      walk_at "go"
      refine Y4 (fun _=>?_) (fun _=>?_)
      ·walk_at "go"
       refine b5p B2.hb (ix0 _ _ _ _) ?_
       refine hnx3 _ _ ⟨z,rfl,?_,(D4.upd _ _ _).trans (D4.upd _ _ _)⟩
       exact B2.put hz B.p1 B.p1' (by have:=B.p2;omega)
      ·walk_at "go"
       exact hnx3 _ _ ⟨0,rfl,B2,D4.upd _ _ _⟩
    ·walk_at "go"
     exact hnx2 _ _ ⟨_,_,0,i2,rfl,B,D4.refl _ _,by decide⟩
  ·walk_at "go"
   exact hnx _ _ ⟨_,_,i0,i1,i2,rfl,B,D4.refl _ _⟩
theorem c4T{K:Fg}{E:XK}(hS:SqL K H a (ns.map V.int))(hl:ns.length<=63)
  (k:∀b c H',Bag H' b c->t9 H H'->H b=none->Q (.ref b) H'):b0H K [.ref a] H Q E:=by
 refine⟨rfl,?_⟩
 unfold c2s
 walk_at "go"
 exact_mod_cast V8 (R8 ?_)
 walk_at "go"
 refine⟨a,_,rfl,hS,fun p hp=>⟨p,rfl,⟨_,SqL.of d6⟩,fun D hD=>?_⟩⟩
 have hcut:a5L (ns.map V.int) none (some 63)=ns.map V.int:=by
  unfold a5L
  have e:HT.sIx (ns.map V.int).length 0 none=0:=rfl
  have e2:HT.sIx (ns.map V.int).length (ns.map V.int).length (some 63)=ns.length:=by
   have:=HT.b0Z (ns.map V.int).length (ns.map V.int).length 63
   rw[b7]at this ⊢
   rw[show((63:Nat):Int)=63 from rfl]at this
   rw[this];omega
  rw[e,e2,List.drop_zero,Nat.sub_zero,a1f (by simp)]
 rw[hcut]at hD ⊢
 have s1:t9 H (upd H p (.lst (ns.map V.int))):=A0 hp
 refine T7 (xs:=ns.map V.int) (fun i ys H2=>ys=(ns.take i).map (fun x=>V.int (if x<0 then -x else x))/\H2=upd (upd H p (.lst (ns.map V.int))) D (.lst ys)) ⟨by simp,rfl⟩ ?_ ?_ ?_ ?_
 ·rintro i ys _ ⟨_,rfl⟩
  exact d6
 ·rintro i ys _ _ ⟨_,rfl⟩
  refine SqL.of ?_
  rw[l7 (d9 d6 hD),d6]
 ·rintro i x ys _ hx ⟨rfl,rfl⟩ R hR
  rw[c9]at hx
  cases e:ns[i]? with
  | none=>rw[e]at hx;cases hx
  | some z=>
   rw[e]at hx
   cases hx
   ext
   refine hR _ _ d6 (F9 ?_) ⟨?_,?_⟩
   ·rw[b7,R7];omega
   ·rw[U9,e];simp
   ·rw[a7U]
 ·rintro ys _ ⟨rfl,rfl⟩
  ext
  refine E3 (by simp) fun b H4 hb hb4 s4=>?_
  rw[b7,a1f (g9 _)]at hb s4
  refine k b D _ ⟨0,1234567891,0,ns.map (fun x=>if x<0 then -x else x),hb4,?_,by decide,by decide,by decide,by decide,?_⟩ ?_ ?_
  ·rw[s4 D _ d6,L8];rfl
  ·intro x hx
   obtain⟨y,_,rfl⟩:=A2.mp hx
   split <;> omega
  ·exact(s1.trans (A0 hD)).trans s4
  ·exact(s1.trans (A0 hD)).free hb
structure b1T(H:Hp)(a:Addr):Prop where
 ex:∃ss:List Str,H a=some (.lst (ss.map V.str))/\ss≠[]/\ss.length<=8/\∀s∈ss,NmS s
theorem b1T.kept{c:Addr}(h:b1T H a)(hB:Bag H b c)(k:D4 b H H'):b1T H' a/\a≠b:=by
 obtain⟨ss,h1,h2,h3,h4⟩:=h.ex
 obtain⟨i0,i1,i2,ns,hb,_⟩:=hB.ex
 have ne:a≠b:=L6 h1 hb (by
  intro z
  have z:=HO.lst.inj z
  cases ss with
  | nil=>exact h2 rfl
  | cons s r=>cases z)
 exact⟨⟨ss,k.1 a _ h1 ne,h2,h3,h4⟩,ne⟩
structure c7g(H:Hp)(a:Addr):Prop where
 ex:∃ps:List Addr,H a=some (.lst (ps.map V.ref))/\ps≠[]/\ps.length<=8/\∀p∈ps,a5n H p
theorem a1c{c:Addr}(hB:Bag H b c)(h:H a=some (.lst (as.map V.ref))):a≠b:=by
 obtain⟨i0,i1,i2,ns,hb,_⟩:=hB.ex
 refine L6 h hb ?_
 intro z
 have z:=HO.lst.inj z
 cases as with
 | nil=>cases z
 | cons s r=>cases z
theorem a8E{c:Addr}(hB:Bag H b c)(h:H a=some (.lst xs))(hl:xs.length<=3):a≠b:=by
 obtain⟨i0,i1,i2,ns,hb,_⟩:=hB.ex
 refine L6 h hb ?_
 intro z
 have z:=HO.lst.inj z
 rw[z]at hl
 simp at hl
structure E6(H:Hp)(a:Addr)(N:Nt):Prop where
 ex:∃as:List Addr,H a=some (.lst (as.map V.ref))/\as.length=N.length/\∀(i:Nat) x l,as[i]? = some x->N[i]? = some l->H x=some (.lst (IL l))
theorem E6.same(h:E6 H a N)(k:t9 H H'):E6 H' a N:=by
 obtain⟨as,h1,h2,h3⟩:=h.ex
 exact⟨as,k a _ h1,h2,fun i x l e1 e2=>k _ _ (h3 i x l e1 e2)⟩
theorem E6.kept{c:Addr}(h:E6 H a N)(hB:Bag H b c)(hN:∀l∈N,l.length<=2)(k:D4 b H H'):E6 H' a N:=by
 obtain⟨as,h1,h2,h3⟩:=h.ex
 refine⟨as,k.1 a _ h1 (a1c hB h1),h2,fun i x l e1 e2=>?_⟩
 have q:=h3 i x l e1 e2
 refine k.1 _ _ q (a8E hB q ?_)
 rw[O5]
 have:=hN l (mI e2)
 omega
theorem E6.at(h:E6 H a N){k:Nat}(e:N[k]? = some l):∃(xs:List V) (x:Addr),H a=some (.lst xs)/\atI xs (k:Int)=some (.ref x)/\H x=some (.lst (IL l))/\xs.length=N.length:=by
 obtain⟨as,h1,h2,h3⟩:=h.ex
 have hk:k<as.length:=by rw[h2];exact(gI e)
 have e1:as[k]? = some as[k]:=by simp
 refine⟨_,as[k],h1,?_,h3 k _ l e1 e,by rw[b7,h2]⟩
 exact Z5 (by rw[c9,e1];rfl)
theorem E6.len(h:E6 H a N):∃xs,H a=some (.lst xs)/\xs.length=N.length:=by
 obtain⟨as,h1,h2,h3⟩:=h.ex
 exact⟨_,h1,by rw[b7,h2]⟩
theorem c2F{t:Nat}(e:l[j]? = some t):atI (IL l) (j:Int)=some (.int (t:Int)):=Z5 (by unfold IL;rw[c9,e];rfl)
theorem b3Z{α:Type}(l:List α):l=[]\/∃r a,l=r++[a]:=by
 cases h:l.reverse with
 | nil=>left;simpa using h
 | cons a r=>
  right
  refine⟨r.reverse,a,?_⟩
  have:=congrArg List.reverse h
  simpa using this
structure a9O(H0 H:Hp)(b c D:Addr)(m:Nat)(as:List Addr)(N:Nt):Prop where
 bag:Bag H b c
 kept:D4 b H0 H
 hD:H D=some (.lst (as.map V.ref))
 nb:D≠b
 nc:D≠c
 len:as.length=N.length
 at_:∀(i:Nat) x l,as[i]? = some x->N[i]? = some l->H x=some (.lst (IL l))/\x≠D/\x≠b
 small:∀l∈N,l.length<=2/\∀t∈l,t<m
theorem a9O.next{c D:Addr}(h:a9O H0 H b c D m as N)(B:Bag H' b c)(k:D4 b H H'):a9O H0 H' b c D m as N:=
 ⟨B,h.kept.trans k,k.1 _ _ h.hD h.nb,h.nb,h.nc,h.len,fun i x l e1 e2=>let⟨q1,q2,q3⟩:=h.at_ i x l e1 e2; ⟨k.1 _ _ q1 q3,q2,q3⟩,h.small⟩
structure a6D(H:Hp)(b D q:Addr)(m:Nat)(l:List Nat):Prop where
 h:H q=some (.lst (IL l))
 nD:q≠D
 nb:q≠b
 len:l.length<=2
 lt:∀t∈l,t<m
theorem a6D.next{D q:Addr}(h:a6D H b D q m l)(k:D4 b H H'):a6D H' b D q m l:=⟨k.1 _ _ h.h h.nb,h.nD,h.nb,h.len,h.lt⟩
theorem W5{α:Type}{xs:List α}{x y:α}(h:(xs++[x])[i]? = some y):(i<xs.length/\xs[i]? = some y)\/(i=xs.length/\y=x):=by
 by_cases hi:i<xs.length
 ·left
  rw[C6 hi]at h
  exact⟨hi,h⟩
 ·right
  rw[M9 (by omega)]at h
  have:i - xs.length=0:=by
   have:=(gI h)
   simp at this
   omega
  rw[this]at h
  simp at h
  exact⟨by omega,h.symm⟩
theorem b3i{a b:Int}:decide (V.int a=V.int b)=decide (a=b):=by
 by_cases h:a=b
 ·subst h;simp
 ·rw[c8r h,c8r (fun z=>h (V.int.inj z))]
theorem c4t{K:Fg}{c:Addr}{E:XK}(hB:Bag H b c)(m0:0<m)(m1:m<=24)
  (k:∀a N H',E6 H' a N->N.length=m->(∀l∈N,l.length<=2/\∀t∈l,t<m)->N[m - 1]? = some []->Bag H' b c->D4 b H H'->Q (.ref a) H'):b0G K [.ref b,.int (m:Int)] H Q E:=by
 refine⟨rfl,?_⟩
 unfold c2r
 nofun
 exists E3 (by simp) fun D H1 hD e1 s1=>?_
 obtain⟨nb,nc⟩:=hB.nb hD
 have B1:=hB.same s1
 exact_mod_cast U4 ?_
 specialize a0c (a0F ?_)
 refine⟨m,rfl,by omega,by omega,?_⟩
 rw[z9]
 refine Z1 (fun i σ H2=>∃x3 x4 x5 x6 as N,σ=[some (.ref b),some (.int (m:Int)),some (.ref D),x3,x4,x5,x6]/\a9O H H2 b c D m as N/\N.length=i/\(i=m->N[m - 1]? = some [])) ?_ ?_ ?_
 ·exact⟨_,_,_,_,[],[],rfl,⟨B1,D4.of_same s1,e1,nb,nc,rfl,fun i x l e=>by simp at e,fun l h=>by simp at h⟩,rfl,fun z=>by omega⟩
 ·rintro i _ H2 hi ⟨x3,x4,x5,x6,as,N,rfl,I2,hlen,_⟩
  ext
  rw[a0p]
  nofun
  exists c5U ?_
  obtain⟨r,hr,hrm⟩:∃r:Nat,(if(m:Int) - 1<(i:Int)+1 then (m:Int) - 1 else (i:Int)+1)=(r:Int)/\r<m:=by
   by_cases h:(m:Int) - 1<(i:Int)+1
   ·exact⟨m - 1,by rw[if_pos h];omega,by omega⟩
   ·exact⟨i+1,by rw[if_neg h];omega,by omega⟩
  rw[hr]
  nofun
  refine G7 I2.bag (by omega) (by omega) fun j H3 j0 j1 B3 k3=>?_
  obtain⟨j,rfl⟩:=J2 j0
  ext
  exists E3 (by simp) fun q H4 hq e4 s4=>?_
  have I3:=I2.next B3 k3
  have I4:=I3.next (B3.same s4) (D4.of_same s4)
  have S4:a6D H4 b D q m [r,j]:=⟨e4,(d9 I3.hD hq).symm,(B3.nb hq).1,by simp,fun t ht=>by
   simp only[d5,o6,or_false]at ht
   rcases ht with rfl | rfl
   ·exact hrm
   ·omega⟩
  nofun
  exists G7 I4.bag (by decide) (by decide) fun w H5 w0 w1 B5 k5=>?_
  have I5:=I4.next B5 k5
  have S5:=S4.next k5
  exact_mod_cast a0M (P:=fun σ H6=>∃q l,σ=[some (.ref b),some (.int (m:Int)),some (.ref D),some (.int (i:Int)),some (.int (r:Int)),some (.ref q),some (.int w)]/\a9O H H6 b c D m as N/\a6D H6 b D q m l/\l.length=2) ?_ ?_
  rotate_left
  ·intro nx hnx
   ext
   refine Y4 (fun _=>?_) (fun _=>?_)
   ·ext
    exists L5 S5.h (a0Z _ _ _) ?_
    refine E3 (by simp) fun q6 H6 hq6 e6 s6=>?_
    exact hnx _ _ ⟨q6,[j,r],rfl,I5.next (B5.same s6) (D4.of_same s6),⟨e6,(d9 I5.hD hq6).symm,(B5.nb hq6).1,by simp,fun t ht=>by
     simp only[d5,o6,or_false]at ht
     rcases ht with rfl | rfl
     ·exact S5.lt _ (by simp)
     ·exact S5.lt _ (by simp)⟩,rfl⟩
   ·ext
    exact hnx _ _ ⟨q,[r,j],rfl,I5,S5,rfl⟩
  rintro _ H6 ⟨q,l,rfl,I6,S6,hl6⟩
  obtain⟨l0,l1,rfl⟩:∃l0 l1,l=[l0,l1]:=by
   match l,hl6 with
   | [a,b],_=>exact⟨a,b,rfl⟩
  exact_mod_cast a0M (P:=fun σ H6=>∃q l,σ=[some (.ref b),some (.int (m:Int)),some (.ref D),some (.int (i:Int)),some (.int (r:Int)),some (.ref q),some (.int w)]/\a9O H H6 b c D m as N/\a6D H6 b D q m l/\l.length=2) ?_ ?_
  rotate_left
  ·intro nx hnx
   ext
   refine Y4 (fun _=>?_) (fun _=>?_)
   ·ext
    exists L5 S6.h (a0Z _ _ _) ?_
    refine G7 I6.bag (by omega) (by omega) fun j2 H7 z0 z1 B7 k7=>?_
    obtain⟨j2,rfl⟩:=J2 z0
    ext
    have I7:=I6.next B7 k7
    refine E3 (by simp) fun q8 H8 hq8 e8 s8=>?_
    exact hnx _ _ ⟨q8,[l1,j2],rfl,I7.next (B7.same s8) (D4.of_same s8),⟨e8,(d9 I7.hD hq8).symm,(B7.nb hq8).1,by simp,fun t ht=>by
     simp only[d5,o6,or_false]at ht
     rcases ht with rfl | rfl
     ·exact S6.lt _ (by simp)
     ·omega⟩,rfl⟩
   ·ext
    exact hnx _ _ ⟨q,_,rfl,I6,S6,rfl⟩
  clear S6 I6 l0 l1 hl6 S5 I5 S4 I4 I3 B3 k3 B5 k5 s4 e4 hq
  rintro _ H6 ⟨q,l,rfl,I6,S6,hl6⟩
  obtain⟨l0,l1,rfl⟩:∃l0 l1,l=[l0,l1]:=by
   match l,hl6 with
   | [a,b],_=>exact⟨a,b,rfl⟩
  exact_mod_cast a0M (P:=fun σ H6=>∃q l,σ=[some (.ref b),some (.int (m:Int)),some (.ref D),some (.int (i:Int)),some (.int (r:Int)),some (.ref q),some (.int w)]/\a9O H H6 b c D m as N/\a6D H6 b D q m l/\(w=7->1<m->l.length=2)) ?_ ?_
  rotate_left
  ·intro nx hnx
   have one:∀H7,H7=H6->((w=7/\1<m)->False)->New (.lst [V.int (r:Int)]) 1 H7 fun v H1=>nx [some (.ref b),some (.int (m:Int)),some (.ref D),some (.int (i:Int)),some (.int (r:Int)),some v,some (.int w)] H1:=by
    rintro _ rfl hw
    refine E3 (by simp) fun q8 H8 hq8 e8 s8=>?_
    exact hnx _ _ ⟨q8,[r],rfl,I6.next (I6.bag.same s8) (D4.of_same s8),⟨e8,(d9 I6.hD hq8).symm,(I6.bag.nb hq8).1,by simp,fun t ht=>by rw[g8.mp ht];exact hrm⟩,fun h1 h2=>(hw ⟨h1,h2⟩).elim⟩
   ext
   refine Y4 (fun a3=>?_) (fun a3=>?_)
   ·ext
    refine Y4 (fun a7=>?_) (fun a7=>?_)
    ·exists D9 rfl ?_
     exact one _ rfl fun⟨z,_⟩=>by have:=of_decide_eq_true a7;omega
    ·ext
     refine Y4 (fun a1=>?_) (fun a1=>?_)
     ·ext
      rw[b3i]at a1
      exact one _ rfl fun⟨_,z⟩=>by have:=of_decide_eq_true a1;omega
     ·ext
      exact hnx _ _ ⟨q,_,rfl,I6,S6,fun _ _=>rfl⟩
   ·ext
    exists v4 rfl ?_
    refine Y4 (fun a1=>?_) (fun a1=>?_)
    ·ext
     rw[b3i]at a1
     exact one _ rfl fun⟨_,z⟩=>by have:=of_decide_eq_true a1;omega
    ·ext
     exact hnx _ _ ⟨q,_,rfl,I6,S6,fun _ _=>rfl⟩
  clear S6 I6 l0 l1 hl6
  rintro _ H6 ⟨q,l,rfl,I6,S6,hl6⟩
  exact_mod_cast a0M (P:=fun σ H6=>∃q l,σ=[some (.ref b),some (.int (m:Int)),some (.ref D),some (.int (i:Int)),some (.int (r:Int)),some (.ref q),some (.int w)]/\a9O H H6 b c D m as N/\a6D H6 b D q m l) ?_ ?_
  rotate_left
  ·intro nx hnx
   ext
   refine Y4 (fun a7=>?_) (fun a7=>?_)
   ·ext
    refine Y4 (fun a1=>?_) (fun a1=>?_)
    ·rw[b3i]at a7
     have a7:=of_decide_eq_true a7
     have a1:=of_decide_eq_true a1
     have hl:=hl6 a7 (by omega)
     obtain⟨l0,l1,rfl⟩:∃l0 l1,l=[l0,l1]:=by
      match l,hl with
      | [a,b],_=>exact⟨a,b,rfl⟩
     ext
     exists L5 S6.h (a0Z _ _ _) ?_
     refine E3 (by simp) fun q8 H8 hq8 e8 s8=>?_
     exact hnx _ _ ⟨q8,[l1],rfl,I6.next (I6.bag.same s8) (D4.of_same s8),⟨e8,(d9 I6.hD hq8).symm,(I6.bag.nb hq8).1,by simp,fun t ht=>by rw[g8.mp ht];exact S6.lt _ (by simp)⟩⟩
    ·ext
     exact hnx _ _ ⟨q,_,rfl,I6,S6⟩
   ·exists v4 rfl ?_
    exact hnx _ _ ⟨q,_,rfl,I6,S6⟩
  clear S6 I6 hl6 l
  rintro _ H6 ⟨q,l,rfl,I6,S6⟩
  exact_mod_cast a0M (P:=fun σ H6=>∃q l,σ=[some (.ref b),some (.int (m:Int)),some (.ref D),some (.int (i:Int)),some (.int (r:Int)),some (.ref q),some (.int w)]/\a9O H H6 b c D m as N/\a6D H6 b D q m l/\(i+1=m->l=[])) ?_ ?_
  rotate_left
  ·intro nx hnx
   have none:∀H7,a9O H H7 b c D m as N->New (.lst []) 0 H7 fun v H1=>nx [some (.ref b),some (.int (m:Int)),some (.ref D),some (.int (i:Int)),some (.int (r:Int)),some v,some (.int w)] H1:=by
    intro H7 I7
    refine E3 (by simp) fun q8 H8 hq8 e8 s8=>?_
    exact hnx _ _ ⟨q8,[],rfl,I7.next (I7.bag.same s8) (D4.of_same s8),⟨e8,(d9 I7.hD hq8).symm,(I7.bag.nb hq8).1,by simp,fun t ht=>by simp at ht⟩,fun _=>rfl⟩
   ext
   refine Y4 (fun a1=>?_) (fun a1=>?_)
   ·exists D9 rfl ?_
    exact none _ I6
   ·rw[b3i]at a1
    have a1:¬((i:Int)=(m:Int) - 1):=fun z=>a1 (c8s z)
    ext
    refine Y4 (fun a6=>?_) (fun a6=>?_)
    ·ext
     exists G7 I6.bag (by decide) (by decide) fun z H7 z0 z1 B7 k7=>?_
     refine Y4 (fun a0=>?_) (fun a0=>?_)
     ·ext
      exact none _ (I6.next B7 k7)
     ·ext
      exact hnx _ _ ⟨q,l,rfl,I6.next B7 k7,S6.next k7,fun z=>by omega⟩
    ·exists v4 rfl ?_
     exact hnx _ _ ⟨q,l,rfl,I6,S6,fun z=>by omega⟩
  clear S6 I6 l
  rintro _ H6 ⟨q,l,rfl,I6,S6,hlast⟩
  ext
  specialize b0X ?_
  exists ⟨a0A I6.hD,?_⟩
  refine a3a I6.hD (F9 (by rw[b7,I6.len];omega)) ?_
  have nqc:D≠c:=I6.nc
  refine⟨_,_,_,_,as++[q],N++[l],rfl,⟨I6.bag.put I6.nb nqc,I6.kept.put hD,by rw[d6];simp,I6.nb,I6.nc,by simp[I6.len],?_,?_⟩,by simp[hlen],?_⟩
  ·intro i' x' l' e1' e2'
   rcases W5 e1' with ⟨hi1,f1⟩ | ⟨hi1,f1⟩
   ·rcases W5 e2' with ⟨hi2,f2⟩ | ⟨hi2,f2⟩
    ·obtain⟨g1,g2,g3⟩:=I6.at_ i' x' l' f1 f2
     exact⟨by rw[l7 g2];exact g1,g2,g3⟩
    ·have:=I6.len;omega
   ·rcases W5 e2' with ⟨hi2,f2⟩ | ⟨hi2,f2⟩
    ·have:=I6.len;omega
    ·subst f1 f2
     exact⟨by rw[l7 S6.nD];exact S6.h,S6.nD,S6.nb⟩
  ·intro l' hl'
   rcases u8.mp hl' with z | z
   ·exact I6.small l' z
   ·rw[g8.mp z];exact⟨S6.len,S6.lt⟩
  ·intro z
   rw[hlast z]
   have:m - 1=N.length:=by omega
   rw[this];simp
 ·rintro _ H2 ⟨x3,x4,x5,x6,as,N,rfl,I2,hlen,hlast⟩
  ext
  exact k D N H2 ⟨as,I2.hD,I2.len,fun i x l e1 e2=>(I2.at_ i x l e1 e2).1⟩ hlen I2.small (hlast rfl) I2.bag I2.kept
theorem c6w(xs:List V):a5L xs (some 1) none=xs.drop 1:=by
 cases xs with
 | nil=>rfl
 | cons a r=>rw[c1T];rfl
theorem c2e(l:List Nat)(n:Nat):(IL l).drop n=IL (l.drop n):=by unfold IL;rw[List.map_drop]
theorem b4P(xs:List V):a0Y xs []=decide (xs.length=0):=by
 unfold a0Y
 rw[show min xs.length ([]:List V).length=0 by simp]
 simp only[List.range_zero,b5G,b3I,a5b]
 by_cases h:xs.length=0
 ·rw[h];rfl
 ·rw[c8r h]
  simpa using h
theorem c4X{G:List Nat}(h:(l.map fun t=>decide (t∈G)).any id=true):∃t∈l,t∈G:=by
 obtain⟨x,hx,e⟩:=a0l.mp h
 obtain⟨t,ht,rfl⟩:=A2.mp hx
 exact⟨t,ht,of_decide_eq_true e⟩
theorem b5s{α:Type}(l:List Nat)(f:Nat->α)(i:Nat){t:Nat}(e:l[i]? = some t):(l.take (i+1)).map f=(l.take i).map f++[f t]:=by
 rw[U9,e];simp
structure a3K(H0 H:Hp)(d:Addr)(N:Nt)(G:List Nat):Prop where
 same:t9 H0 H
 hd:H d=some (.dK (KS G))
 nd:G.Nodup
 lt:∀k∈G,k<N.length
 gd:∀k∈G,Gd N k
theorem a3K.next{G:List Nat}(h:a3K H0 H d N G)(s:t9 H H'):a3K H0 H' d N G:=⟨h.same.trans s,s _ _ h.hd,h.nd,h.lt,h.gd⟩
theorem a3K.put{G:List Nat}(h:a3K H0 H d N G)(n:H0 d=none){k:Nat}(hk:k<N.length)(g:Gd N k):a3K H0 (upd H d (.dK (KS (a4m G k)))) d N (a4m G k):=
 ⟨fun b o e=>by rw[l7 (d9 e n)];exact h.same b o e,d6,a8a h.nd,fun j hj=>(Y3.mp hj).elim (h.lt j) fun z=>z ▸ hk,fun j hj=>(Y3.mp hj).elim (h.gd j) fun z=>z ▸ g⟩
theorem c1K{K:Fg}{x2 x4 x5 x6:Option V}{G:List Nat}(n0:H0 d=none)(hn:E6 H a N)(hN:N.length<=24)(hl:N[i]? = some l)(hl2:l.length<=2)(hG:a3K H0 H d N G)
  (k:∀H' G',a3K H0 H' d N G'->(∀j∈G,j∈G')->(l=[]->i∈G')->E6 H' a N->D.nx [some (.ref a),some (.ref d),x2,some (.int (i:Int)),x4,x5,x6] H') :
  K6 (tOr (C8 (tOp qEq (tOp qIx (c6 0) (c6 3)) (a0T (i9)))) (tB (tCB b4p (b6 (V5 (U5 K (tOp qIx (c6 0) (c6 3))) (T5) (b0C (c6 0) (c6 2))) (i9))))) (a0N (c6 1) (c6 3) (tC (.bl true))) (D3) D
   [some (.ref a),some (.ref d),x2,some (.int (i:Int)),x4,x5,x6] H:=by
 have hi:i<N.length:=(gI hl)
 have hGl:G.length<100000:=by
  have:=a6r _ _ hG.nd hG.lt
  omega
 have put:∀H1,E6 H1 a N->a3K H0 H1 d N G->a≠d->(∀x,H1 x=some (.dK (KS G))->True)->Gd N i->a0N (c6 1) (c6 3) (tC (.bl true)) D [some (.ref a),some (.ref d),x2,some (.int (i:Int)),x4,x5,x6] H1:=by
  intro H1 n1 g1 nad _ gd
  specialize a2i ?_
  refine⟨d,_,rfl,b1B g1.hd hGl i,?_⟩
  refine k _ (a4m G i) (g1.put n0 hi gd) (fun j hj=>Y3.mpr (.inl hj)) (fun _=>Y3.mpr (.inr rfl)) ?_
  obtain⟨as,q1,q2,q3⟩:=n1.ex
  refine⟨as,by rw[l7 nad];exact q1,q2,fun j x l' e1 e2=>?_⟩
  have q:=q3 j x l' e1 e2
  rw[l7 (L6 q g1.hd (by intro z;cases z))]
  exact q
 obtain⟨xs,x,h1,h2,h3,_⟩:=hn.at hl
 have nad:a≠d:=L6 h1 hG.hd (by intro z;cases z)
 ext
 exists L5 h1 h2 ?_
 refine E3 (by simp) fun p H1 hp e1 s1=>?_
 refine⟨_,c1P (s1 _ _ h3) e1 (b5E l) rfl,?_⟩
 rw[b4P,O5]
 ext
 by_cases hz:l=[]
 ·refine D9 (c8s (by rw[hz];rfl)) ?_
  refine D9 rfl ?_
  exact put H1 (hn.same s1) (hG.next s1) nad (fun _ _=>trivial) (.stop (hz ▸ hl))
 exists v4 (c8r fun z=>hz (List.length_eq_zero_iff.mp z)) ?_
 specialize V8 (R8 ?_)
 refine L5 (s1 _ _ h1) h2 ?_
 refine⟨x,rfl,⟨_,SqL.of (s1 _ _ h3)⟩,fun E hE=>?_⟩
 have G1:=hG.next s1
 refine T7 (xs:=IL l) (fun j ys H2=>ys=(l.take j).map (fun t=>V.bl (decide (t∈G)))/\H2 E=some (.lst ys)/\t9 H1 H2) ⟨by simp,d6,A0 hE⟩ ?_ ?_ ?_ ?_
 ·rintro j ys H2 ⟨_,h,_⟩
  exact h
 ·rintro j ys H2 _ ⟨_,_,s2⟩
  exact SqL.of (s2 _ _ (s1 _ _ h3))
 ·rintro j y ys H2 hy ⟨rfl,hE2,s2⟩ R hR
  have hy:(l.map fun(n:Nat)=>V.int (n:Int))[j]? = some y:=hy
  rw[c9]at hy
  cases ht:l[j]? with
  | none=>rw[ht]at hy;cases hy
  | some t=>
   rw[ht]at hy
   cases hy
   have hj:=(gI ht)
   specialize b8f ?_
   obtain⟨o,g1,g2⟩:=a4L (s2 _ _ G1.hd) t
   refine⟨d,o,rfl,g1,?_⟩
   rw[g2]
   refine hR _ _ hE2 (F9 ?_) ⟨?_,d6,fun b o e=>?_⟩
   ·rw[b7,R7]
    omega
   ·rw[b5s l _ j ht]
   ·rw[l7 (d9 e hE)];exact s2 b o e
 ·rintro ys H2 ⟨rfl,hE2,s2⟩
  rw[O5,a0k]at hE2
  have he:l.map (fun t=>V.bl (decide (t∈G)))=(l.map fun t=>decide (t∈G)).map V.bl:=by rw[L8];rfl
  rw[he]at hE2
  ext
  exists c5X hE2 ?_
  refine Y4 (fun c=>?_) (fun c=>?_)
  ·obtain⟨t,t1,t2⟩:=c4X c
   exact put H2 ((hn.same s1).same s2) (G1.next s2) nad (fun _ _=>trivial) (.step hl t1 (hG.gd t t2))
  ·ext
   exact k H2 G (G1.next s2) (fun j hj=>hj) (fun z=>(hz z).elim) ((hn.same s1).same s2)
structure b1R(H0 H:Hp)(d:Addr)(N:Nt)(S:List Nat):Prop where
 same:t9 H0 H
 hd:H d=some (.dK (KS S))
 nd:S.Nodup
 lt:∀k∈S,k<N.length
 rc:∀k∈S,Rc N k
 zero:0∈S
theorem b1R.put{S:List Nat}(h:b1R H0 H d N S)(n:H0 d=none){k:Nat}(hk:k<N.length)(g:Rc N k):b1R H0 (upd H d (.dK (KS (a4m S k)))) d N (a4m S k):=
 ⟨fun b o e=>by rw[l7 (d9 e n)];exact h.same b o e,d6,a8a h.nd,fun j hj=>(Y3.mp hj).elim (h.lt j) fun z=>z ▸ hk,fun j hj=>(Y3.mp hj).elim (h.rc j) fun z=>z ▸ g,Y3.mpr (.inl h.zero)⟩
def a5P(N:Nt)(S:List Nat):Prop:=∀k∈S,∀l,N[k]? = some l->∀t∈l,t∈S
theorem c0E{S:List Nat}{k:Nat}(h:k∈S):a4m S k=S:=by unfold a4m;rw[if_pos h]
theorem E6.dput{ks:List (Key×V)}(h:E6 H a N)(hd:H d=some (.dK ks)):E6 (upd H d o) a N:=by
 obtain⟨as,q1,q2,q3⟩:=h.ex
 exact⟨as,by rw[l7 (L6 q1 hd (by intro z;cases z))];exact q1,q2,fun j x l e1 e2=>by
  have q:=q3 j x l e1 e2
  rw[l7 (L6 q hd (by intro z;cases z))];exact q⟩
theorem b8r{K:Fg}{x1 x2 x5 x6:Option V}{S:List Nat}(n0:H0 d=none)(hn:E6 H a N)(hN:N.length<=24)(hl:N[i]? = some l)(hlt:∀t∈l,t<N.length)(hS:b1R H0 H d N S)
  (k:∀H' S' x5,b1R H0 H' d N S'->(∀j∈S,j∈S')->(i∈S->∀t∈l,t∈S')->(a5P N S->S'=S)->E6 H' a N->D.nx [some (.ref a),x1,x2,some (.int (i:Int)),some (.ref d),x5,x6] H') :
  K6 (tB (b0C (c6 3) (c6 4))) (a1q (U5 K (tOp qIx (c6 0) (c6 3))) (u4 5) (a0N (c6 4) (c6 5) (tC (.bl true)))) (D3) D [some (.ref a),x1,x2,some (.int (i:Int)),some (.ref d),x5,x6] H:=by
 ext
 specialize b8f ?_
 obtain⟨o,g1,g2⟩:=a4L hS.hd i
 refine⟨d,o,rfl,g1,?_⟩
 rw[g2]
 ext
 refine Y4 (fun c=>?_) (fun c=>?_)
 ·have hi:i∈S:=of_decide_eq_true c
  obtain⟨xs,x,h1,h2,h3,_⟩:=hn.at hl
  specialize a0c (R8 ?_)
  refine L5 h1 h2 ?_
  refine⟨x,rfl,⟨_,SqL.of h3⟩,a1m (xs:=IL l) (fun j σ H2=>∃S' x5,σ=[some (.ref a),x1,x2,some (.int (i:Int)),some (.ref d),x5,x6]/\b1R H0 H2 d N S'/\(∀j∈S,j∈S')/\(∀t∈l.take j,t∈S')/\(a5P N S->S'=S)/\E6 H2 a N/\H2 x=some (.lst (IL l))) ?_ ?_ ?_ ?_⟩
  ·exact⟨S,x5,rfl,hS,fun _ h=>h,by simp,fun _=>rfl,hn,h3⟩
  ·rintro j σ H2 _ ⟨_,_,_,_,_,_,_,_,h⟩
   exact SqL.of h
  ·rintro j y _ H2 hy ⟨S',x5,rfl,I2,i1,i2,i3,n2,hx2⟩
   have hy:(l.map fun(n:Nat)=>V.int (n:Int))[j]? = some y:=hy
   rw[c9]at hy
   cases ht:l[j]? with
   | none=>rw[ht]at hy;cases hy
   | some t=>
    rw[ht]at hy
    cases hy
    have tm:=mI ht
    ext
    specialize a2i ?_
    refine⟨d,_,rfl,b1B I2.hd (by have:=a6r _ _ I2.nd I2.lt;omega) t,?_⟩
    refine⟨a4m S' t,_,rfl,I2.put n0 (hlt t tm) (.step (hS.rc i hi) hl tm),fun j hj=>Y3.mpr (.inl (i1 j hj)),fun z hz=>?_,fun hc=>?_,n2.dput I2.hd,?_⟩
    ·rw[U9,ht]at hz
     rcases u8.mp hz with q | q
     ·exact Y3.mpr (.inl (i2 z q))
     ·exact Y3.mpr (.inr (by simpa using q))
    ·rw[i3 hc]
     exact c0E (hc i hi l hl t tm)
    ·rw[l7 (L6 hx2 I2.hd (by intro z;cases z))];exact hx2
  ·rintro _ H2 ⟨S',x5,rfl,I2,i1,i2,i3,n2,hx2⟩
   refine k H2 S' x5 I2 i1 (fun _ t ht=>i2 t ?_) i3 n2
   rw[O5,a0k];exact ht
 ·ext
  exact k H S x5 hS (fun _ h=>h) (fun h=>(c (c8s h)).elim) (fun _=>rfl) hn
theorem b2W{ms:List Int}{S:List Nat}(h:ms.Perm (S.map fun(n:Nat)=>(n:Int))):∃O:List Nat,O.Perm S/\ms=O.map fun(n:Nat)=>(n:Int):=by
 refine⟨ms.map b5H,?_,?_⟩
 ·have:=h.map b5H
  rw[L8]at this
  have e:(b5H ∘ fun(n:Nat)=>(n:Int))=id:=by funext n;simp
  rw[e,a5S]at this
  exact this
 ·rw[L8]
  have:∀x∈ms,((fun(n:Nat)=>(n:Int)) ∘ b5H) x=id x:=by
   intro x hx
   obtain⟨n,_,rfl⟩:=A2.mp (h.subset hx)
   simp
  rw[R3 this,a5S]
theorem b3Y{O:List Nat}(h:(O.map fun(n:Nat)=>(n:Int)).Pairwise (· <= ·)):O.Pairwise (· <= ·):=by
 rw[c2h]at h
 exact h.imp fun q=>by omega
theorem b9h(O:List Nat)(t:Nat):(O.map fun(n:Nat)=>(n:Int)).idxOf (t:Int)=O.idxOf t:=by
 induction O with
 | nil=>rfl
 | cons a r ih=>
  rw[E8,c5m,c5m]
  by_cases e:a=t
  ·subst e;simp
  ·have:((a:Int) == (t:Int))=false:=by simp;omega
   have e2:(a == t)=false:=by simpa using e
   rw[this,e2,ih]
theorem I0(h:i<N.length):N[i]? = some N[i]:=by simp
theorem b6x{K:Fg}{E:XK}(hn:E6 H a N)(hp:0<N.length)(hN:N.length<=24)(hs:∀l∈N,l.length<=2/\∀t∈l,t<N.length)(hl:N[N.length - 1]? = some [])
  (k:∀a' N' H',E6 H' a' N'->a0t N'->N'.length<=24->t9 H H'->Q (.ref a') H'):a4F K [.ref a] H Q E:=by
 refine⟨rfl,?_⟩
 unfold b2t
 nofun
 exists a8L fun d H1 hd e1 s1=>?_
 have n1:=hn.same s1
 obtain⟨xs0,hx0,lx0⟩:=hn.len
 exact_mod_cast a0M (P:=fun σ H2=>∃x2 x3 G,σ=[some (.ref a),some (.ref d),x2,x3,none,none,none]/\a3K H H2 d N G/\N.length - 1∈G/\E6 H2 a N) ?_ ?_
 rotate_left
 ·intro nx hnx
  specialize a0c (a0F ?_)
  refine N8 (s1 _ _ hx0) ?_
  refine⟨N.length,by rw[lx0],by omega,by omega,?_⟩
  rw[z9]
  refine Z1 (fun i σ H2=>∃x2 x3 G,σ=[some (.ref a),some (.ref d),x2,x3,none,none,none]/\a3K H H2 d N G/\(0<i->N.length - 1∈G)/\E6 H2 a N) ?_ ?_ ?_
  ·exact⟨_,_,[],rfl,⟨s1,e1,by simp,by simp,by simp⟩,by omega,n1⟩
  ·rintro i _ H2 hi ⟨x2,x3,G,rfl,I2,g2,n2⟩
   ext
   obtain⟨xs2,hx2,lx2⟩:=n2.len
   specialize a0c (a0F ?_)
   refine N8 hx2 ?_
   refine⟨N.length,by rw[lx2],by omega,by omega,?_⟩
   rw[z9]
   refine Z1 (fun j σ H3=>∃x3 G,σ=[some (.ref a),some (.ref d),some (.int (0+(i:Int))),x3,none,none,none]/\a3K H H3 d N G/\(j=N.length->N.length - 1∈G)/\E6 H3 a N) ?_ ?_ ?_
   ·exact⟨_,G,rfl,I2,by omega,n2⟩
   ·rintro j _ H3 hj ⟨x3,G3,rfl,I3,g3,n3⟩
    exact_mod_cast b0V ?_
    rw[a0p (j:Int)]
    refine c1K hd n3 hN (I0 hj) (hs _ (D6 _)).1 I3 fun H4 G4 I4 sub4 h4 n4=>?_
    refine⟨_,G4,rfl,I4,fun z=>?_,n4⟩
    have e:N.length - 1=j:=by omega
    rw[e]at hl ⊢
    refine h4 ?_
    rw[I0 hj]at hl
    exact Option.some.inj hl
   ·rintro _ H3 ⟨x3,G3,rfl,I3,g3,n3⟩
    exact⟨_,_,G3,rfl,I3,fun _=>g3 rfl,n3⟩
  ·rintro _ H2 ⟨x2,x3,G,rfl,I2,g2,n2⟩
   exact hnx _ _ ⟨x2,x3,G,rfl,I2,g2 hp,n2⟩
 rintro _ H2 ⟨x2,x3,G,rfl,I2,hlast,n2⟩
 nofun
 exact_mod_cast V8 (a0F ?_)
 obtain⟨xs2,hx2,lx2⟩:=n2.len
 ext
 refine N8 hx2 ?_
 refine⟨N.length,by rw[lx2],by omega,by omega,fun A hA=>?_⟩
 rw[z9]
 refine a4y (fun i ys H3=>∃as:List Addr,ys=as.map V.ref/\as.length=i/\(∀(j:Nat) x l,as[j]? = some x->(a2z N G)[j]? = some l->H3 x=some (.lst (IL l))/\x≠A)/\H3 A=some (.lst ys)/\t9 H2 H3) ?_ ?_ ?_ ?_
 ·exact⟨[],rfl,rfl,by simp,d6,A0 hA⟩
 ·rintro i ys H3 ⟨_,_,_,_,h,_⟩
  exact h
 ·rintro i ys H3 hi ⟨as,rfl,la,at3,hA3,s3⟩ R hR
  rw[a0p]
  obtain⟨ys0,x,f1,f2,f3,f4⟩:=(n2.same s3).at (I0 hi)
  have more:∀q H4,t9 H3 H4->(∀l,(a2z N G)[i]? = some l->H4 q=some (.lst (IL l)))->q≠A->R (.ref q) H4:=by
   intro q H4 s4 hq nq
   refine hR _ _ (s4 _ _ hA3) (F9 (by rw[b7];omega)) ⟨as++[q],by simp,by simp[la],?_,d6,fun b o e=>?_⟩
   ·intro j y l' h1 h2
    rcases W5 h1 with ⟨_,g1⟩ | ⟨hj,g1⟩
    ·obtain⟨g2,g3⟩:=at3 j y l' g1 h2
     exact⟨by rw[l7 g3];exact s4 _ _ g2,g3⟩
    ·rw[hj,la]at h2
     subst g1
     exact⟨by rw[l7 nq];exact hq l' h2,nq⟩
   ·rw[l7 (d9 e hA)]
    exact s4 _ _ (s3 _ _ e)
  ext
  specialize b8f ?_
  obtain⟨o,g1,g2⟩:=a4L (s3 _ _ I2.hd) i
  refine⟨d,o,rfl,g1,?_⟩
  rw[g2]
  ext
  refine Y4 (fun c=>?_) (fun c=>?_)
  ·ext
   refine L5 f1 f2 ?_
   refine more x H3 (t9.refl _) (fun l hl'=>?_) ?_
   ·rw[a6s (I0 hi) (of_decide_eq_true c)]at hl'
    cases hl'
    exact f3
   ·refine(d9 (H:=H2) (a:=x) (b:=A) (o:=.lst (IL N[i])) ?_ hA)
    obtain⟨ys1,x',f1',f2',f3',_⟩:=n2.at (I0 hi)
    have e1:=s3 _ _ f1'
    rw[f1]at e1
    cases e1
    rw[f2]at f2'
    cases f2'
    exact f3'
  ·ext
   exists N8 f1 ?_
   exists E3 (by simp) fun p1 H4 hp1 e4 s4=>?_
   exists L5 (s4 _ _ f1) f2 ?_
   refine c5T (s4 _ _ f3) fun p2 H5 hp2 e5 s5=>?_
   rw[c6w,c2e]at e5
   have hl2:=(hs _ (D6 (l:=N) (h:=hi))).1
   refine c3s (s5 _ _ e4) e5 (E3 (by simp[O5];omega) fun p3 H6 hp3 e6 s6=>?_)
   refine more p3 H6 ((s4.trans s5).trans s6) (fun l hl'=>?_) ?_
   ·rw[b0h (I0 hi) (fun z=>c (c8s z))]at hl'
    cases hl'
    rw[e6,f4]
    have:((N.length:Int) - 1)=((N.length - 1:Nat):Int):=by omega
    rw[this]
    rfl
   ·exact(d9 ((s4.trans s5) _ _ hA3) hp3).symm
 rintro ys H3 ⟨as,rfl,la,at3,hA3,s3⟩
 obtain⟨N2,hN2⟩:∃N2,N2=a2z N G:=⟨_,rfl⟩
 have len2:N2.length=N.length:=by rw[hN2,b0i]
 have n3:E6 H3 A N2:=⟨as,hA3,by rw[len2,la],fun i x l h1 h2=>(at3 i x l h1 (hN2 ▸ h2)).1⟩
 have small2:∀l∈N2,l.length<=2/\∀t∈l,t<N2.length:=by
  rw[len2,hN2]
  exact b3a hp hs hl hlast
 have gd2:∀k,k<N2.length->Gd N2 k:=by
  rw[len2,hN2]
  exact c1M I2.gd hl hlast
 have s03:t9 H H3:=I2.same.trans s3
 clear at3 hN2 la
 ext
 nofun
 intro r hr
 refine⟨d6,[(Sum.inl 0,V.bl true)],rfl,by simp,?_⟩
 have e4:(upd (upd H3 r (.dK [])) r (.dK (a5I [] [(Sum.inl 0,V.bl true)])))=upd H3 r (.dK (KS [0])):=by
  rw[a7U];rfl
 rw[e4]
 ext
 obtain⟨H4,hH4⟩:∃H4,H4=upd H3 r (.dK (KS [0])):=⟨_,rfl⟩
 rw[<-hH4]
 have s4:t9 H3 H4:=hH4 ▸ A0 hr
 have er:H4 r=some (.dK (KS [0])):=hH4 ▸ d6
 have n4:=n3.same s4
 clear hH4 e4
 have hp2:0<N2.length:=by omega
 exact_mod_cast a0M (P:=fun σ H5=>∃x2 x3 x5 S,σ=[some (.ref A),some (.ref d),x2,x3,some (.ref r),x5,none]/\b1R H3 H5 r N2 S/\a5P N2 S/\E6 H5 A N2) ?_ ?_
 rotate_left
 ·intro nx hnx
  obtain⟨ys4,hy4,ly4⟩:=n4.len
  specialize a0c (a0F ?_)
  refine N8 hy4 ?_
  refine⟨N2.length,by rw[ly4],by omega,by omega,?_⟩
  rw[z9]
  refine Z1 (fun i σ H5=>∃x2 x3 x5 S,σ=[some (.ref A),some (.ref d),x2,x3,some (.ref r),x5,none]/\b1R H3 H5 r N2 S/\(a5P N2 S\/i+1<=S.length)/\E6 H5 A N2) ?_ ?_ ?_
  ·exact⟨_,_,_,[0],rfl,⟨s4,er,by simp,by simpa using hp2,by simpa using Rc.zero,by simp⟩,.inr (by simp),n4⟩
  ·rintro i _ H5 hi ⟨x2,x3,x5,S,rfl,I5,g5,n5⟩
   ext
   obtain⟨ys5,hy5,ly5⟩:=n5.len
   specialize a0c (a0F ?_)
   refine N8 hy5 ?_
   refine⟨N2.length,by rw[ly5],by omega,by omega,?_⟩
   rw[z9]
   refine Z1 (fun j σ H6=>∃x3 x5 S',σ=[some (.ref A),some (.ref d),some (.int (0+(i:Int))),x3,some (.ref r),x5,none]/\b1R H3 H6 r N2 S'/\(∀k∈S,k∈S')/\(∀k∈S,k<j->∀l,N2[k]? = some l->∀t∈l,t∈S')/\(a5P N2 S->S'=S)/\E6 H6 A N2) ?_ ?_ ?_
   ·exact⟨_,_,S,rfl,I5,fun _ h=>h,by omega,fun _=>rfl,n5⟩
   ·rintro j _ H6 hj ⟨x3,x5,S',rfl,I6,b1,b2,b3,n6⟩
    exact_mod_cast b0V ?_
    rw[a0p (j:Int)]
    refine b8r hr n6 (by omega) (I0 hj) (small2 _ (D6 _)).2 I6 fun H7 S7 x5 I7 c1 c2 c3 n7=>?_
    refine⟨_,x5,S7,rfl,I7,fun k hk=>c1 k (b1 k hk),fun k hk hkj l hl' t ht=>?_,fun hc=>?_,n7⟩
    ·by_cases e:k=j
     ·subst e
      rw[I0 hj]at hl'
      cases hl'
      exact c2 (b1 k hk) t ht
     ·exact c1 t (b2 k hk (by omega) l hl' t ht)
    ·have:=b3 hc
     rw[this]at c3
     exact c3 hc
   ·rintro _ H6 ⟨x3,x5,S',rfl,I6,b1,b2,b3,n6⟩
    refine⟨_,x3,x5,S',rfl,I6,?_,n6⟩
    rcases g5 with hc | hc
    ·exact .inl (by rw[b3 hc];exact hc)
    ·by_cases hcl:a5P N2 S
     ·exact .inl (by rw[b3 hcl];exact hcl)
     ·right
      obtain⟨t,t1,t2⟩:∃t,t∈S'/\¬t∈S:=by
       refine Classical.byContradiction fun hno=>hcl fun k hk l hl' t ht=>?_
       refine Classical.byContradiction fun hts=>hno ⟨t,b2 k hk (I5.lt k hk) l hl' t ht,hts⟩
      have:(t::S).length<=S'.length:=by
       have nd:(t::S).Nodup:=F0.mpr ⟨t2,I5.nd⟩
       have sub:∀k∈t::S,k∈S':=fun k hk=>(d5.mp hk).elim (fun z=>z ▸ t1) (b1 k)
       exact b8X _ _ nd sub
      rw[C0]at this
      omega
  ·rintro _ H5 ⟨x2,x3,x5,S,rfl,I5,g5,n5⟩
   refine hnx _ _ ⟨x2,x3,x5,S,rfl,I5,g5.elim id fun h=>?_,n5⟩
   have:=a6r _ _ I5.nd I5.lt
   omega
 rintro _ H5 ⟨y2,y3,y5,S,rfl,I5,hcl,n5⟩
 have hSl:=a6r _ _ I5.nd I5.lt
 nofun
 have ek:(KS S).map (fun kv=>kV kv.1)=(S.map fun(n:Nat)=>(n:Int)).map V.int:=by
  unfold KS;rw[L8,L8];rfl
 have ld:a4l [.ref r] H5=fun Q=>∀l,H5 l=none->Q (.ref l) (upd H5 l (.lst ((KS S).map fun kv=>kV kv.1))):=by
  unfold a4l
  simp only[I5.hd]
 rw[ld]
 intro p6 hp6
 rw[ek]
 obtain⟨H6,hH6⟩:∃H6,H6=upd H5 p6 (.lst ((S.map fun(n:Nat)=>(n:Int)).map V.int)):=⟨_,rfl⟩
 rw[<-hH6]
 have s6:t9 H5 H6:=hH6 ▸ A0 hp6
 have e6:H6 p6=some (.lst ((S.map fun(n:Nat)=>(n:Int)).map V.int)):=hH6 ▸ d6
 clear hH6 ld
 ext
 have so:a4K [.ref p6] H6=fun Q=>∃ns,a1x ((S.map fun(n:Nat)=>(n:Int)).map V.int)=some ns/\ns.length<64/\∀(p:Addr) (ms:List Int),ms.Perm ns->ms.Pairwise (· <= ·)->H6 p=none->Q (.ref p) (upd H6 p (.lst (ms.map V.int))):=by
  unfold a4K
  simp only[e6]
 rw[so]
 refine⟨_,a9b _,by rw[b7];omega,fun p7 ms hperm hsort hp7=>?_⟩
 obtain⟨O,hO,rfl⟩:=b2W hperm
 have hsO:=b3Y hsort
 have ndO:O.Nodup:=hO.nodup_iff.mpr I5.nd
 have memO:∀k,k∈O↔k∈S:=fun k=>hO.mem_iff
 obtain⟨H7,hH7⟩:∃H7,H7=upd H6 p7 (.lst ((O.map fun(n:Nat)=>(n:Int)).map V.int)):=⟨_,rfl⟩
 rw[<-hH7]
 have s7:t9 H6 H7:=hH7 ▸ A0 hp7
 have e7:H7 p7=some (.lst ((O.map fun(n:Nat)=>(n:Int)).map V.int)):=hH7 ▸ d6
 clear hH7 so
 have hOl:O.length<=24:=by rw[hO.length_eq];omega
 ext
 have n7:=(n5.same s6).same s7
 have s07:t9 H H7:=((s03.trans I5.same).trans s6).trans s7
 have valid:a0t (a5t N2 O):=b5R ((memO 0).mpr I5.zero) hsO ndO (fun k hk=>I5.lt k ((memO k).mp hk)) (by omega) (fun k hk l hl' t ht=>(memO t).mpr (hcl k ((memO k).mp hk) l hl' t ht)) (fun k hk=>I5.rc k ((memO k).mp hk))
  (fun l hl'=>(small2 l hl').1) gd2
 specialize V8 (R8 ?_)
 refine⟨p7,rfl,⟨_,SqL.of e7⟩,fun B hB=>?_⟩
 refine T7 (xs:=(O.map fun(n:Nat)=>(n:Int)).map V.int) (fun i ys H8=>∃bs:List Addr,ys=bs.map V.ref/\bs.length=i/\(∀(j:Nat) x l,bs[j]? = some x->(a5t N2 O)[j]? = some l->H8 x=some (.lst (IL l))/\x≠B)/\H8 B=some (.lst ys)/\t9 H7 H8) ?_ ?_ ?_ ?_ ?_
 ·exact⟨[],rfl,rfl,by simp,d6,A0 hB⟩
 ·rintro i ys H8 ⟨_,_,_,_,h,_⟩
  exact h
 ·rintro i ys H8 _ ⟨_,_,_,_,_,s8⟩
  exact SqL.of (s8 _ _ e7)
 ·rintro i x ys H8 hx ⟨bs,rfl,lb,at8,hB8,s8⟩ R hR
  rw[c9,c9]at hx
  cases ho:O[i]? with
  | none=>rw[ho]at hx;cases hx
  | some kk=>
   rw[ho]at hx
   cases hx
   have hko:=mI ho
   have hks:=(memO kk).mp hko
   have hkl:=I5.lt kk hks
   obtain⟨ys8,x8,f1,f2,f3,_⟩:=(n7.same s8).at (I0 hkl)
   obtain⟨l8,hl8⟩:∃l8,l8=N2[kk]:=⟨_,rfl⟩
   rw[<-hl8]at f3
   have hN8:N2[kk]? = some l8:=by rw[hl8];exact I0 hkl
   specialize V8 (R8 ?_)
   refine L5 f1 f2 ?_
   refine⟨x8,rfl,⟨_,SqL.of f3⟩,fun C hC=>?_⟩
   refine T7 (xs:=IL l8) (fun j zs H9=>zs=IL ((l8.take j).map fun t=>O.idxOf t)/\H9 C=some (.lst zs)/\t9 H8 H9) ⟨rfl,d6,A0 hC⟩ ?_ ?_ ?_ ?_
   ·rintro j zs H9 ⟨_,h,_⟩
    exact h
   ·rintro j zs H9 _ ⟨_,_,s9⟩
    exact SqL.of (s9 _ _ f3)
   ·rintro j y zs H9 hy ⟨rfl,hC9,s9⟩ R' hR'
    have hy:(l8.map fun(n:Nat)=>V.int (n:Int))[j]? = some y:=hy
    rw[c9]at hy
    cases ht:l8[j]? with
    | none=>rw[ht]at hy;cases hy
    | some t=>
     rw[ht]at hy
     cases hy
     have htO:t∈O:=(memO t).mpr (hcl kk hks l8 hN8 t (mI ht))
     specialize b0X ?_
     have e9:H9 p7=_:=s9 _ _ (s8 _ _ e7)
     exists ⟨a0A e9,?_⟩
     have ix:a7a (.ref p7) [.int (t:Int)] H9=fun Q=>∃ns,a1x ((O.map fun(n:Nat)=>(n:Int)).map V.int)=some ns/\ns.length<10000/\(t:Int)∈ns/\Q (.int (ns.idxOf (t:Int):Nat)) H9:=by
      unfold a7a
      simp only[e9]
     rw[ix]
     refine⟨_,a9b _,by rw[b7];omega,A2.mpr ⟨t,htO,rfl⟩,?_⟩
     rw[b9h]
     have hl2:=(small2 l8 (mI hN8)).1
     refine hR' _ _ hC9 (F9 ?_) ⟨?_,d6,fun b o e=>?_⟩
     ·rw[O5,b7,R7];omega
     ·unfold IL
      rw[b5s l8 (fun t=>O.idxOf t) j ht]
      simp
     ·rw[l7 (d9 e hC)];exact s9 _ _ e
   ·rintro zs H9 ⟨rfl,hC9,s9⟩
    rw[O5,a0k]at hC9
    refine hR _ _ (s9 _ _ hB8) (F9 (by rw[b7];have:=(gI ho);omega)) ⟨bs++[C],by simp,by simp[lb],?_,d6,fun b o e=>?_⟩
    ·have nCB:C≠B:=(d9 hB8 hC).symm
     intro j y l' h1 h2
     rcases W5 h1 with ⟨_,g1⟩ | ⟨hj,g1⟩
     ·obtain⟨g2,g3⟩:=at8 j y l' g1 h2
      exact⟨by rw[l7 g3];exact s9 _ _ g2,g3⟩
     ·rw[hj,lb]at h2
      subst g1
      refine⟨?_,nCB⟩
      rw[l7 nCB,hC9]
      have h2':(a5t N2 O)[i]? = some (l8.map fun t=>O.idxOf t):=by
       unfold a5t
       rw[c9,ho]
       simp[N4,hN8]
      rw[h2']at h2
      cases h2
      rfl
    ·rw[l7 (d9 e hB)]
     exact s9 _ _ (s8 _ _ e)
 ·rintro ys H8 ⟨bs,rfl,lb,at8,hB8,s8⟩
  rw[b7,b7]at lb
  have hlen:(a5t N2 O).length=O.length:=by simp[a5t]
  exact k B (a5t N2 O) H8 ⟨bs,hB8,by rw[lb,hlen],fun i x l h1 h2=>(at8 i x l h1 h2).1⟩ valid (by rw[hlen];exact hOl) (s07.trans s8)
structure Q5(H:Hp)(a:Addr)(N:Nt):Prop where
 ex:∃rs:List Addr,H a=some (.lst (rs.map V.ref))/\rs.length=N.length/\∀(i:Nat) x l,rs[i]? = some x->N[i]? = some l->a5N H (.ref x) (l.length == 2)
theorem Q5.same(h:Q5 H a N)(k:t9 H H'):Q5 H' a N:=by
 obtain⟨rs,h1,h2,h3⟩:=h.ex
 exact⟨rs,k a _ h1,h2,fun i x l e1 e2=>(h3 i x l e1 e2).ts (t9.ts k)⟩
theorem Q5.kept{c:Addr}(h:Q5 H a N)(hB:Bag H b c)(k:D4 b H H'):Q5 H' a N:=by
 obtain⟨rs,h1,h2,h3⟩:=h.ex
 exact⟨rs,k.1 a _ h1 (a1c hB h1),h2,fun i x l e1 e2=>(h3 i x l e1 e2).ts (D4.ts k hB)⟩
def OpP(PL:List Str)(v:V):Prop:=∀s,v=.str s->s∈PL
def a7L(H:Hp)(PL:List Str)(p:Addr):Prop:=∃k a b,H p=some (.tup [.str k,a,b])/\OpP PL a/\OpP PL b
def b9F(H:Hp)(PL:List Str)(p:Addr):Prop:=∃xs,H p=some (.tup xs)/\∀v∈xs.drop 1,OpP PL v/\∀q,v=.ref q->a7L H PL q
structure Pl(H:Hp)(a:Addr)(PL:List Str):Prop where
 h:H a=some (.lst (PL.map V.str))
 pos:0<PL.length
 le:PL.length<=4
 nm:∀s∈PL,NmS s
section
variable {K:Fg}{c:Addr}{PL:List Str}{E:XK}
theorem a7L.ts(h:a7L H PL p)(t:J1 H H'):a7L H' PL p:=let⟨k,a,b,h1,h2⟩:=h; ⟨k,a,b,t _ _ h1,h2⟩
theorem b9F.ts(h:b9F H PL p)(t:J1 H H'):b9F H' PL p:=let⟨xs,h1,h2⟩:=h; ⟨xs,t _ _ h1,fun v hv=>⟨(h2 v hv).1,fun q e=>((h2 v hv).2 q e).ts t⟩⟩
theorem Pl.n(h:Pl H a PL):b1T H a:=⟨PL,h.h,b9V.mp h.pos,by have:=h.le;omega,h.nm⟩
theorem Pl.kept(h:Pl H a PL)(hB:Bag H b c)(k:D4 b H H'):Pl H' a PL:=⟨k.1 _ _ h.h (h.n.kept hB k).2,h.pos,h.le,h.nm⟩
theorem c1p(n:Int):OpP PL (.int n):=fun s e=>nomatch e
theorem c0O(hB:Bag H b c)(k:∀a PL H',Pl H' a PL->Bag H' b c->D4 b H H'->Q (.ref a) H'):a7V K [.ref b] H Q E:=by
 refine⟨rfl,?_⟩
 unfold b7K
 nofun
 exists E3 (by decide) fun l H1 hl e1 s1=>?_
 have hn:∀s∈(["a","b1","set","k0","ask","k1","total","x2y3z4w5","k2","take"]:List Str),NmS s:=by
  intro s hs
  simp only[d5,o6,or_false]at hs
  rcases hs with rfl | rfl | rfl | rfl | rfl | rfl | rfl | rfl | rfl | rfl <;> exact⟨by decide +kernel,by decide +kernel⟩
 obtain⟨ws,hws⟩:∃ws:List Str,ws=(["a","b1","set","k0","ask","k1","total","x2y3z4w5","k2","take"]:List Str):=⟨_,rfl⟩
 have e1:H1 l=some (.lst (ws.map V.str)):=by rw[hws];exact e1
 have lw:ws.length=10:=by rw[hws];rfl
 rw[<-hws]at hn
 have B1:=hB.same s1
 have nl:=hB.nb hl
 nofun
 exists G7 B1 (by decide) (by decide) fun n2 H2 a0 a1 B2 k2=>?_
 specialize V8 (a0F ?_)
 refine G7 B2 (by decide) (by decide) fun n3 H3 b0 b1 B3 k3=>?_
 obtain⟨m,rfl⟩:∃m:Nat,n3=(m:Int):=⟨n3.toNat,by omega⟩
 ext
 refine⟨2+(m:Int),rfl,by omega,by omega,fun D hD=>?_⟩
 have k13:=k2.trans k3
 have w3:=k13.1 _ _ e1 nl.1
 rw[show(2+(m:Int)).toNat=2+m by omega]
 refine a4y (fun i ys H4=>∃PL:List Str,ys=PL.map V.str/\PL.length=i/\(∀s∈PL,NmS s)/\H4 D=some (.lst ys)/\t9 H3 H4) ⟨[],rfl,rfl,by simp,d6,A0 hD⟩ ?_ ?_ ?_
 ·rintro i ys H4 ⟨_,_,_,_,h,_⟩
  exact h
 ·rintro i ys H4 hi ⟨PL,rfl,lp,hp,hd,s4⟩ R hR
  ext
  exists a0G (by unfold b9P;omega) ?_
  refine a0G (by decide) ?_
  have hm:=R0 (n2+3 * (0+(i:Int))) (show(10:Int)≠0 by decide)
  have hm2:=O8 (n2+3 * (0+(i:Int))) (show(0:Int)<10 by decide)
  obtain⟨v,hv,hv2⟩:=a2M (xs:=ws.map V.str) hm (by rw[b7,lw];exact hm2)
  obtain⟨s,hs,rfl⟩:=A2.mp (mI hv2)
  refine L5 (s4 _ _ w3) hv ?_
  refine hR _ _ hd (F9 (by rw[b7];omega)) ⟨PL++[s],by simp,by simp[lp],fun u hu=>?_,d6,fun b o e=>by rw[l7 (d9 e hD)];exact s4 _ _ e⟩
  rcases u8.mp hu with q | q
  ·exact hp u q
  ·rw[g8.mp q];exact hn s hs
 ·rintro ys H4 ⟨PL,rfl,lp,hp,hd,s4⟩
  exact k D PL H4 ⟨hd,by omega,by omega,hp⟩ (B3.same s4) (((D4.of_same s1).trans k13).trans (D4.of_same s4))
theorem a2l(hB:Bag H b c)(hN:Pl H a PL)(k:∀v H',OpN v->OpP PL v->Bag H' b c->D4 b H H'->Q v H'):Y1 K [.ref b,.ref a] H Q E:=by
 refine⟨rfl,?_⟩
 unfold b0a
 nofun
 exists G7 hB (by decide) (by decide) fun n1 H1 a0 a1 B1 k1=>?_
 refine Y4 (fun _=>?_) (fun _=>?_)
 ·nofun
  exists G7 B1 (by decide) (by decide) fun n2 H2 b0 b1 B2 k2=>?_
  exists E3 (by simp) fun l H3 hl e3 s3=>?_
  refine G7 (B2.same s3) (by decide) (by decide) fun n4 H4 c0 c1 B4 k4=>?_
  obtain⟨v,hv,hv2⟩:=a2M (xs:=([.int 0,.int 1,.int 999999999999,.int n2]:List V)) c0 (by simpa using c1)
  refine L5 (k4.1 _ _ e3 (B2.nb hl).1) hv ?_
  have m:=mI hv2
  have:∃n:Int,v=.int n/\0<=n/\n<1000000000000:=by
   simp only[d5,o6,or_false]at m
   rcases m with rfl | rfl | rfl | rfl
   ·exact⟨_,rfl,by decide,by decide⟩
   ·exact⟨_,rfl,by decide,by decide⟩
   ·exact⟨_,rfl,by decide,by decide⟩
   ·exact⟨_,rfl,by omega,by omega⟩
  obtain⟨n,rfl,n0,n1⟩:=this
  exact k _ _ (.inr ⟨n,rfl,n0,n1⟩) (c1p n) B4 (((k1.trans k2).trans (D4.of_same s3)).trans k4)
 ext
 have N1:=hN.kept hB k1
 exists N8 N1.h ?_
 have hp:=N1.pos
 refine G7 B1 (by rw[b7];omega) (by rw[b7];have:=N1.le;omega) fun n2 H2 b0 b1 B2 k2=>?_
 obtain⟨v,hv,hv2⟩:=a2M (xs:=PL.map V.str) b0 b1
 obtain⟨s,hs,rfl⟩:=A2.mp (mI hv2)
 exact L5 (N1.kept B1 k2).h hv (k _ _ (.inl ⟨s,rfl,N1.nm s hs⟩) (fun u e=>by cases e;exact hs) B2 (k1.trans k2))
theorem c1Q(hB:Bag H b c)(hN:Pl H a PL)(k:∀p H',a5n H' p->a7L H' PL p->H p=none->Bag H' b c->D4 b H H'->Q (.ref p) H'):a7Y K [.ref b,.ref a] H Q E:=by
 refine⟨rfl,?_⟩
 unfold b7O
 nofun
 exists E3 (by decide) fun p G hp e s=>?_
 refine G7 (hB.same s) (by decide) (by decide) fun n1 H1 a0 a1 B1 k1=>?_
 have hp1:=k1.1 p _ e (hB.nb hp).1
 have k01:D4 b H H1:=(D4.of_same s).trans k1
 obtain⟨v,hv,hv2⟩:=a2M (xs:=([.str "plus",.str "minus",.str "times",.str "less",.str "same"]:List V)) a0 (by simpa using a1)
 refine L5 hp1 hv ?_
 have:∃kd:Str,v=.str kd/\kd∈(["plus","minus","times","less","same"]:List Str):=by
  have m:=mI hv2
  simp only[d5,o6,or_false]at m
  rcases m with rfl | rfl | rfl | rfl | rfl <;> exact⟨_,rfl,by simp⟩
 obtain⟨kd,rfl,hkd⟩:=this
 ext
 have N1:=hN.kept hB k01
 exists a2l B1 N1 fun v1 H2 o1 p1 B2 k2=>?_
 exists a2l B2 (N1.kept B1 k2) fun v2 H3 o2 p2 B3 k3=>?_
 refine E3 (by simp) fun q G hq e s=>?_
 exact k q _ ⟨kd,v1,v2,e,o1,o2,hkd⟩ ⟨kd,v1,v2,e,p1,p2⟩ (k01.none (k2.none (k3.none hq))) (B3.same s) (((k01.trans k2).trans k3).trans (D4.of_same s))
structure b3z(H:Hp)(a:Addr)(PL:List Str):Prop where
 ex:∃ps:List Addr,H a=some (.lst (ps.map V.ref))/\ps≠[]/\ps.length<=8/\∀p∈ps,a5n H p/\a7L H PL p
theorem b3z.kept(h:b3z H a PL)(hB:Bag H b c)(k:D4 b H H'):b3z H' a PL:=by
 obtain⟨ps,h1,h2,h3,h4⟩:=h.ex
 have t:=k.ts hB
 exact⟨ps,k.1 _ _ h1 (a1c hB h1),h2,h3,fun p hp=>⟨(h4 p hp).1.ts t,(h4 p hp).2.ts t⟩⟩
theorem c3g{ask:Bool}(hB:Bag H b c)(hN:Pl H a PL)(hP:b3z H p PL)(k:∀q H',a5N H' (.ref q) ask->b9F H' PL q->Bag H' b c->D4 b H H'->Q (.ref q) H'):b0F K [.ref b,.ref a,.ref p,.bl ask] H Q E:=by
 refine⟨rfl,?_⟩
 unfold c2q
 nofun
 cases ask with
 | true=>
  exists D9 rfl ?_
  exists a2l hB hN fun v H1 o1 p1 B1 k1=>?_
  refine E3 (by simp) fun q G hq e s=>?_
  exact k q G ⟨q,_,rfl,e,.ask v o1,_,_,rfl,by decide⟩ ⟨_,e,fun u hu=>by
   rw[g8.mp hu]
   exact⟨p1,fun q e=>by rcases o1 with ⟨s,rfl,_⟩ | ⟨n,rfl,_⟩ <;> cases e⟩⟩ (B1.same s) (k1.trans (D4.of_same s))
 | false=>
 exists v4 rfl ?_
 nofun
 exists G7 hB (by decide) (by decide) fun w H1 w0 w1 B1 k1=>?_
 nofun
 have N1:=hN.kept hB k1
 have P1:=hP.kept hB k1
 exists N8 N1.h ?_
 refine G7 B1 (by rw[b7];have:=N1.pos;omega) (by rw[b7];have:=N1.le;omega) fun n2 H2 b0 b1 B2 k2=>?_
 obtain⟨v,hv,hv2⟩:=a2M (xs:=PL.map V.str) b0 b1
 obtain⟨s,hs,rfl⟩:=A2.mp (mI hv2)
 have N2:=N1.kept B1 k2
 have P2:=P1.kept B1 k2
 have k02:=k1.trans k2
 have ns:=N1.nm s hs
 have ps:∀q,(V.str s=V.ref q->a7L H2 PL q):=fun q e=>nomatch e
 have os:OpP PL (.str s):=fun u e=>by cases e;exact hs
 exists L5 N2.h hv ?_
 nofun
 refine Y4 (fun _=>?_) (fun _=>?_)
 ·obtain⟨qs,p1,p2,p3,p4⟩:=P2.ex
  have hl:0<qs.length:=b9V.mpr p2
  ext
  exists N8 p1 ?_
  refine G7 B2 (by rw[b7];omega) (by rw[b7];omega) fun n3 H3 c0 c1 B3 k3=>?_
  obtain⟨v,hv,hv2⟩:=a2M (xs:=qs.map V.ref) c0 c1
  obtain⟨d,hd,rfl⟩:=A2.mp (mI hv2)
  refine L5 (k3.1 _ _ p1 (a1c B2 p1)) hv ?_
  have t3:=k3.ts B2
  ext
  refine E3 (by simp) fun q G hq e s'=>?_
  refine k q G ⟨q,_,rfl,e,.set _ d ns (((p4 d hd).1.ts t3).ts (t9.ts s')),_,_,rfl,by decide⟩ ⟨_,e,fun u hu=>?_⟩ (B3.same s') ((k02.trans k3).trans (D4.of_same s'))
  rcases d5.mp hu with rfl | hu
  ·exact⟨os,fun q e=>nomatch e⟩
  ·rw[g8.mp hu]
   exact⟨(fun s e=>nomatch e),fun q e=>by cases e;exact((p4 d hd).2.ts t3).ts (t9.ts s')⟩
 ext
 nofun
 refine Y4 (fun _=>?_) (fun _=>?_)
 ·ext
  exists a2l B2 N2 fun v H3 o1 p1 B3 k3=>?_
  refine E3 (by simp) fun q G hq e s'=>?_
  refine k q G ⟨q,_,rfl,e,.copy _ v ns o1,_,_,rfl,by decide⟩ ⟨_,e,fun u hu=>?_⟩ (B3.same s') ((k02.trans k3).trans (D4.of_same s'))
  rcases d5.mp hu with rfl | hu
  ·exact⟨os,fun q e=>nomatch e⟩
  ·rw[g8.mp hu]
   exact⟨p1,fun q e=>by rcases o1 with ⟨s,rfl,_⟩ | ⟨n,rfl,_⟩ <;> cases e⟩
 ext
 nofun
 refine Y4 (fun _=>?_) (fun _=>?_)
 ·ext
  exists E3 (by simp) fun q1 G1 hq1 e1 s1=>?_
  exists a2l (B2.same s1) ⟨s1 _ _ N2.h,N2.pos,N2.le,N2.nm⟩ fun v H3 o1 p1 B3 k3=>?_
  exists E3 (by simp) fun q2 G2 hq2 e2 s2=>?_
  exists E3 (by simp) fun q3 G3 hq3 e3 s3=>?_
  have B2':=B3.same s2
  refine G7 (B2'.same s3) (by decide) (by decide) fun j H4 j0 j1 B4 k4=>?_
  obtain⟨x,hx,hx2⟩:=a2M (xs:=[V.ref q1,V.ref q2]) j0 (by simpa using j1)
  refine L5 (k4.1 _ _ e3 (B2'.nb hq3).1) hx ?_
  have kk:D4 b H H4:=(((k02.trans (D4.of_same s1)).trans k3).trans (D4.of_same (s2.trans s3))).trans k4
  have f1:H4 q1=_:=k4.1 _ _ (s3 _ _ (s2 _ _ (k3.1 _ _ e1 (B2.nb hq1).1))) (B2.nb hq1).1
  have f2:H4 q2=_:=k4.1 _ _ (s3 _ _ e2) (B3.nb hq2).1
  have m:=mI hx2
  simp only[d5,o6,or_false]at m
  rcases m with rfl | rfl
  ·exact k q1 H4 ⟨q1,_,rfl,f1,.take _ ns,_,_,rfl,by decide⟩ ⟨_,f1,fun u hu=>by
    rw[g8.mp hu];exact⟨os,fun q e=>nomatch e⟩⟩ B4 kk
  ·exact k q2 H4 ⟨q2,_,rfl,f2,.tell v o1,_,_,rfl,by decide⟩ ⟨_,f2,fun u hu=>by
    rw[g8.mp hu]
    exact⟨p1,fun q e=>by rcases o1 with ⟨s,rfl,_⟩ | ⟨n,rfl,_⟩ <;> cases e⟩⟩ B4 kk
 ext
 refine E3 (by simp) fun q G hq e s'=>?_
 exact k q G ⟨q,_,rfl,e,.skip,_,_,rfl,by decide⟩ ⟨_,e,fun u hu=>nomatch hu⟩ (B2.same s') (k02.trans (D4.of_same s'))
def b9E(H:Hp)(rs:List Addr)(PL:List Str):Prop:=∀p∈rs,b9F H PL p
theorem c0R(hB:Bag H b c)
  (k:∀p ra na N rs PL H',H' p=some (.tup [.ref ra,.ref na])->Q5 H' ra N->H' ra=some (.lst (rs.map V.ref))->b9E H' rs PL->PL.length<=4->E6 H' na N->a0t N->N.length<=24->Bag H' b c->D4 b H H'->Q (.ref p) H'):a7W K [.ref b] H Q E:=by
 refine⟨rfl,?_⟩
 unfold b7L
 nofun
 exists c0O hB fun pa PL H0 P0 B0 k0=>?_
 nofun
 exists G7 B0 (by decide) (by decide) fun n1 H1 b0 b1 B1 k1=>?_
 nofun
 exists G7 B1 (by decide) (by decide) fun n2 H2 c0 c1 B2 k2=>?_
 have k02:=(k0.trans k1).trans k2
 have k012:=k1.trans k2
 exact_mod_cast a0M (P:=fun σ H2=>∃m kd:Nat,σ=[some (.ref b),some (.ref pa),some (.int (m:Int)),some (.int (kd:Int)),none,none,none]/\0<m/\m<=24/\0<kd/\kd<=5/\Bag H2 b c/\D4 b H0 H2) ?_ ?_
 rotate_left
 ·intro nx hnx
  ext
  exists G7 B2 (by decide) (by decide) fun n3 H3 d0 d1 B3 k3=>?_
  refine Y4 (fun _=>?_) (fun _=>?_)
  ·nofun
   exists G7 B3 (by decide) (by decide) fun n4 H4 f0 f1 B4 k4=>?_
   exists G7 B4 (by decide) (by decide) fun n5 H5 g0 g1 B5 k5=>?_
   obtain⟨n4,rfl⟩:=J2 f0
   obtain⟨n5,rfl⟩:=J2 g0
   exact hnx _ _ ⟨15+n4,1+n5,rfl,by omega,by omega,by omega,by omega,B5,((k012.trans k3).trans k4).trans k5⟩
  ·ext
   obtain⟨n1,rfl⟩:=J2 b0
   obtain⟨n2,rfl⟩:=J2 c0
   exact hnx _ _ ⟨1+n1,1+n2,rfl,by omega,by omega,by omega,by omega,B3,k012.trans k3⟩
 rintro _ H3 ⟨m,kd,rfl,m0,m1,kd0,kd1,B3,k3⟩
 nofun
 exists c4t B3 m0 m1 fun a N0 H4 n4 l4 s4 z4 B4 k4=>?_
 exists b6x n4 (by omega) (by omega) (by rw[l4];exact s4) (by rw[l4];exact z4) fun na N H5 n5 v5 lN s5=>?_
 have B5:=B4.same s5
 have k05:D4 b H0 H5:=(k3.trans k4).trans (D4.of_same s5)
 have P5:=P0.kept B0 k05
 exact_mod_cast U4 ?_
 exact_mod_cast b8h ?_
 specialize V8 (a0F ?_)
 refine⟨(kd:Int),rfl,by omega,by omega,fun D hD=>?_⟩
 rw[z9]
 obtain⟨nb,nc⟩:=B5.nb hD
 refine a4y (fun i ys H6=>∃ps:List Addr,ys=ps.map V.ref/\ps.length=i/\(∀p∈ps,a5n H6 p/\a7L H6 PL p)/\H6 D=some (.lst ys)/\Bag H6 b c/\D4 b H5 H6) ⟨[],rfl,rfl,by simp,d6,B5.new hD,D4.new hD⟩ ?_ ?_ ?_
 ·rintro i ys H6 ⟨_,_,_,_,h,_⟩
  exact h
 ·rintro i ys H6 hi ⟨ps,rfl,lp,hp,hd,B6,k6⟩ R hR
  ext
  refine c1Q B6 (P5.kept B5 k6) fun p H7 d7 q7 _ B7 k7=>?_
  have hd7:=k7.1 _ _ hd nb
  have tp:J1 H7 (upd H7 D (.lst (ps.map V.ref++[.ref p]))):=J1.put hd7
  refine hR _ _ hd7 (F9 (by rw[b7];omega)) ⟨ps++[p],by simp,by simp[lp],fun q hq=>?_,d6,B7.put nb nc,(k6.trans k7).put hD⟩
  rcases u8.mp hq with z | z
  ·exact⟨((hp q z).1.ts (k7.ts B6)).ts tp,((hp q z).2.ts (k7.ts B6)).ts tp⟩
  ·rw[g8.mp z]
   exact⟨d7.ts tp,q7.ts tp⟩
 rintro ys H6 ⟨ps,rfl,lp,hp,hd6,B6,k6⟩
 have G6:b3z H6 D PL:=⟨ps,hd6,by intro z;subst z;simp at lp;omega,by omega,hp⟩
 have P6:=P5.kept B5 k6
 have n6:=n5.kept B5 v5.two k6
 obtain⟨as,q1,q2,q3⟩:=id n6.ex
 ext
 exact_mod_cast U4 ?_
 refine a8H ?_
 specialize V8 (R8 ?_)
 refine⟨na,rfl,⟨_,SqL.of q1⟩,fun R' hR'=>?_⟩
 obtain⟨rb,rc⟩:=B6.nb hR'
 refine T7 (xs:=as.map V.ref) (fun i ys H7=>∃rs:List Addr,ys=rs.map V.ref/\rs.length=i/\(∀(j:Nat) x l,rs[j]? = some x->N[j]? = some l->a5N H7 (.ref x) (l.length == 2))/\b9E H7 rs PL/\H7 R'=some (.lst ys)/\Bag H7 b c/\D4 b H6 H7) ⟨[],rfl,rfl,by simp,(fun p hp=>nomatch hp),d6,B6.new hR',D4.new hR'⟩ ?_ ?_ ?_ ?_
 ·rintro i ys H7 ⟨_,_,_,_,_,h,_⟩
  exact h
 ·rintro i ys H7 _ ⟨_,_,_,_,_,_,_,k7⟩
  exact SqL.of (k7.1 _ _ q1 (a1c B6 q1))
 ·rintro i x ys H7 hx ⟨rs,rfl,lr,hr,rp,hR7,B7,k7⟩ R hR
  rw[c9]at hx
  obtain⟨xa,hxa,rfl⟩:=z8.mp hx
  have hi:i<N.length:=by rw[<-q2];exact(gI hxa)
  have hx6:=q3 i xa _ hxa (I0 hi)
  have hx7:=k7.1 _ _ hx6 (a8E B6 hx6 (by rw[O5];have:=v5.two _ (D6 hi);omega))
  ext
  refine N8 hx7 ?_
  rw[O5]
  ext
  have ea:decide (V.int (N[i].length:Int)=V.int 2)=(N[i].length == 2):=by
   rw[O0,decide_eq_true_iff,beq_iff_eq]
   exact⟨fun z=>by have:=V.int.inj z;omega,fun z=>by rw[z];rfl⟩
  rw[ea]
  refine c3g B7 (P6.kept B6 k7) (G6.kept B6 k7) fun q H8 r8 p8 B8 k8=>?_
  have hR8:=k8.1 _ _ hR7 rb
  have t8:=k8.ts B7
  have tp:J1 H8 (upd H8 R' (.lst (rs.map V.ref++[.ref q]))):=J1.put hR8
  refine hR _ _ hR8 (F9 (by rw[b7];omega)) ⟨rs++[q],by simp,by simp[lr],fun j y l g1 g2=>?_,fun y hy=>?_,d6,B8.put rb rc,(k7.trans k8).put hR'⟩
  ·rcases W5 g1 with ⟨_,f1⟩ | ⟨hj,f1⟩
   ·exact((hr j y l f1 g2).ts t8).ts tp
   ·rw[hj,lr,I0 hi]at g2
    cases g2
    subst f1
    exact r8.ts tp
  ·rcases u8.mp hy with z | z
   ·exact((rp y z).ts t8).ts tp
   ·rw[g8.mp z];exact p8.ts tp
 ·rintro ys H7 ⟨rs,rfl,lr,hr,rp,hR7,B7,k7⟩
  rw[b7]at lr
  ext
  refine E3 (by simp) fun p H8 hp8 e8 s8=>?_
  exact k p R' na N rs PL H8 e8 ((⟨rs,hR7,by rw[lr,q2],hr⟩:Q5 H7 R' N).same s8) (s8 _ _ hR7) (fun p hp=>(rp p hp).ts (t9.ts s8)) P0.le ((n6.kept B6 v5.two k7).same s8) v5 lN (B7.same s8) (((k0.trans k05).trans (k6.trans k7)).trans (D4.of_same s8))
end
theorem big{n:Nat}(h:n<=1000000):n<=q9:=F6 h (by rw[a3e];decide)
theorem a7S{K:Fg}{E:XK}(ha:H a=some (.lst xs))(h1:1<=xs.length)(h2:xs.length<=400)(k:Q .non H):a0g K [.ref a,.int 0,.int 1] H Q E:=by
 refine⟨rfl,?_⟩
 unfold a4a
 nofun
 exists a1z (s := "list") (by simp only[a2d,ha]) (by decide) ?_
 exists v4 (by decide) ?_
 exists N8 ha ?_
 exists v4 (c8r (by omega)) ?_
 exists N8 ha ?_
 exists v4 (c8r (by omega)) ?_
 exact k
theorem a5l{K:Fg}{n:Nat}{E:XK}(ha:H a=some (.lst (C7 n (V.bl true))))(k:∀H',t9 H H'->Q .non H'):a0b K [.ref a] H Q E:=by
 refine⟨rfl,?_⟩
 unfold a6b
 specialize a0c (a4I ?_)
 refine⟨a,rfl,⟨_,SqL.of ha⟩,?_⟩
 refine b5u n (fun i σ H2=>∃x1 x2,σ=[some (.ref a),x1,x2]/\t9 H H2) ⟨_,_,rfl,t9.refl _⟩ ?_ ?_ ?_
 ·rintro _ H2 ⟨x1,x2,rfl,s2⟩
  exact⟨⟨_,SqL.of (s2 _ _ ha),by simp⟩,k H2 s2⟩
 ·rintro i _ H2 hi ⟨x1,x2,rfl,s2⟩
  exact⟨_,V.bl true,SqL.of (s2 _ _ ha),by rw[M0,if_pos hi]⟩
 ·rintro i _ H2 hi ⟨x1,x2,rfl,s2⟩ x H3 ⟨p,y,hp,rfl,rfl,hy⟩
  have hy:=hy _ (SqL.of (s2 _ _ ha))
  rw[M0,if_pos hi]at hy
  cases hy
  exists a7Z (SqT.of d6) ?_
  exists v4 rfl ?_
  exact⟨_,_,rfl,s2.trans (A0 hp)⟩
theorem a8s(n:Nat):C7 n (V.bl true)++[V.bl true]=C7 (n+1) (V.bl true):=by
 rw[a5R]
theorem c4x{n:Nat}(h:n=0\/n=1):inV (.int (n:Int)) [.int 0,.int 1]=true:=by
 rcases h with rfl | rfl <;> decide
theorem b1Q{K:Fg}{x:Addr}{E:XK}(hv:a5N H v (l.length == 2))(hx:H x=some (.lst (IL l)))(h2:l.length<=2)(hlt:∀t∈l,t<m)(k:∀H',t9 H H'->Q (.bl true) H') :
  a1H K [v,.ref x,.int (m:Int)] H Q E:=by
 obtain⟨p,xs,rfl,hp,_,kd,r,rfl,hk⟩:=hv
 refine⟨rfl,?_⟩
 unfold a7C
 nofun
 exists a1z (s := "list") (by simp only[a2d,hx]) (by decide) ?_
 exists v4 (by decide) ?_
 exact_mod_cast a0M (P:=fun σ H1=>∃w ws,σ=[some (.ref p),some (.ref x),some (.int (m:Int)),some (.ref w)]/\H1 w=some (.tup ws)/\ws.all K7=true/\inV (.int (l.length:Int)) ws=true/\t9 H H1) ?_ ?_
 rotate_left
 ·intro nx hnx
  ext
  exists C3 hp (U0 _ _) ?_
  by_cases e:kd = "ask"
  ·exists D9 (c8s (by rw[e])) ?_
   refine E3 (by simp) fun w H1 hw e1 s1=>?_
   rw[c8s e]at hk
   have:l.length=2:=by simpa using hk.symm
   exact hnx _ _ ⟨w,_,rfl,e1,rfl,by rw[this];decide,s1⟩
  ·exists v4 (c8r (fun z=>e (V.str.inj z))) ?_
   refine E3 (by simp) fun w H1 hw e1 s1=>?_
   rw[c8r e]at hk
   have:¬l.length=2:=by
    intro z
    rw[z]at hk
    exact absurd hk (by decide)
   exact hnx _ _ ⟨w,_,rfl,e1,rfl,c4x (by omega),s1⟩
 rintro _ H1 ⟨w,ws,rfl,hw,fw,iw,s1⟩
 ext
 exists N8 (s1 _ _ hx) ?_
 rw[O5]
 refine a5h hw rfl fw ?_
 exists ⟨_,rfl,D9 iw ?_⟩
 specialize V8 (R8 ?_)
 refine⟨x,rfl,⟨_,SqL.of (s1 _ _ hx)⟩,fun D hD=>?_⟩
 refine T7 (xs:=IL l) (fun i ys H2=>ys=C7 i (V.bl true)/\H2 D=some (.lst ys)/\t9 H1 H2) ⟨rfl,d6,A0 hD⟩ ?_ ?_ ?_ ?_
 ·rintro i ys H2 ⟨_,h,_⟩
  exact h
 ·rintro i ys H2 _ ⟨_,_,s2⟩
  exact SqL.of (s2 _ _ (s1 _ _ hx))
 ·rintro i y ys H2 hy ⟨rfl,hD2,s2⟩ R hR
  have hy:(l.map fun(n:Nat)=>V.int (n:Int))[i]? = some y:=hy
  rw[c9]at hy
  cases ht:l[i]? with
  | none=>rw[ht]at hy;cases hy
  | some t=>
   rw[ht]at hy
   cases hy
   have hi:=(gI ht)
   have:=hlt t (mI ht)
   ext
   refine b1s (by omega) (by omega) ?_
   refine hR _ _ hD2 (F9 (by rw[E9];omega)) ⟨a8s i,d6,fun b o e=>?_⟩
   rw[l7 (d9 e hD)];exact s2 _ _ e
 ·rintro ys H2 ⟨rfl,hD2,s2⟩
  ext
  have e:C7 (IL l).length (V.bl true)=(C7 l.length true).map V.bl:=by rw[O5];simp
  rw[e]at hD2
  refine c5Y hD2 ?_
  have:(C7 l.length true).all id=true:=by simp
  rw[this]
  exact k H2 (s1.trans s2)
theorem a9i{K:Fg}{E:XK}(hr:Q5 H ra N)(hn:E6 H na N)(h400:N.length<=400)(h2:∀l∈N,l.length<=2)(hlt:∀l∈N,∀t∈l,t<N.length)(k:∀H',t9 H H'->Q .non H') :
  a0D K [.ref ra,.ref na] H Q E:=by
 obtain⟨rs,r1,r2,r3⟩:=id hr.ex
 obtain⟨as,a1,a2,a3⟩:=id hn.ex
 refine⟨rfl,?_⟩
 unfold a5g
 nofun
 exists a1z (s := "list") (by simp only[a2d,a1]) (by decide) ?_
 exists v4 (by decide) ?_
 exists N8 a1 ?_
 exists N8 r1 ?_
 exists v4 (by rw[b7,b7,r2,a2];simp) ?_
 specialize b0W (c2Y ?_)
 refine⟨ra,na,rfl,⟨_,SqL.of r1⟩,⟨_,SqL.of a1⟩,fun D hD=>?_⟩
 refine b4U N.length (fun i ys H2=>ys=C7 i (V.bl true)/\H2 D=some (.lst ys)/\t9 H H2) ⟨rfl,d6,A0 hD⟩ ?_ ?_ ?_ ?_
 ·rintro i ys H2 ⟨_,h,_⟩
  exact h
 ·rintro ys H2 ⟨rfl,hD2,s2⟩
  exists ⟨⟨_,_,SqL.of (s2 _ _ r1),SqL.of (s2 _ _ a1),.inl (by rw[b7,r2];exact g9 _)⟩,?_⟩
  exact a5l hD2 fun H3 s3=>k H3 (s2.trans s3)
 ·rintro i ys H2 hi ⟨_,_,s2⟩
  have e1:rs[i]? = some (rs[i]'(by omega)):=by simp[r2,hi]
  have e2:as[i]? = some (as[i]'(by omega)):=by simp[a2,hi]
  exact⟨_,_,_,_,SqL.of (s2 _ _ r1),SqL.of (s2 _ _ a1),by rw[c9,e1];rfl,by rw[c9,e2];rfl⟩
 ·rintro i ys H2 hi ⟨rfl,hD2,s2⟩ x H3 ⟨p,y1,y2,hp,rfl,rfl,g1,g2⟩
  obtain⟨rx,e1⟩:∃rx,rs[i]? = some rx:=⟨_,d8 (by omega)⟩
  obtain⟨ax,e2⟩:∃ax,as[i]? = some ax:=⟨_,d8 (by omega)⟩
  have g1:=g1 _ (SqL.of (s2 _ _ r1))
  have g2:=g2 _ (SqL.of (s2 _ _ a1))
  rw[c9,e1]at g1
  rw[c9,e2]at g2
  cases g1
  cases g2
  refine⟨p,_,_,rfl,SqT.of d6,fun R S hR hS=>?_⟩
  have s3:t9 H2 (upd H2 p (.tup [V.ref rx,V.ref ax])):=A0 hp
  obtain⟨H3,hH3⟩:∃H3,H3=upd H2 p (.tup [V.ref rx,V.ref ax]):=⟨_,rfl⟩
  rw[<-hH3]at s3 ⊢
  ext
  exists D9 rfl ?_
  have s03:=s2.trans s3
  exists N8 (s03 _ _ r1) ?_
  have hl:=I0 hi
  rw[b7,r2]
  refine b1Q ((r3 i _ _ e1 hl).ts (t9.ts s03)) (s03 _ _ (a3 i _ _ e2 hl)) (h2 _ (D6 hi)) (hlt _ (D6 hi)) fun H4 s4=>?_
  refine hR _ _ (s4 _ _ (s3 _ _ hD2)) (F9 (by rw[E9];omega)) ⟨a8s i,d6,fun b o e=>?_⟩
  rw[l7 (d9 e hD)];exact s4 _ _ (s03 _ _ e)
def a4w(N:Nt)(k:Nat):Bool:=(N.getD k []).isEmpty
def b0E(N:Nt):List Nat:=(E7 N.length).filter (a4w N)
theorem b6y{k:Nat}(h:N[k]? = some []):k∈b0E N:=by
 refine a5a.mpr ⟨a1g.mpr (gI h),?_⟩
 unfold a4w
 simp[N4,h]
theorem b2x{K:Fg}{E:XK}(hn:E6 H na N)(h400:N.length<=400)(k:∀a H',H a=none->H' a=some (.lst (IL (b0E N)))->t9 H H'->Q (.ref a) H'):a2s K [.ref na] H Q E:=by
 obtain⟨as,a1,a2,a3⟩:=id hn.ex
 refine⟨rfl,?_⟩
 unfold a8u
 ext
 specialize b0W (a4I ?_)
 refine⟨na,rfl,⟨_,SqL.of a1⟩,fun D hD=>?_⟩
 refine b4U N.length (fun i ys H2=>ys=IL ((E7 i).filter (a4w N))/\H2 D=some (.lst ys)/\t9 H H2) ⟨rfl,d6,A0 hD⟩ ?_ ?_ ?_ ?_
 ·rintro i ys H2 ⟨_,h,_⟩
  exact h
 ·rintro ys H2 ⟨rfl,hD2,s2⟩
  exact⟨⟨_,SqL.of (s2 _ _ a1),by rw[b7,a2];exact g9 _⟩,k D H2 hD hD2 s2⟩
 ·rintro i ys H2 hi ⟨_,_,s2⟩
  exact⟨_,_,SqL.of (s2 _ _ a1),by rw[c9,d8 (show i<as.length by omega)];rfl⟩
 ·rintro i ys H2 hi ⟨rfl,hD2,s2⟩ x H3 ⟨p,y,hp,rfl,rfl,g1⟩
  obtain⟨ax,e1⟩:∃ax,as[i]? = some ax:=⟨_,d8 (by omega)⟩
  have g1:=g1 _ (SqL.of (s2 _ _ a1))
  rw[c9,e1]at g1
  cases g1
  refine⟨p,_,_,rfl,SqT.of d6,fun R S hR hS=>?_⟩
  have s3:t9 H2 (upd H2 p (.tup [V.int (i:Int),V.ref ax])):=A0 hp
  obtain⟨H3,hH3⟩:∃H3,H3=upd H2 p (.tup [V.int (i:Int),V.ref ax]):=⟨_,rfl⟩
  rw[<-hH3]at s3 ⊢
  have s03:=s2.trans s3
  have hl:=I0 hi
  ext
  exists N8 (s03 _ _ (a3 i _ _ e1 hl)) ?_
  have hst:a4w N i=decide (V.int ((IL N[i]).length:Int)=V.int 0):=by
   rw[b3i,O5]
   unfold a4w
   simp only[N4,hl,a3M]
   cases N[i] with
   | nil=>rfl
   | cons a r=>
    rw[List.isEmpty_cons,eq_comm,decide_eq_false_iff_not,C0]
    omega
  rw[<-hst]
  cases hb:a4w N i with
  | true=>
   exists D9 rfl ?_
   refine hR _ _ (s3 _ _ hD2) (F9 ?_) ⟨?_,d6,fun b o e=>?_⟩
   ·rw[O5]
    have:=a5o (a4w N) (E7 i)
    rw[a8i]at this
    omega
   ·rw[a2p,a7N]
    unfold IL
    rw[D1]
    congr 1
    simp[hb]
   ·rw[l7 (d9 e hD)];exact s03 _ _ e
  | false=>
   refine v4 rfl ?_
   refine hS _ ⟨?_,s3 _ _ hD2,s03⟩
   rw[a2p,a7N]
   simp[hb]
theorem c2B{α:Type}{l:List α}(nd:l.Nodup){x:α}(h1:l[i]? = some x)(h2:l[j]? = some x):i=j:=
 (c2i (gI h1) nd).mp (h1.trans h2.symm)
structure a4z(H0 H:Hp)(a:Addr)(as:List Addr)(M:Nt):Prop where
 same:t9 H0 H
 h:H a=some (.lst (as.map V.ref))
 len:as.length=M.length
 nd:as.Nodup
 na:a∉as
 at_:∀(i:Nat) x l,as[i]? = some x->M[i]? = some l->H x=some (.lst (IL l))
 new:H0 a=none/\∀x∈as,H0 x=none
theorem a4z.next(h:a4z H0 H a as M)(s:t9 H H'):a4z H0 H' a as M:=
 ⟨h.same.trans s,s _ _ h.h,h.len,h.nd,h.na,fun i x l e1 e2=>s _ _ (h.at_ i x l e1 e2),h.new⟩
theorem a4z.add(h:a4z H0 H a as M){t p:Nat}{x:Addr}(e1:as[t]? = some x)(e2:M[t]? = some l) :
  a4z H0 (upd H x (.lst (IL (l++[p])))) a as (M.set t (l++[p])):=by
 have hx:=mI e1
 have hxa:x≠a:=fun z=>h.na (z ▸ hx)
 refine⟨fun b o e=>by rw[l7 (d9 e (h.new.2 x hx))];exact h.same b o e,by rw[l7 hxa.symm];exact h.h,by rw[a0J];exact h.len,h.nd,h.na,fun i y l' f1 f2=>?_,h.new⟩
 by_cases e:i=t
 ·subst e
  rw[e1]at f1
  cases f1
  rw[J9 (gI e2)]at f2
  cases f2
  exact d6
 ·rw[L9 (Ne.symm e)]at f2
  have:y≠x:=by
   rintro rfl
   exact e (c2B h.nd f1 e1)
  rw[l7 this]
  exact h.at_ i y l' f1 f2
theorem a4z.net(h:a4z H0 H a as M):E6 H a M:=⟨as,h.h,h.len,h.at_⟩
theorem a4z.nil(n:H0 a=none)(s:t9 H0 H)(e:H a=some (.lst [])):a4z H0 H a [] []:=⟨s,e,rfl,by simp,by simp,by simp,n,by simp⟩
theorem a4z.snoc(h:a4z H0 H a as M)(hp:H p=none)(ep:H' p=some (.lst (IL [])))(s:t9 H H') :
  a4z H0 (upd H' a (.lst ((as++[p]).map V.ref))) a (as++[p]) (M++[[]]):=by
 have npa:p≠a:=(d9 h.h hp).symm
 have npas:p∉as:=fun z=>by
  obtain⟨i,hi⟩:=G5.mp z
  have hl:i<M.length:=by rw[<-h.len];exact(gI hi)
  have:=h.at_ i p _ hi (I0 hl)
  rw[hp]at this
  cases this
 have fr0:H0 p=none:=h.same.free hp
 refine⟨fun b o e=>by rw[l7 (d9 e h.new.1)];exact s _ _ (h.same b o e),d6,by simp[h.len],?_,?_,fun i x l f1 f2=>?_,h.new.1,fun x hx=>?_⟩
 ·rw[V0]
  exact⟨h.nd,by simp,fun x hx y hy=>by rw[g8.mp hy];intro z;exact npas (z ▸ hx)⟩
 ·intro z
  rcases u8.mp z with q | q
  ·exact h.na q
  ·exact npa (g8.mp q).symm
 ·rcases W5 f1 with ⟨hi,g1⟩ | ⟨hi,g1⟩
  ·rcases W5 f2 with ⟨hj,g2⟩ | ⟨hj,g2⟩
   ·have:x≠a:=fun z=>h.na (z ▸ mI g1)
    rw[l7 this]
    exact s _ _ (h.at_ i x l g1 g2)
   ·have:=h.len;omega
  ·rcases W5 f2 with ⟨hj,g2⟩ | ⟨hj,g2⟩
   ·have:=h.len;omega
   ·subst g1 g2
    rw[l7 npa]
    exact ep
 ·rcases u8.mp hx with q | q
  ·exact h.new.2 x q
  ·rw[g8.mp q];exact fr0
theorem c0p{t u:Nat}{l':List Nat}(h:(M.set t l)[u]? = some l'):(u=t/\l'=l)\/(u≠t/\M[u]? = some l'):=by
 by_cases e:u=t
 ·subst e
  have hl:=(gI h)
  rw[a0J]at hl
  rw[J9 hl]at h
  exact .inl ⟨rfl,(Option.some.inj h).symm⟩
 ·rw[L9 (Ne.symm e)]at h
  exact .inr ⟨e,h⟩
theorem b5S{K:Fg}{E:XK}(hn:E6 H na N)(h400:N.length<=400)(h2:∀l∈N,l.length<=2)(hlt:∀l∈N,∀t∈l,t<N.length)
  (k:∀a M H',E6 H' a M->M.length=N.length->(∀(p:Nat) (l:List Nat),N[p]? = some l->∀t∈l,∃l',M[t]? = some l'/\p∈l')->(∀l∈M,l.length<=2 * N.length/\∀p∈l,p<N.length)->t9 H H'->Q (.ref a) H'):a4E K [.ref na] H Q E:=by
 obtain⟨ns,a1,a2,a3⟩:=id hn.ex
 refine⟨rfl,?_⟩
 unfold b2r
 exact_mod_cast U4 ?_
 specialize V8 (R8 ?_)
 refine⟨na,rfl,⟨_,SqL.of a1⟩,fun A hA=>?_⟩
 refine T7 (xs:=ns.map V.ref) (fun i ys H2=>∃as,ys=as.map V.ref/\a4z H H2 A as (C7 i [])) ?_ ?_ ?_ ?_ ?_
 ·exact⟨[],rfl,.nil hA (A0 hA) d6⟩
 ·rintro i ys H2 ⟨as,rfl,I⟩
  exact I.h
 ·rintro i ys H2 _ ⟨as,rfl,I⟩
  exact SqL.of (I.same _ _ a1)
 ·rintro i x ys H2 hx ⟨as,rfl,I⟩ R hR
  have hi:i<N.length:=by
   have:=(gI hx)
   rw[b7,a2]at this
   exact this
  ext
  refine E3 (by simp) fun p H3 hp e3 s3=>?_
  have:=I.len
  rw[E9]at this
  refine hR _ _ (s3 _ _ I.h) (F9 (by rw[b7];omega)) ⟨as++[p],by simp,?_⟩
  have q:=I.snoc hp e3 s3
  rw[show C7 i ([]:List Nat)++[[]]=C7 (i+1) [] from by rw[a5R]]at q
  rw[show as.map V.ref++[V.ref p]=(as++[p]).map V.ref by simp]
  exact q
 rintro ys H2 ⟨as,rfl,I2⟩
 rw[b7,a2]at I2
 ext
 exact_mod_cast U4 ?_
 specialize a0c (a4I ?_)
 refine⟨na,rfl,⟨_,SqL.of (I2.same _ _ a1)⟩,?_⟩
 refine b5u N.length (fun i σ H3=>∃x2 x3 x4 M,σ=[some (.ref na),some (.ref A),x2,x3,x4]/\a4z H H3 A as M/\M.length=N.length/\(∀(p:Nat) (l:List Nat),p<i->N[p]? = some l->∀t∈l,∃l',M[t]? = some l'/\p∈l')/\(∀l∈M,l.length<=2 * i/\∀p∈l,p<N.length)) ?_ ?_ ?_ ?_
 ·exact⟨_,_,_,_,rfl,I2,by simp,by omega,fun l hl=>by rw[List.eq_of_mem_replicate hl];simp⟩
 ·rintro _ H3 ⟨x2,x3,x4,M,rfl,I3,lM,g1,g2⟩
  exists ⟨⟨_,SqL.of (I3.same _ _ a1),by rw[b7,a2];exact g9 _⟩,?_⟩
  exact k A M H3 I3.net lM (fun p l hl=>g1 p l (gI hl) hl) g2 I3.same
 ·rintro i _ H3 hi ⟨x2,x3,x4,M,rfl,I3,lM,g1,g2⟩
  exact⟨_,_,SqL.of (I3.same _ _ a1),by rw[c9,d8 (show i<ns.length by omega)];rfl⟩
 ·rintro i _ H3 hi ⟨x2,x3,x4,M,rfl,I3,lM,g1,g2⟩ x H4 ⟨p,y,hp,rfl,rfl,gy⟩
  obtain⟨nx,e1⟩:∃nx,ns[i]? = some nx:=⟨_,d8 (by omega)⟩
  have gy:=gy _ (SqL.of (I3.same _ _ a1))
  rw[c9,e1]at gy
  cases gy
  refine a7Z (SqT.of d6) ?_
  have s4:t9 H3 (upd H3 p (.tup [V.int (i:Int),V.ref nx])):=A0 hp
  obtain⟨H4,hH4⟩:∃H4,H4=upd H3 p (.tup [V.int (i:Int),V.ref nx]):=⟨_,rfl⟩
  rw[<-hH4]at s4 ⊢
  have I4:=I3.next s4
  have hl:=I0 hi
  obtain⟨l,hle⟩:∃l,l=N[i]:=⟨_,rfl⟩
  rw[<-hle]at hl
  have hx:H nx=some (.lst (IL l)):=a3 i nx l e1 hl
  have hll:=h2 l (mI hl)
  specialize a0c (R8 ?_)
  refine⟨nx,rfl,⟨_,SqL.of (I4.same _ _ hx)⟩,a1m (xs:=IL l) (fun j σ H5=>∃x4 M',σ=[some (.ref na),some (.ref A),some (.int (i:Int)),some (.ref nx),x4]/\a4z H H5 A as M'/\M'.length=N.length/\(∀(p:Nat) (l:List Nat),p<i->N[p]? = some l->∀t∈l,∃l',M'[t]? = some l'/\p∈l')/\(∀t∈l.take j,∃l',M'[t]? = some l'/\i∈l')/\(∀l∈M',l.length<=2 * i+j/\∀p∈l,p<N.length)) ?_ ?_ ?_ ?_⟩
  ·exact⟨_,M,rfl,I4,lM,g1,by simp,g2⟩
  ·rintro j σ H5 _ ⟨_,_,_,I5,_⟩
   exact SqL.of (I5.same _ _ hx)
  ·rintro j y _ H5 hy ⟨x4,M',rfl,I5,lM',c1,c2,c3⟩
   have hy:(l.map fun(n:Nat)=>V.int (n:Int))[j]? = some y:=hy
   rw[c9]at hy
   cases ht:l[j]? with
   | none=>rw[ht]at hy;cases hy
   | some t=>
    rw[ht]at hy
    cases hy
    have tm:=mI ht
    have hj:=(gI ht)
    have htn:t<N.length:=hlt l (mI hl) t tm
    ext
    obtain⟨z,hz⟩:∃z,as[t]? = some z:=⟨_,d8 (by have:=I5.len;omega)⟩
    have hMt:=I0 (show t<M'.length by omega)
    have hMz:=I5.at_ t z _ hz hMt
    specialize b0X ?_
    refine L5 I5.h (Z5 (by rw[c9,hz];rfl)) ?_
    exists ⟨a0A hMz,?_⟩
    have hb:=c3 _ (D6 (show t<M'.length by omega))
    refine a3a hMz (F9 (by rw[O5];omega)) ?_
    refine⟨_,M'.set t (M'[t]++[i]),rfl,?_,by rw[a0J];exact lM',?_,?_,?_⟩
    ·have:=I5.add (p:=i) hz hMt
     rw[show IL M'[t]++[V.int (i:Int)]=IL (M'[t]++[i]) by simp[IL]]
     exact this
    ·intro p' l' hp' hl' u hu
     obtain⟨l'',q1,q2⟩:=c1 p' l' hp' hl' u hu
     by_cases e:u=t
     ·subst e
      rw[hMt]at q1
      cases q1
      exact⟨_,J9 (by omega),C9 _ q2⟩
     ·exact⟨l'',by rw[L9 (Ne.symm e)];exact q1,q2⟩
    ·intro u hu
     rw[U9,ht]at hu
     by_cases e:u=t
     ·subst e
      exact⟨_,J9 (by omega),by simp⟩
     ·rcases u8.mp hu with q | q
      ·obtain⟨l'',q1,q2⟩:=c2 u q
       exact⟨l'',by rw[L9 (Ne.symm e)];exact q1,q2⟩
      ·exact absurd (by simpa using q) e
    ·intro l' hl'
     obtain⟨u,hu⟩:=G5.mp hl'
     rcases c0p hu with ⟨_,rfl⟩ | ⟨_,q⟩
     ·refine⟨by rw[p5,C1];omega,fun p' hp'=>?_⟩
      rcases u8.mp hp' with q | q
      ·exact hb.2 p' q
      ·rw[g8.mp q];exact hi
     ·obtain⟨r1,r2⟩:=c3 l' (mI q)
      exact⟨by omega,r2⟩
  ·rintro _ H5 ⟨x4,M',rfl,I5,lM',c1,c2,c3⟩
   rw[O5,a0k]at c2
   refine⟨_,_,x4,M',rfl,I5,lM',fun p' l' hp' hl' t ht=>?_,fun l' hl'=>?_⟩
   ·by_cases e:p'=i
    ·subst e
     rw[hl]at hl'
     cases hl'
     exact c2 t ht
    ·exact c1 p' l' (by omega) hl' t ht
   ·obtain⟨r1,r2⟩:=c3 l' hl'
    rw[O5]at r1
    exact⟨by omega,r2⟩
theorem a8O{K:Fg}{ba la:Addr}{bs:List Nat}{B:Nat}{E:XK}(hb:H ba=some (.lst (IL bs)))(hm:E6 H la M)(h400:M.length<=400)(hB:B<=800)(hl:∀l∈M,l.length<=B/\∀t∈l,t<M.length)(hbs:∀x∈bs,x<M.length)(lb:bs.length<=400)
  (k:∀d S H',H' d=some (.dK (KS S))->S.Nodup->(∀x∈S,x<M.length)->(∀x∈bs,x∈S)->a5P M S->t9 H H'->Q (.ref d) H'):a2g K [.ref ba,.ref la] H Q E:=by
 refine⟨rfl,?_⟩
 unfold a9Y
 nofun
 exists a8L fun d H1 hd e1 s1=>?_
 nofun
 exists a4J (s1 _ _ hb) fun w H2 hw e2 s2=>?_
 have s02:=s1.trans s2
 have hw0:H w=none:=s1.free hw
 have ndw:d≠w:=d9 e1 hw
 exact_mod_cast U4 ?_
 exact_mod_cast b0Q ?_
 refine⟨fun m σ H3=>∃x4 ws S,σ=[some (.ref ba),some (.ref la),some (.ref d),some (.ref w),x4]/\H3 w=some (.lst (IL ws))/\H3 d=some (.dK (KS S))/\t9 H H3/\S.Nodup/\(∀x∈S,x<M.length)/\(∀x∈ws,x<M.length) /\
  (∀x∈bs,x∈S\/x∈ws)/\(∀k∈S,∀l,M[k]? = some l->∀t∈l,t∈S\/t∈ws)/\ws.length<=400+S.length * B/\m=(M.length - S.length) * (B+1)+ws.length,?_,?_⟩
 ·exact⟨_,_,bs,[],rfl,e2,s2 _ _ e1,s02,by simp,by simp,hbs,fun x hx=>.inr hx,by simp,by omega,rfl⟩
 rintro m _ H3 ⟨x4,ws,S,rfl,hw3,hd3,s3,nd,hS,hws,c1,c2,c3,rfl⟩
 ext
 exists N8 hw3 ?_
 have hSl:=a6r _ _ nd hS
 rcases b3Z ws with rfl | ⟨r,p,rfl⟩
 ·exists v4 (c8r (by rw[O5];simp)) ?_
  refine k d S H3 hd3 nd hS (fun x hx=>(c1 x hx).elim id fun z=>by simp at z) (fun a ha l hl' t ht=>(c2 a ha l hl' t ht).elim id fun z=>by simp at z) s3
 refine D9 (c8s (by rw[O5,p5,C1];omega)) ?_
 have hp:p<M.length:=hws p (by simp)
 have eIL:IL (r++[p])=IL r++[V.int (p:Int)]:=by simp[IL]
 rw[eIL]at hw3
 refine⟨fun σ H4=>∃m' x4 ws S',σ=[some (.ref ba),some (.ref la),some (.ref d),some (.ref w),x4]/\H4 w=some (.lst (IL ws))/\H4 d=some (.dK (KS S'))/\t9 H H4/\S'.Nodup/\(∀x∈S',x<M.length)/\(∀x∈ws,x<M.length) /\
  (∀x∈bs,x∈S'\/x∈ws)/\(∀k∈S',∀l,M[k]? = some l->∀t∈l,t∈S'\/t∈ws)/\ws.length<=400+S'.length * B/\m'=(M.length - S'.length) * (B+1)+ws.length/\m'<(M.length - S.length) * (B+1)+(r++[p]).length,?_,?_⟩
 ·rintro σ' H4 ⟨m',x4,ws,S',e,r1,r2,r3,r4,r5,r6,r7,r8,r9,r10,r11⟩
  exact⟨m',r11,x4,ws,S',e,r1,r2,r3,r4,r5,r6,r7,r8,r9,r10⟩
 nofun
 specialize c2v ?_
 exists ⟨a0A hw3,c2y hw3 ?_⟩
 have sW:t9 H (upd H3 w (.lst (IL r))):=fun b o e=>by rw[l7 (d9 e hw0)];exact s3 b o e
 have hdW:(upd H3 w (.lst (IL r))) d=some (.dK (KS S)):=by rw[l7 ndw];exact hd3
 have hwW:(upd H3 w (.lst (IL r))) w=some (.lst (IL r)):=d6
 obtain⟨H4,hH4⟩:∃H4,H4=upd H3 w (.lst (IL r)):=⟨_,rfl⟩
 rw[<-hH4]at sW hdW hwW ⊢
 rw[p5,C1]at c3 ⊢
 specialize a4j ?_
 obtain⟨o,g1,g2⟩:=a4L hdW p
 refine⟨d,o,rfl,g1,?_⟩
 rw[g2]
 ext
 by_cases hps:p∈S
 ·exists v4 (by rw[c8s hps];rfl) ?_
  refine⟨_,_,r,S,rfl,hwW,hdW,sW,nd,hS,fun x hx=>hws x (C9 _ hx),fun x hx=>?_,fun a ha l hl' t ht=>?_,by omega,rfl,by omega⟩
  ·rcases c1 x hx with z | z
   ·exact .inl z
   ·rcases u8.mp z with q | q
    ·exact .inr q
    ·exact .inl (g8.mp q ▸ hps)
  ·rcases c2 a ha l hl' t ht with z | z
   ·exact .inl z
   ·rcases u8.mp z with q | q
    ·exact .inr q
    ·exact .inl (g8.mp q ▸ hps)
 refine D9 (by rw[c8r hps];rfl) ?_
 obtain⟨xs,y,f1,f2,f3,_⟩:=(hm.same sW).at (I0 hp)
 obtain⟨l,hle⟩:∃l,l=M[p]:=⟨_,rfl⟩
 have hlp:M[p]? = some l:=by rw[hle];exact I0 hp
 rw[<-hle]at f3
 obtain⟨b1,b2⟩:=hl l (mI hlp)
 have hput:a4m S p=S++[p]:=by unfold a4m;rw[if_neg hps]
 have hS1:S.length<M.length:=by
  have:=a6r _ _ (a8a (k:=p) nd) fun x hx=>(Y3.mp hx).elim (hS x) fun z=>z ▸ hp
  rw[hput,p5,C1]at this
  omega
 exact_mod_cast U4 ?_
 specialize a2i ?_
 refine⟨d,_,rfl,b1B hdW (by omega) p,?_⟩
 rw[hput]
 obtain⟨H5,hH5⟩:∃H5,H5=upd H4 d (.dK (KS (S++[p]))):=⟨_,rfl⟩
 have hd5:H5 d=some (.dK (KS (S++[p]))):=hH5 ▸ d6
 have oth:∀b o,H4 b=some o->b≠d->H5 b=some o:=fun b o e n=>by rw[hH5,l7 n];exact e
 have s5:t9 H H5:=fun b o e=>oth b o (sW b o e) (d9 e hd)
 rw[<-hH5]
 have hw5:=oth w _ hwW (Ne.symm ndw)
 have fx5:=oth _ _ f1 (L6 f1 hdW (by intro z;cases z))
 have fy5:=oth _ _ f3 (L6 f3 hdW (by intro z;cases z))
 ext
 specialize b0X ?_
 exists ⟨a0A hw5,?_⟩
 refine L5 fx5 f2 ?_
 have hSB:S.length * B<=400 * 800:=Nat.mul_le_mul (by omega) hB
 ext
 refine b2J hw5 fy5 (big (by rw[O5,O5];omega)) ?_
 have e6:IL r++IL l=IL (r++l):=by simp[IL]
 rw[e6]
 ext
 have key:(M.length - (S.length+1)) * (B+1)+(B+1)=(M.length - S.length) * (B+1):=by
  rw[<-Nat.succ_mul]
  congr 1
  omega
 refine⟨_,_,r++l,S++[p],rfl,d6,by rw[l7 ndw];exact hd5,fun b o e=>by rw[l7 (d9 e hw0)];exact s5 b o e,hput ▸ a8a nd,fun x hx=>?_,fun x hx=>?_,fun x hx=>?_,fun a ha l' hl' t ht=>?_,?_,rfl,?_⟩
 ·rcases u8.mp hx with q | q
  ·exact hS x q
  ·rw[g8.mp q];exact hp
 ·rcases u8.mp hx with q | q
  ·exact hws x (C9 _ q)
  ·exact b2 x q
 ·rcases c1 x hx with z | z
  ·exact .inl (C9 _ z)
  ·rcases u8.mp z with q | q
   ·exact .inr (C9 _ q)
   ·exact .inl (z7 _ q)
 ·rcases u8.mp ha with q | q
  ·rcases c2 a q l' hl' t ht with z | z
   ·exact .inl (C9 _ z)
   ·rcases u8.mp z with u | u
    ·exact .inr (C9 _ u)
    ·exact .inl (z7 _ u)
  ·rw[g8.mp q,hlp]at hl'
   cases hl'
   exact .inr (z7 _ ht)
 ·rw[p5,p5,C1,Nat.succ_mul]
  omega
 ·rw[p5,p5,C1]
  omega
theorem a9J{K:Fg}{E:XK}(hn:E6 H na N)(hv:a0t N)(k:∀H',t9 H H'->Q .non H'):a1a K [.ref na] H Q E:=by
 refine⟨rfl,?_⟩
 unfold a6a
 nofun
 exists E3 (by simp) fun p1 H1 hp1 e1 s1=>?_
 exists a8O (bs:=[0]) (B:=2) e1 (hn.same s1) hv.le (by decide) (fun l hl=>⟨hv.two l hl,hv.lt l hl⟩) (by simpa using hv.pos) (by simp) fun d1 S1 H2 hd1 nd1 hS1 hb1 cl1 s2=>?_
 have in1:∀x,Rc N x->x∈S1:=by
  intro x h
  induction h with
  | zero=>exact hb1 0 (by simp)
  | @step a t l _ hl ht ih=>exact cl1 a ih l hl t ht
 nofun
 exists b2x ((hn.same s1).same s2) hv.le fun sa H3 _ e3 s3=>?_
 exists b5S (((hn.same s1).same s2).same s3) hv.le hv.two hv.lt fun ta M H4 m4 lM hM1 hM2 s4=>?_
 have lst:(b0E N).length<=N.length:=by
  have:=a5o (a4w N) (E7 N.length)
  rwa [a8i]at this
 have hle:=hv.le
 refine a8O (bs:=b0E N) (B:=2 * N.length) (s4 _ _ e3) m4 (by omega) (by omega) (fun l hl=>⟨(hM2 l hl).1,by rw[lM];exact(hM2 l hl).2⟩) (fun x hx=>by
  rw[lM]
  exact a1g.mp (a5a.mp hx).1) (by omega) fun d2 S2 H5 hd2 nd2 hS2 hb2 cl2 s5=>?_
 have in2:∀x,Gd N x->x∈S2:=by
  intro x h
  induction h with
  | @stop a h=>exact hb2 a (b6y h)
  | @step a t l h ht _ ih=>
   obtain⟨l',q1,q2⟩:=hM1 a l h t ht
   exact cl2 t ih l' q1 a q2
 have s05:=(((s1.trans s2).trans s3).trans s4).trans s5
 have hd1':H5 d1=_:=s5 _ _ (s4 _ _ (s3 _ _ hd1))
 obtain⟨ys,hy,ly⟩:=(hn.same s05).len
 ext
 specialize a0c (a0F ?_)
 refine N8 hy ?_
 refine⟨N.length,by rw[ly],by omega,by omega,?_⟩
 rw[z9]
 refine Z1 (fun i σ H6=>∃x3,σ=[some (.ref na),some (.ref d1),some (.ref d2),x3]/\H6=H5) ⟨_,rfl,rfl⟩ ?_ ?_
 ·rintro i _ H6 hi ⟨x3,rfl,rfl⟩
  ext
  rw[a0p]
  specialize a4j ?_
  obtain⟨o,g1,g2⟩:=a4L hd1' i
  refine⟨d1,o,rfl,g1,?_⟩
  rw[g2,c8s (in1 i (hv.rc i hi))]
  ext
  exists v4 rfl ?_
  specialize a4j ?_
  obtain⟨o',g1',g2'⟩:=a4L hd2 i
  refine⟨d2,o',rfl,g1',?_⟩
  rw[g2',c8s (in2 i (hv.gd i hi))]
  ext
  exists v4 rfl ?_
  exact⟨_,rfl,rfl⟩
 ·rintro _ H6 ⟨x3,rfl,rfl⟩
  exact k _ s05
abbrev Stp:=Int×Int
variable{s:Stp}
def FST:Stp:=(-1,0)
def a3j(N:Nt)(p:Nat):List Stp:=(E7 (N.getD p []).length).map fun(a:Nat)=>((p:Int),(a:Int))
def a5u(N:Nt)(i:Nat):List Stp:=FST::(E7 i).flatMap (a3j N)
def a2e(N:Nt):List Stp:=a5u N N.length
def a1k(N:Nt)(s:Stp):Nat:=if s=FST then 0 else (N.getD s.1.toNat []).getD s.2.toNat 0
theorem a7F(N:Nt)(i:Nat):a5u N (i+1)=a5u N i++a3j N i:=by
 unfold a5u
 rw[a2p,List.flatMap_append]
 simp
def a5O(N:Nt)(s:Stp):Prop:=s=FST\/∃(p q:Nat) (l:List Nat) (t:Nat),s=((p:Int),(q:Int))/\N[p]? = some l/\l[q]? = some t
theorem b6E(h:s∈a2e N):a5O N s:=by
 rcases d5.mp h with z | z
 ·exact .inl z
 ·obtain⟨p,hp,q⟩:=List.mem_flatMap.mp z
  have hp:=a1g.mp hp
  obtain⟨a,ha,rfl⟩:=A2.mp q
  have ha:=a1g.mp ha
  have e:N.getD p []=N[p]:=by simp[N4,hp]
  rw[e]at ha
  exact .inr ⟨p,a,N[p],N[p][a],rfl,I0 hp,by simp⟩
theorem b1p(hv:a0t N)(h:a5O N s):a1k N s<N.length:=by
 unfold a1k
 rcases h with rfl | ⟨p,q,l,t,rfl,h1,h2⟩
 ·rw[if_pos rfl];exact hv.pos
 ·split
  ·exact hv.pos
  ·have:(N.getD ((p:Int),(q:Int)).1.toNat []).getD ((p:Int),(q:Int)).2.toNat 0=t:=by
    show(N.getD (p:Int).toNat []).getD (q:Int).toNat 0=t
    rw[z9,z9]
    simp[N4,h1,h2]
   rw[this]
   exact hv.lt l (mI h1) t (mI h2)
def a1B(K:Fg)(H:Hp)(a:Addr)(s:Stp):Prop:=H a=some (.tup [.int s.1,.int s.2])\/(s=FST/\∀H,SqT K H a [.int (-1),.int 0])
theorem a1B.ts{K:Fg}(h:a1B K H a s)(t:J1 H H'):a1B K H' a s:=by
 rcases h with h | h
 ·exact .inl (t _ _ h)
 ·exact .inr h
theorem a1B.sq{K:Fg}(h:a1B K H a s):SqT K H a [.int s.1,.int s.2]:=by
 rcases h with h | ⟨e,h⟩
 ·exact SqT.of h
 ·subst e;exact h H
structure J3(K:Fg)(H:Hp)(l:Addr)(S:List Stp):Prop where
 ex:∃vs:List Addr,H l=some (.lst (vs.map V.ref))/\vs.length=S.length/\∀(i:Nat) x s,vs[i]? = some x->S[i]? = some s->a1B K H x s
theorem J3.same{K:Fg}{l:Addr}{S:List Stp}(h:J3 K H l S)(s:t9 H H'):J3 K H' l S:=by
 obtain⟨vs,h1,h2,h3⟩:=h.ex
 exact⟨vs,s _ _ h1,h2,fun i x t e1 e2=>(h3 i x t e1 e2).ts (t9.ts s)⟩
theorem J3.kept{K:Fg}{c l:Addr}{S:List Stp}(h:J3 K H l S)(hB:Bag H b c)(k:D4 b H H'):J3 K H' l S:=by
 obtain⟨vs,h1,h2,h3⟩:=h.ex
 exact⟨vs,k.1 _ _ h1 (a1c hB h1),h2,fun i x t e1 e2=>(h3 i x t e1 e2).ts (D4.ts k hB)⟩
theorem J3.put{K:Fg}{l y:Addr}{S:List Stp}(h:J3 K H l S)(hy:H y=some (.lst xs))(n:l≠y):J3 K (upd H y (.lst ys)) l S:=by
 obtain⟨vs,h1,h2,h3⟩:=h.ex
 exact⟨vs,by rw[l7 n];exact h1,h2,fun i x t e1 e2=>(h3 i x t e1 e2).ts (J1.put hy)⟩
theorem b2y{K:Fg}{E:XK}(ck:a3D K c)(hn:E6 H na N)(h400:N.length<=400)(h2:∀l∈N,l.length<=2)
  (k:∀a H',H a=none->J3 K H' a (a2e N)->t9 H H'->Q (.ref a) H'):a2t K c [.ref na] H Q E:=by
 obtain⟨ns,a1,a2,a3⟩:=id hn.ex
 refine⟨rfl,?_⟩
 unfold a8v
 nofun
 exists E3 (by simp) fun D H1 hD e1 s1=>?_
 exact_mod_cast U4 ?_
 specialize a0c (a4I ?_)
 refine⟨na,rfl,⟨_,SqL.of (s1 _ _ a1)⟩,?_⟩
 refine b5u N.length (fun i σ H2=>∃x2 x3 vs,σ=[some (.ref na),some (.ref D),x2,x3]/\H2 D=some (.lst ((vs:List Addr).map V.ref))/\vs.length=(a5u N i).length/\vs.length<=1+2 * i/\(∀(j:Nat) x s,vs[j]? = some x->(a5u N i)[j]? = some s->a1B K H2 x s)/\t9 H H2) ?_ ?_ ?_ ?_
 ·refine⟨_,_,[c.Q6],rfl,e1,rfl,by simp,fun j x s f1 f2=>?_,s1⟩
  cases j with
  | zero=>
   cases f1
   cases f2
   exact .inr ⟨rfl,ck.a1K⟩
  | succ j=>simp at f1
 ·rintro _ H2 ⟨x2,x3,vs,rfl,hD2,lv,_,at2,s2⟩
  exists ⟨⟨_,SqL.of (s2 _ _ a1),by rw[b7,a2];exact g9 _⟩,?_⟩
  exact k D H2 hD ⟨vs,hD2,lv,at2⟩ s2
 ·rintro i _ H2 hi ⟨x2,x3,vs,rfl,hD2,lv,_,at2,s2⟩
  exact⟨_,_,SqL.of (s2 _ _ a1),by rw[c9,d8 (show i<ns.length by omega)];rfl⟩
 ·rintro i _ H2 hi ⟨x2,x3,vs,rfl,hD2,lv,lv2,at2,s2⟩ x H3 ⟨p,y,hp,rfl,rfl,gy⟩
  obtain⟨nx,f1⟩:∃nx,ns[i]? = some nx:=⟨_,d8 (by omega)⟩
  have gy:=gy _ (SqL.of (s2 _ _ a1))
  rw[c9,f1]at gy
  cases gy
  refine a7Z (SqT.of d6) ?_
  have s3:t9 H2 (upd H2 p (.tup [V.int (i:Int),V.ref nx])):=A0 hp
  obtain⟨H3,hH3⟩:∃H3,H3=upd H2 p (.tup [V.int (i:Int),V.ref nx]):=⟨_,rfl⟩
  rw[<-hH3]at s3 ⊢
  have s03:=s2.trans s3
  have hl:=I0 hi
  obtain⟨l,hle⟩:∃l,l=N[i]:=⟨_,rfl⟩
  rw[<-hle]at hl
  have hll:=h2 l (mI hl)
  have hx:=s03 _ _ (a3 i nx l f1 hl)
  ext
  specialize b0X ?_
  exists ⟨a0A (s3 _ _ hD2),?_⟩
  specialize V8 (a0F ?_)
  refine N8 hx ?_
  rw[O5]
  refine⟨l.length,rfl,by omega,by omega,fun A hA=>?_⟩
  rw[z9]
  refine a4y (fun j ys H4=>∃ws:List Addr,ys=ws.map V.ref/\ws.length=j/\(∀(q:Nat) x,ws[q]? = some x->H4 x=some (.tup [.int (i:Int),.int (q:Int)]))/\H4 A=some (.lst ys)/\t9 H3 H4) ?_ ?_ ?_ ?_
  ·exact⟨[],rfl,rfl,by simp,d6,A0 hA⟩
  ·rintro j ys H4 ⟨_,_,_,_,h,_⟩
   exact h
  ·rintro j ys H4 hj ⟨ws,rfl,lw,at4,hA4,s4⟩ R hR
   ext
   refine E3 (by simp) fun z H5 hz e5 s5=>?_
   rw[a0p]at e5
   have nzA:z≠A:=(d9 hA4 hz).symm
   refine hR _ _ (s5 _ _ hA4) (F9 (by rw[b7];omega)) ⟨ws++[z],by simp,by simp[lw],fun q x hq=>?_,d6,fun b o e=>?_⟩
   ·rcases W5 hq with ⟨_,g⟩ | ⟨hq',g⟩
    ·have:=s5 _ _ (at4 q x g)
     rw[l7 (L6 this (s5 _ _ hA4) (by intro z;cases z))]
     exact this
    ·subst g
     rw[l7 nzA,e5,hq',lw]
   ·rw[l7 (d9 e hA)];exact s5 _ _ (s4 _ _ e)
  ·rintro ys H4 ⟨ws,rfl,lw,at4,hA4,s4⟩
   ext
   have hD4:H4 D=_:=s4 _ _ (s3 _ _ hD2)
   have s04:=s03.trans s4
   refine b2J hD4 hA4 (big (by rw[b7,b7];omega)) ?_
   rw[<-D1]
   have hon:a3j N i=(E7 l.length).map fun(a:Nat)=>((i:Int),(a:Int)):=by
    unfold a3j
    simp[N4,hl]
   have hU:=a7F N i
   have lon:(a3j N i).length=l.length:=by rw[hon];simp
   refine⟨_,_,vs++ws,rfl,d6,by rw[hU,p5,p5,lv,lw,lon],by rw[p5];omega,fun j x s g1 g2=>?_,fun b o e=>?_⟩
   ·rw[hU]at g2
    by_cases hj:j<vs.length
    ·rw[C6 hj]at g1
     rw[C6 (by omega)]at g2
     exact((at2 j x s g1 g2).ts (t9.ts (s3.trans s4))).ts (J1.put hD4)
    ·rw[M9 (by omega)]at g1
     rw[M9 (by omega),<-lv,hon,c9]at g2
     have hq:j - vs.length<l.length:=by
      have:=(gI g1)
      omega
     rw[a6G hq]at g2
     cases g2
     have:=at4 _ _ g1
     exact .inl (by rw[l7 (L6 this hD4 (by intro z;cases z))];exact this)
   ·rw[l7 (d9 e hD)];exact s04 _ _ e
def b9G(c:Cn)(H:Hp)(x:Addr)(N:Nt):Prop:=∃dx fs n,H x=some (.ins c.M7 dx fs)/\fs.lookup ("nexts" : Str)=some (V.ref n)/\E6 H n N
theorem eq2(p q:Int):a0Y [.int p,.int q] [.int (-1),.int 0]=decide ((p,q)=FST):=by
 unfold a0Y
 simp only[C0,a5b,Nat.zero_add,Nat.reduceAdd,Nat.min_self]
 rw[show E7 2=[0,1] from rfl]
 simp only[W2,b5G,c6A,N4,a3Q,List.getElem?_cons_succ,a3M,beq_self_eq_true]
 unfold FST
 by_cases h:p = -1
 ·by_cases h':q=0
  ·subst h h';decide
  ·subst h
   simp[eqV,h']
 ·simp[eqV,h]
theorem a7I{K:Fg}{x:Addr}{E:XK}(ck:a3D K c)(hp:b9G c H x N)(ha:a1B K H a s)(hs:a5O N s)(k:Q (.int (a1k N s:Nat)) H):V6 K c [.ref x,.ref a] H Q E:=by
 refine⟨rfl,?_⟩
 unfold a3H
 nofun
 refine⟨_,_,_,_,rfl,rfl,ha.sq,ck.a1K H,rfl,rfl,?_⟩
 rw[eq2]
 ext
 by_cases e:s=FST
 ·exists D9 (c8s e) ?_
  unfold a1k at k
  rw[if_pos e]at k
  exact k
 ·exists v4 (c8r e) ?_
  rcases hs with z | ⟨p,q,l,t,rfl,h1,h2⟩
  ·exact(e z).elim
  rcases ha with ha | ⟨z,_⟩
  rotate_left
  ·exact(e z).elim
  obtain⟨dx,fs,n,hx,hf,hn⟩:=hp
  specialize a1y ?_
  exists ⟨x,_,dx,fs,_,rfl,hx,ck.L7,ck.O2,hf,?_⟩
  refine C3 ha (U0 _ _) ?_
  obtain⟨xs,y,f1,f2,f3,_⟩:=hn.at h1
  exists L5 f1 f2 ?_
  refine C3 ha (a0Z _ _ _) ?_
  refine L5 f3 (c2F h2) ?_
  have:a1k N ((p:Int),(q:Int))=t:=by
   unfold a1k
   rw[if_neg e]
   show(N.getD (p:Int).toNat []).getD (q:Int).toNat 0=t
   rw[z9,z9]
   simp[N4,h1,h2]
  rw[this]at k
  exact k
structure b9O(K:Fg)(H0 H:Hp)(e:Addr)(es:List Addr)(P:List (List Stp)):Prop where
 same:t9 H0 H
 h:H e=some (.lst (es.map V.ref))
 len:es.length=P.length
 nd:es.Nodup
 na:e∉es
 at_:∀(i:Nat) y S,es[i]? = some y->P[i]? = some S->J3 K H y S
 new:H0 e=none/\∀y∈es,H0 y=none
theorem b9O.add{K:Fg}{e:Addr}{es:List Addr}{P:List (List Stp)}(h:b9O K H0 H e es P){t:Nat}{y:Addr}{S:List Stp}{vs:List Addr}(e1:es[t]? = some y)(e2:P[t]? = some S)(hy:H y=some (.lst (vs.map V.ref)))
  (lv:vs.length=S.length) (at2:∀(i:Nat) x s,vs[i]? = some x->S[i]? = some s->a1B K H x s) (ha:a1B K H a s):b9O K H0 (upd H y (.lst ((vs++[a]).map V.ref))) e es (P.set t (S++[s])):=by
 have hm:=mI e1
 have ye:y≠e:=fun z=>h.na (z ▸ hm)
 refine⟨fun b o q=>by rw[l7 (d9 q (h.new.2 y hm))];exact h.same b o q,by rw[l7 ye.symm];exact h.h,by rw[a0J];exact h.len,h.nd,h.na,fun i z S' f1 f2=>?_,h.new⟩
 by_cases q:i=t
 ·subst q
  rw[e1]at f1
  cases f1
  rw[J9 (gI e2)]at f2
  cases f2
  refine⟨vs++[a],d6,by simp[lv],fun j x s' g1 g2=>?_⟩
  rcases W5 g1 with ⟨_,k1⟩ | ⟨j1,k1⟩
  ·rcases W5 g2 with ⟨_,k2⟩ | ⟨j2,k2⟩
   ·exact(at2 j x s' k1 k2).ts (J1.put hy)
   ·omega
  ·rcases W5 g2 with ⟨_,k2⟩ | ⟨j2,k2⟩
   ·omega
   ·subst k1 k2
    exact ha.ts (J1.put hy)
 ·rw[L9 (Ne.symm q)]at f2
  have:z≠y:=by
   rintro rfl
   exact q (c2B h.nd f1 e1)
  exact(h.at_ i z S' f1 f2).put hy this
structure c7c(K:Fg)(c:Cn)(H:Hp)(x:Addr)(N:Nt):Prop where
 ex:∃dx r n e es,H x=some (.ins c.M7 dx [("rows",.ref r),("nexts",.ref n),("entries",.ref e)])/\Q5 H r N/\E6 H n N/\H e=some (.lst ((es:List Addr).map V.ref))/\es.length=N.length /\
  ∀(t:Nat) y,es[t]? = some y->J3 K H y ((a2e N).filter fun s=>decide (a1k N s=t))
structure a2n(K:Fg)(c:Cn)(Z:Addr->Prop)(rs:List Addr)(H:Hp)(x:Addr)(N:Nt):Prop where
 ex:∃dx r n e es ns,H x=some (.ins c.M7 dx [("rows",.ref r),("nexts",.ref n),("entries",.ref e)])/\(Q5 H r N/\H r=some (.lst (rs.map V.ref)))/\H n=some (.lst ((ns:List Addr).map V.ref))/\ns.length=N.length/\(∀(i:Nat) y l,ns[i]? = some y->N[i]? = some l->H y=some (.lst (IL l))) /\
  H e=some (.lst ((es:List Addr).map V.ref))/\es.length=N.length/\(∀(t:Nat) y,es[t]? = some y->J3 K H y ((a2e N).filter fun s=>decide (a1k N s=t)))/\∀z,Z z->z≠r/\z≠n/\z≠e/\z∉ns/\z∉es
theorem a2n.same{K:Fg}{x:Addr}(h:a2n K c Z rs H x N)(s:t9 H H'):a2n K c Z rs H' x N:=by
 obtain⟨dx,r,n,e,es,ns,h1,⟨h2,h2r⟩,h3,h4,h5,h6,h7,h8,h9⟩:=h.ex
 exact⟨dx,r,n,e,es,ns,s _ _ h1,⟨h2.same s,s _ _ h2r⟩,s _ _ h3,h4,fun i y l a b=>s _ _ (h5 i y l a b),s _ _ h6,h7,fun t y q=>(h8 t y q).same s,h9⟩
theorem a2n.kept{K:Fg}{x:Addr}(h:a2n K c Z rs H x N)(hB:Bag H b d)(h2':∀l∈N,l.length<=2)(k:D4 b H H'):a2n K c Z rs H' x N:=by
 obtain⟨dx,r,n,e,es,ns,h1,⟨h2,h2r⟩,h3,h4,h5,h6,h7,h8,h9⟩:=h.ex
 obtain⟨bs,hb⟩:=hB.lst
 refine⟨dx,r,n,e,es,ns,k.1 _ _ h1 (L6 h1 hb (by intro z;cases z)),⟨h2.kept hB k,k.1 _ _ h2r (a1c hB h2r)⟩,k.1 _ _ h3 (a1c hB h3),h4,fun i y l a b=>?_,k.1 _ _ h6 (a1c hB h6),h7,fun t y q=>(h8 t y q).kept hB k,h9⟩
 have q:=h5 i y l a b
 exact k.1 _ _ q (a8E hB q (by rw[O5];have:=h2' l (mI b);omega))
theorem E6.ins{H:Hp}{a x C dx:Addr}{N:Nt}{fs:List (Str×V)}{o:HO}(h:E6 H a N)(hx:H x=some (.ins C dx fs)):E6 (upd H x o) a N:=by
 obtain⟨as,q1,q2,q3⟩:=h.ex
 exact⟨as,by rw[l7 (L6 q1 hx (by intro z;cases z))];exact q1,q2,fun j y l e1 e2=>by
  have q:=q3 j y l e1 e2
  rw[l7 (L6 q hx (by intro z;cases z))];exact q⟩
theorem J1.ins{H:Hp}{x C dx:Addr}{fs:List (Str×V)}{o:HO}(hx:H x=some (.ins C dx fs)):J1 H (upd H x o):=fun a xs e=>by
 rw[l7 (L6 e hx (by intro z;cases z))];exact e
theorem Q5.ins{H:Hp}{a x C dx:Addr}{N:Nt}{fs:List (Str×V)}{o:HO}(h:Q5 H a N)(hx:H x=some (.ins C dx fs)):Q5 (upd H x o) a N:=by
 obtain⟨as,q1,q2,q3⟩:=h.ex
 exact⟨as,by rw[l7 (L6 q1 hx (by intro z;cases z))];exact q1,q2,fun j y l e1 e2=>(q3 j y l e1 e2).ts (J1.ins hx)⟩
theorem b5V(h:∀l∈N,l.length<=2):(a2e N).length<=1+2 * N.length:=by
 have go:∀i,i<=N.length->(a5u N i).length<=1+2 * i:=by
  intro i
  induction i with
  | zero=>intro _;show 1<=1;exact g9 _
  | succ i ih=>
   intro hi
   rw[a7F,p5]
   have:=ih (by omega)
   have h2:(a3j N i).length<=2:=by
    unfold a3j
    rw[b7,a8i]
    have e:N.getD i []=N[i]:=by simp[N4,show i<N.length by omega]
    rw[e]
    exact h _ (D6 _)
   omega
 exact go _ (g9 _)
theorem b4R{S:List Stp}{f:Stp->Nat}{t:Nat}(h:S[i]? = some s):(S.take (i+1)).filter (fun s=>decide (f s=t))=(S.take i).filter (fun s=>decide (f s=t))++(if f s=t then [s] else []):=by
 rw[U9,h,a7N]
 congr 1
 by_cases e:f s=t
 ·rw[if_pos e];simp[e]
 ·rw[if_neg e];simp[e]
theorem a6m{K:Fg}{x:Addr}{E:XK}(ck:a3D K c)(hrs:H ra=some (.lst (rs.map V.ref)))(hr:Q5 H ra N)(hn:E6 H na N)(hv:a0t N)(hx:H x=some (.ins c.M7 dx []))
  (k:∀H',a2n K c (fun z=>∃o,H z=some o/\z≠x) rs H' x N->(∀b o,H b=some o->b≠x->H' b=some o)->Q .non H'):a0E K c [.ref x,.ref ra,.ref na] H Q E:=by
 obtain⟨rs',r1,r2,r3⟩:=id hr.ex
 obtain rfl:rs'=rs:=by
  rw[hrs]at r1
  exact(T0 (f:=V.ref) (fun a b h=>V.ref.inj h) |>.mp (HO.lst.inj (Option.some.inj r1))).symm
 obtain⟨ns,n1,n2,n3⟩:=id hn.ex
 have hpos:=hv.pos
 have h400:=hv.le
 refine⟨rfl,?_⟩
 unfold a7D
 nofun
 exists a7S r1 (by rw[b7];omega) (by rw[b7];omega) ?_
 nofun
 specialize V8 (R8 ?_)
 refine⟨ra,rfl,⟨_,SqL.of r1⟩,fun D hD=>?_⟩
 refine T7 (xs:=rs'.map V.ref) (fun i ys H2=>ys=C7 i (V.bl true)/\H2 D=some (.lst ys)/\t9 H H2) ⟨rfl,d6,A0 hD⟩ ?_ ?_ ?_ ?_
 ·rintro i ys H2 ⟨_,h,_⟩
  exact h
 ·rintro i ys H2 _ ⟨_,_,s2⟩
  exact SqL.of (s2 _ _ r1)
 ·rintro i y ys H2 hy ⟨rfl,hD2,s2⟩ R hR
  rw[c9]at hy
  cases hrx:rs'[i]? with
  | none=>rw[hrx]at hy;cases hy
  | some rx=>
   rw[hrx]at hy
   cases hy
   have hi:i<N.length:=by rw[<-r2];exact(gI hrx)
   ext
   refine b6D ck ((r3 i rx _ hrx (I0 hi)).ts (t9.ts s2)) fun H3 s3=>?_
   refine hR _ _ (s3 _ _ hD2) (F9 (by rw[E9];omega)) ⟨a8s i,d6,fun b o e=>?_⟩
   rw[l7 (d9 e hD)];exact s3 _ _ (s2 _ _ e)
 rintro ys H2 ⟨rfl,hD2,s2⟩
 ext
 refine a5l hD2 fun H3 s3=>?_
 have s03:=s2.trans s3
 ext
 nofun
 refine a9i (hr.same s03) (hn.same s03) h400 hv.two hv.lt fun H4 s4=>?_
 have s04:=s03.trans s4
 ext
 nofun
 refine a9J (hn.same s04) hv fun H5 s5=>?_
 have s05:=s04.trans s5
 ext
 exact_mod_cast U4 ?_
 specialize b4i ?_
 refine a4J (s05 _ _ r1) fun rp H6 hrp e6 s6=>?_
 have s06:=s05.trans s6
 ext
 refine⟨x,_,dx,[],rfl,s06 _ _ hx,ck.L7,ck.K9,by simp,?_⟩
 obtain⟨H7,hH7⟩:∃H7,H7=upd H6 x (.ins c.M7 dx (a2q "rows" (.ref rp) [])):=⟨_,rfl⟩
 have x7:H7 x=some (.ins c.M7 dx [("rows",.ref rp)]):=hH7 ▸ d6
 have f7:∀b o,H6 b=some o->b≠x->H7 b=some o:=fun b o e n=>by rw[hH7,l7 n];exact e
 have rows7:Q5 H7 rp N:=by
  have q:Q5 H6 rp N:=⟨rs',e6,r2,fun i y l a b=>(r3 i y l a b).ts (t9.ts s06)⟩
  rw[hH7]
  exact q.ins (s06 _ _ hx)
 have net7:E6 H7 na N:=by rw[hH7];exact(hn.same s06).ins (s06 _ _ hx)
 have ra7:H7 ra=some (.lst (rs'.map V.ref)):=f7 _ _ (s06 _ _ r1) (L6 r1 hx (by intro z;cases z))
 rw[<-hH7]
 clear hH7
 exact_mod_cast U4 ?_
 exact_mod_cast b4i ?_
 exact_mod_cast V8 (R8 ?_)
 obtain⟨ns',m1,m2,m3⟩:=id net7.ex
 ext
 refine⟨na,rfl,⟨_,SqL.of m1⟩,fun np hnp=>?_⟩
 refine T7 (xs:=ns'.map V.ref) (fun i ys H8=>∃as:List Addr,ys=as.map V.ref/\as.length=i/\(∀(j:Nat) y l,as[j]? = some y->N[j]? = some l->H8 y=some (.lst (IL l))/\y≠np)/\H8 np=some (.lst ys)/\t9 H7 H8/\∀y∈as,H7 y=none) ?_ ?_ ?_ ?_ ?_
 ·exact⟨[],rfl,rfl,by simp,d6,A0 hnp,by simp⟩
 ·rintro i ys H8 ⟨_,_,_,_,h,_⟩
  exact h
 ·rintro i ys H8 _ ⟨_,_,_,_,_,s8,_⟩
  exact SqL.of (s8 _ _ m1)
 ·rintro i y ys H8 hy ⟨as,rfl,la,at8,hnp8,s8,fr8⟩ R hR
  rw[c9]at hy
  cases hnx:ns'[i]? with
  | none=>rw[hnx]at hy;cases hy
  | some nx=>
   rw[hnx]at hy
   cases hy
   have hi:i<N.length:=by rw[<-m2];exact(gI hnx)
   ext
   refine a4J (s8 _ _ (m3 i nx _ hnx (I0 hi))) fun q H9 hq e9 s9=>?_
   have nq:q≠np:=(d9 hnp8 hq).symm
   refine hR _ _ (s9 _ _ hnp8) (F9 (by rw[b7];omega)) ⟨as++[q],by simp,by simp[la],fun j y l g1 g2=>?_,d6,fun b o e=>?_,fun y hy=>?_⟩
   ·rcases W5 g1 with ⟨_,f1⟩ | ⟨hj,f1⟩
    ·obtain⟨f2,f3⟩:=at8 j y l f1 g2
     exact⟨by rw[l7 f3];exact s9 _ _ f2,f3⟩
    ·rw[hj,la,I0 hi]at g2
     cases g2
     subst f1
     exact⟨by rw[l7 nq];exact e9,nq⟩
   ·rw[l7 (d9 e hnp)];exact s9 _ _ (s8 _ _ e)
   ·rcases u8.mp hy with z | z
    ·exact fr8 y z
    ·rw[g8.mp z];exact s8.free hq
 rintro ys H8 ⟨as,rfl,la,at8,hnp8,s8,fr8⟩
 rw[b7,m2]at la
 have net8:E6 H8 np N:=⟨as,hnp8,la,fun i y l a b=>(at8 i y l a b).1⟩
 ext
 refine⟨x,_,dx,_,rfl,s8 _ _ x7,ck.L7,ck.O2,by simp,?_⟩
 obtain⟨H9,hH9⟩:∃H9,H9=upd H8 x (.ins c.M7 dx (a2q "nexts" (.ref np) [("rows",.ref rp)])):=⟨_,rfl⟩
 have x9:H9 x=some (.ins c.M7 dx [("rows",.ref rp),("nexts",.ref np)]):=by
  rw[hH9,d6]
  simp only[a2q]
  rw[if_neg (by decide)]
 have f9:∀b o,H8 b=some o->b≠x->H9 b=some o:=fun b o e n=>by rw[hH9,l7 n];exact e
 have rows9:Q5 H9 rp N:=by rw[hH9];exact(rows7.same s8).ins (s8 _ _ x7)
 have net9:E6 H9 np N:=by rw[hH9];exact net8.ins (s8 _ _ x7)
 have ra9:H9 ra=some (.lst (rs'.map V.ref)):=f9 _ _ (s8 _ _ ra7) (L6 ra7 x7 (by intro z;cases z))
 rw[<-hH9]
 clear hH9
 exact_mod_cast U4 ?_
 exact_mod_cast b4i ?_
 specialize V8 (R8 ?_)
 refine⟨ra,rfl,⟨_,SqL.of ra9⟩,fun ep hep=>?_⟩
 refine T7 (xs:=rs'.map V.ref) (fun i ys H10=>∃es,ys=es.map V.ref/\a4z H9 H10 ep es (C7 i [])) ?_ ?_ ?_ ?_ ?_
 ·exact⟨[],rfl,.nil hep (A0 hep) d6⟩
 ·rintro i ys H10 ⟨es,rfl,I⟩
  exact I.h
 ·rintro i ys H10 _ ⟨es,rfl,I⟩
  exact SqL.of (I.same _ _ ra9)
 ·rintro i y ys H10 hy ⟨es,rfl,I⟩ R hR
  have hi:i<N.length:=by
   have:=(gI hy)
   rw[b7,r2]at this
   exact this
  ext
  refine E3 (by simp) fun p H11 hp e11 s11=>?_
  have:=I.len
  rw[E9]at this
  refine hR _ _ (s11 _ _ I.h) (F9 (by rw[b7];omega)) ⟨es++[p],by simp,?_⟩
  have q:=I.snoc hp e11 s11
  rw[show C7 i ([]:List Nat)++[[]]=C7 (i+1) [] from by rw[a5R]]at q
  rw[show es.map V.ref++[V.ref p]=(es++[p]).map V.ref by simp]
  exact q
 rintro ys H10 ⟨es,rfl,I10⟩
 rw[b7,r2]at I10
 ext
 have x10:=I10.same _ _ x9
 refine⟨x,_,dx,_,rfl,x10,ck.L7,ck.a0n,by simp,?_⟩
 obtain⟨F,hF⟩:∃F:List (Str×V),F=([("rows",.ref rp),("nexts",.ref np),("entries",.ref ep)]:List (Str×V)):=⟨_,rfl⟩
 have hput:a2q "entries" (.ref ep) [("rows",.ref rp),("nexts",.ref np)]=F:=by
  rw[hF]
  simp only[a2q]
  rw[if_neg (by decide),if_neg (by decide)]
 rw[hput]
 obtain⟨H11,hH11⟩:∃H11,H11=upd H10 x (.ins c.M7 dx F):=⟨_,rfl⟩
 obtain⟨H0,hH0⟩:∃H0,H0=upd H9 x (.ins c.M7 dx F):=⟨_,rfl⟩
 have x0:H0 x=some (.ins c.M7 dx F):=hH0 ▸ d6
 have f0:∀b o,H9 b=some o->b≠x->H0 b=some o:=fun b o e n=>by rw[hH0,l7 n];exact e
 have rows0:Q5 H0 rp N:=by rw[hH0];exact rows9.ins x9
 have net0:E6 H0 np N:=by rw[hH0];exact net9.ins x9
 have np0:H0 np=some (.lst (as.map V.ref)):=by
  have:=f9 _ _ hnp8 (L6 hnp8 (s8 _ _ x7) (by intro z;cases z))
  exact f0 _ _ this (L6 this x9 (by intro z;cases z))
 have rp0:H0 rp=some (.lst (rs'.map V.ref)):=by
  have q:=s8 _ _ (f7 _ _ e6 (L6 e6 (s06 _ _ hx) (by intro z;cases z)))
  have q:=f9 _ _ q (L6 q (s8 _ _ x7) (by intro z;cases z))
  exact f0 _ _ q (L6 q x9 (by intro z;cases z))
 have at0:∀(i:Nat) y l,as[i]? = some y->N[i]? = some l->H0 y=some (.lst (IL l)):=fun i y l a b=>by
  have q:=(at8 i y l a b).1
  have q:=f9 _ _ q (L6 q (s8 _ _ x7) (by intro z;cases z))
  exact f0 _ _ q (L6 q x9 (by intro z;cases z))
 have old9:∀b o,H b=some o->b≠x->H9 b=some o:=fun b o e n=>f9 _ _ (s8 _ _ (f7 _ _ (s06 _ _ e) n)) n
 have ent11:b9O K H0 H11 ep es (C7 N.length []):=by
  have nxe:x≠ep:=d9 x9 hep
  have nxes:∀y∈es,x≠y:=fun y hy=>d9 x9 (I10.new.2 y hy)
  refine⟨fun b o e=>?_,by rw[hH11,l7 nxe.symm];exact I10.h,by rw[E9];have:=I10.len;rwa [E9]at this,I10.nd,I10.na,fun i y S a b=>?_,by rw[hH0,l7 nxe.symm];exact hep,fun y hy=>by rw[hH0,l7 (nxes y hy).symm];exact I10.new.2 y hy⟩
  ·rw[hH0]at e
   rw[hH11]
   by_cases q:b=x
   ·subst q
    rw[d6]at e ⊢
    exact e
   ·rw[l7 q]at e ⊢
    exact I10.same _ _ e
  ·have hi:=(gI b)
   rw[E9]at hi
   have q:=I10.at_ i y [] a (by rw[M0,if_pos hi])
   rw[M0,if_pos hi]at b
   cases b
   refine⟨[],?_,rfl,by simp⟩
   rw[hH11,l7 (L6 q x10 (by intro z;cases z))]
   exact q
 have old:∀b o,H b=some o->b≠x->H0 b=some o:=fun b o e n=>f0 _ _ (f9 _ _ (s8 _ _ (f7 _ _ (s06 _ _ e) n)) n) n
 rw[<-hH11]
 clear hH11 hH0 I10 x10 f0 f9 x9 ra9 net9 rows9
 specialize a0c (R8 ?_)
 specialize a1y ?_
 exists ⟨x,_,dx,F,.ref np,rfl,ent11.same _ _ x0,ck.L7,ck.O2,by rw[hF];rfl,?_⟩
 refine b2y ck (net0.same ent11.same) h400 hv.two fun sl H12 hsl S12 s12=>?_
 obtain⟨vs,v1,v2,v3⟩:=id S12.ex
 have nsl:sl∉es:=fun z=>by
  obtain⟨i,hi⟩:=G5.mp z
  have hil:i<N.length:=by
   have:=ent11.len
   rw[E9]at this
   rw[<-this];exact(gI hi)
  obtain⟨ws,w1,_⟩:=(ent11.at_ i sl [] hi (by rw[M0,if_pos hil])).ex
  rw[hsl]at w1
  cases w1
 refine⟨sl,rfl,⟨_,SqL.of v1⟩,a1m (xs:=vs.map V.ref) (fun i σ H13=>∃x3 P,σ=[some (.ref x),some (.ref ra),some (.ref na),x3]/\b9O K H0 H13 ep es P/\P.length=N.length/\(∀t,t<N.length->P[t]? = some (((a2e N).take i).filter fun s=>decide (a1k N s=t)))/\J3 K H13 sl (a2e N)/\H13 sl=some (.lst (vs.map V.ref))) ?_ ?_ ?_ ?_⟩
 ·refine⟨_,C7 N.length [],rfl,⟨ent11.same.trans s12,s12 _ _ ent11.h,ent11.len,ent11.nd,ent11.na,fun i y S a b=>(ent11.at_ i y S a b).same s12,ent11.new⟩,by simp,fun t ht=>by rw[M0,if_pos ht];simp,S12,v1⟩
 ·rintro i σ H13 _ ⟨_,_,_,_,_,_,_,h⟩
  exact SqL.of h
 ·rintro i y _ H13 hy ⟨x3,P,rfl,I13,lP,hP,S13,hsl13⟩
  rw[c9]at hy
  cases hvx:vs[i]? with
  | none=>rw[hvx]at hy;cases hy
  | some vx=>
   rw[hvx]at hy
   cases hy
   obtain⟨ws,w1,w2,w3⟩:=S13.ex
   have ews:ws=vs:=by
    rw[hsl13]at w1
    have:=T0 (f:=V.ref) (fun a b h=>V.ref.inj h) |>.mp (HO.lst.inj (Option.some.inj w1))
    exact this.symm
   subst ews
   have hi:i<(a2e N).length:=by rw[<-w2];exact(gI hvx)
   obtain⟨s,hs⟩:∃s,(a2e N)[i]? = some s:=⟨_,d8 hi⟩
   have hst:=w3 i vx s hvx hs
   have hm:=mI hs
   have his:=b6E hm
   have hlt:=b1p hv his
   have x13:=I13.same _ _ x0
   ext
   specialize b0X ?_
   specialize a1y ?_
   refine⟨x,_,dx,F,.ref ep,rfl,x13,ck.L7,ck.a0n,by rw[hF];rfl,?_⟩
   specialize b8c ?_
   exists ⟨x,dx,F,rfl,x13,by rw[hF];rfl,?_⟩
   refine a7I ck ⟨dx,F,np,x13,by rw[hF];rfl,net0.same I13.same⟩ hst his ?_
   obtain⟨z,hz⟩:∃z,es[a1k N s]? = some z:=⟨_,d8 (by have:=I13.len;omega)⟩
   refine L5 I13.h (Z5 (by rw[c9,hz];rfl)) ?_
   have hPt:=hP _ hlt
   obtain⟨us,u1,u2,u3⟩:=(I13.at_ _ z _ hz hPt).ex
   exists ⟨a0A u1,?_⟩
   have hul:us.length<=i:=by
    rw[u2]
    refine F6 (a5o _ _) ?_
    rw[R7];omega
   have hlen1:(a2e N).length<=1000:=by
    rw[<-w2]
    have:(a2e N).length<=1+2 * N.length:=b5V hv.two
    omega
   refine a3a u1 (F9 (by rw[b7];omega)) ?_
   have add:=I13.add (a:=vx) (s:=s) hz hPt u1 u2 u3 hst
   rw[show us.map V.ref++[V.ref vx]=(us++[vx]).map V.ref by simp]
   have nz:sl≠z:=fun q=>nsl (q ▸ mI hz)
   refine⟨_,_,rfl,add,by rw[a0J];exact lP,fun t ht=>?_,S13.put u1 nz,by rw[l7 nz];exact hsl13⟩
   rw[b4R hs]
   by_cases q:a1k N s=t
   ·subst q
    rw[J9 (by omega),if_pos rfl]
   ·rw[L9 q,if_neg q,c5o]
    exact hP t ht
 ·rintro _ H13 ⟨x3,P,rfl,I13,lP,hP,S13,hsl13⟩
  have f8:∀b o,H b=some o->b≠x->H7 b=some o:=fun b o e n=>f7 _ _ (s06 _ _ e) n
  refine k H13 ⟨dx,rp,np,ep,es,as,hF ▸ I13.same _ _ x0,⟨rows0.same I13.same,I13.same _ _ rp0⟩,I13.same _ _ np0,la,fun i y l a b=>I13.same _ _ (at0 i y l a b),I13.h,by rw[I13.len,lP],fun t y hy=>?_,fun z ⟨o,ho,hzx⟩=>⟨d9 (s05 _ _ ho) hrp,d9 (f8 _ _ ho hzx) hnp,d9 (old9 _ _ ho hzx) hep,fun q=>d9 (f8 _ _ ho hzx) (fr8 z q) rfl,fun q=>d9 (old _ _ ho hzx) (I13.new.2 z q) rfl⟩⟩ fun b o e n=>I13.same _ _ (old b o e n)
  have ht:t<N.length:=by
   have:=(gI hy)
   have:=I13.len
   omega
  have q:=I13.at_ t y _ hy (hP t ht)
  rw[b7,v2,a0k]at q
  exact q
structure c7i(H:Hp)(d:Addr)(ds:List V):Prop where
 h:H d=some (.tup ds)
 ex:∃k v1 v2,ds=[.str k,v1,v2]/\OpN v1/\OpN v2
def b4Z(H:Hp)(p:Addr)(xs:List V):Prop:=H p=some (.tup xs)/\a3O H xs
theorem b4Z.ts(h:b4Z H p xs)(t:J1 H H'):b4Z H' p xs:=⟨t _ _ h.1,h.2.ts t⟩
theorem a5N.x{a:Bool}(h:a5N H (.ref p) a):∃xs,b4Z H p xs:=by
 obtain⟨q,xs,e,h1,h2,_⟩:=h
 cases e
 exact⟨xs,h1,h2⟩
theorem a3O.head(h:a3O H xs):∃k r,xs=.str k::r:=by cases h <;> exact⟨_,_,rfl⟩
theorem c5M{n:Nat}{ti:TIp}{x:V}(e:σ[n]? = some (some x))(h:te σ H fun y H1=>ti x y H1 fun z H2=>D.nx (σ.set n (some z)) H2):c0n n te ti D σ H:=⟨x,e,h⟩
theorem c6v{K:Fg}(k:∀d H',H d=none->H' d=some (.dK [(Sum.inl 0,.ref a)])->t9 H H'->Q (.ref d) H'):b2w ((tC (.int 0),tC (.ref a))::[]) σ H Q:=by
 intro d hd
 refine⟨d6,[(Sum.inl 0,.ref a)],rfl,by simp,?_⟩
 have e:(upd (upd H d (.dK [])) d (.dK (a5I [] [(Sum.inl 0,V.ref a)])))=upd H d (.dK [(Sum.inl 0,.ref a)]):=by rw[a7U];rfl
 rw[e]
 exact k d _ hd d6 (A0 hd)
def Jst(N:Nt)(Do Sp:Nat->Bool)(S:List Nat)(i:Nat)(s:Stp)(t:Nat):Prop:=
 (i=0/\s=FST/\t=0)\/∃(p q:Nat) (l:List Nat),s=((p:Int),(q:Int))/\N[p]? = some l/\l[q]? = some t/\(Sp p=true\/∃j,j<i/\S[j]? = some p/\Do p=false)
theorem Jst.grow{Sp:Nat->Bool}{S ext:List Nat}{t:Nat}(h:Jst N Do Sp S i s t):Jst N Do Sp (S++ext) i s t:=by
 rcases h with h | ⟨p,q,l,h1,h2,h3,h4⟩
 ·exact .inl h
 ·refine .inr ⟨p,q,l,h1,h2,h3,?_⟩
  rcases h4 with h4 | ⟨j,j1,j2,j3⟩
  ·exact .inl h4
  ·exact .inr ⟨j,j1,by rw[C6 (gI j2)];exact j2,j3⟩
structure CbK(K:Fg)(H:Hp)(d:Addr)(N:Nt)(Do Sp:Nat->Bool)(S:List Nat)(kvs:List (Key×V)):Prop where
 hd:H d=some (.dK kvs)
 nd:S.Nodup
 lt:∀t∈S,t<N.length
 len:kvs.length=S.length
 z:S[0]? = some 0
 at_:∀(i:Nat) t,S[i]? = some t->∃a s,kvs[i]? = some (Sum.inl (t:Int),.ref a)/\a1B K H a s/\Jst N Do Sp S i s t
theorem CbK.keys{K:Fg}{Sp:Nat->Bool}{S:List Nat}(h:CbK K H d N Do Sp S kvs):kvs.map (·.1)=S.map fun(t:Nat)=>(Sum.inl (t:Int):Key):=by
 apply c2j
 intro i
 rw[c9,c9]
 cases e:S[i]? with
 | none=>
  have:kvs[i]? = none:=by
   rw[List.getElem?_eq_none_iff]at e ⊢
   have:=h.len
   omega
  rw[this];rfl
 | some t=>
  obtain⟨a,s,q,_⟩:=h.at_ i t e
  rw[q];rfl
theorem CbK.ndk{K:Fg}{Sp:Nat->Bool}{S:List Nat}(h:CbK K H d N Do Sp S kvs):(kvs.map (·.1)).Nodup:=by
 rw[h.keys]
 refine List.Pairwise.map _ (fun a b hab z=>hab ?_) h.nd
 have:=Sum.inl.inj z
 omega
theorem CbK.in_{K:Fg}{Sp:Nat->Bool}{S:List Nat}(h:CbK K H d N Do Sp S kvs)(t:Nat):(a0w kvs (Sum.inl (t:Int))).isSome=decide (t∈S):=by
 by_cases ht:t∈S
 ·rw[c8s ht]
  obtain⟨i,hi⟩:=G5.mp ht
  obtain⟨a,s,q,_⟩:=h.at_ i t hi
  rw[a8r h.ndk (mI q)]
  rfl
 ·rw[c8r ht]
  cases e:a0w kvs (Sum.inl (t:Int))with
  | none=>rfl
  | some v=>
   have:=c0i e
   rw[h.keys]at this
   obtain⟨u,hu,z⟩:=A2.mp this
   have:=Sum.inl.inj z
   exact absurd (show t ∈ S from (by have : u = t := by omega
                                     exact this ▸ hu)) ht
theorem CbK.notin{K:Fg}{Sp:Nat->Bool}{S:List Nat}(h:CbK K H d N Do Sp S kvs)(t:Nat):∃o,a3C H d (.int (t:Int)) o/\o.isSome=decide (t∈S):=⟨_,a3C.k (k:=Sum.inl (t:Int)) h.hd,h.in_ t⟩
theorem CbK.same{K:Fg}{Sp:Nat->Bool}{S:List Nat}(h:CbK K H d N Do Sp S kvs)(s:t9 H H'):CbK K H' d N Do Sp S kvs:=
 ⟨s _ _ h.hd,h.nd,h.lt,h.len,h.z,fun i t e=>let⟨a,st,q1,q2,q3⟩:=h.at_ i t e; ⟨a,st,q1,q2.ts (t9.ts s),q3⟩⟩
theorem CbK.add{K:Fg}{Sp:Nat->Bool}{S:List Nat}{t:Nat}(h:CbK K H d N Do Sp S kvs)(ht:¬t∈S)(hlt:t<N.length)(ha:a1B K H a s)(hj:Jst N Do Sp S S.length s t) :
  CbK K (upd H d (.dK (Y2 kvs (Sum.inl (t:Int)) (.ref a)))) d N Do Sp (S++[t]) (Y2 kvs (Sum.inl (t:Int)) (.ref a)):=by
 have e:Y2 kvs (Sum.inl (t:Int)) (.ref a)=kvs++[(Sum.inl (t:Int),.ref a)]:=by
  unfold Y2
  rw[a2V,h.in_,c8r ht,if_neg (by decide)]
 rw[e]
 have ts:J1 H (upd H d (.dK (kvs++[(Sum.inl (t:Int),.ref a)]))):=fun b xs q=>by rw[l7 (L6 q h.hd (by intro z;cases z))];exact q
 refine⟨d6,?_,fun u hu=>?_,by simp[h.len],?_,fun i u hu=>?_⟩
 ·rw[V0]
  exact⟨h.nd,by simp,fun x hx y hy=>by rw[g8.mp hy];intro z;exact ht (z ▸ hx)⟩
 ·rcases u8.mp hu with q | q
  ·exact h.lt u q
  ·rw[g8.mp q];exact hlt
 ·rw[C6 (o3.mp h.z).1];exact h.z
 ·rcases W5 hu with ⟨hi,g⟩ | ⟨hi,g⟩
  ·obtain⟨a',s',q1,q2,q3⟩:=h.at_ i u g
   exact⟨a',s',by rw[C6 (gI q1)];exact q1,q2.ts ts,q3.grow⟩
  ·subst g
   refine⟨a,s,?_,ha.ts ts,?_⟩
   ·rw[hi,<-h.len];simp
   ·rw[hi];exact hj.grow
structure CbI(K:Fg)(H0 H:Hp)(d o:Addr)(N:Nt)(Do Sp:Nat->Bool)(S:List Nat)(kvs:List (Key×V)):Prop where
 cb:CbK K H d N Do Sp S kvs
 same:t9 H0 H
 ho:H o=some (.lst (IL S))
 fr:H0 d=none/\H0 o=none
theorem CbI.next{K:Fg}{o:Addr}{Sp:Nat->Bool}{S:List Nat}(h:CbI K H0 H d o N Do Sp S kvs)(s:t9 H H'):CbI K H0 H' d o N Do Sp S kvs:=⟨h.cb.same s,h.same.trans s,s _ _ h.ho,h.fr⟩
theorem c1U{K:Fg}{o:Addr}{Sp:Nat->Bool}{S:List Nat}{a b e f g p q t:Nat}(ha:σ[a]? = some (some (.int (t:Int))))(hb:σ[b]? = some (some (.ref d)))(he:σ[e]? = some (some (.int (p:Int))))(hf:σ[f]? = some (some (.int (q:Int))))(hg:σ[g]? = some (some (.ref o)))
  (I:CbI K H0 H d o N Do Sp S kvs) (h400:N.length<=400) (hl:N[p]? = some l) (ht:l[q]? = some t) (htn:t<N.length) (hj:Sp p=true\/∃j:Nat,S[j]? = some p/\Do p=false)
  (k:∀H' S' kvs',CbI K H0 H' d o N Do Sp S' kvs'->(∃ext,S'=S++ext)->t∈S'->D.nx σ H') :
  K6 (tB (a1E (c6 a) (c6 b))) (z6 (a0N (c6 b) (c6 a) (a0S (b6 (c6 e) (b6 (c6 f) (i9))))) (a0B (tBM K "list" a0h (c6 g) (b6 (c6 a) (i9))))) (D3) D σ H:=by
 exact_mod_cast c5K ?_
 exact_mod_cast c5E ?_
 exact_mod_cast a4j ?_
 exact_mod_cast a3I ha ?_
 exact_mod_cast a3I hb ?_
 obtain⟨o',g1,g2⟩:=I.cb.notin t
 refine⟨d,o',rfl,g1,?_⟩
 rw[g2]
 refine⟨_,rfl,?_⟩
 by_cases hts:t∈S
 ·refine v4 (by rw[c8s hts];rfl) ?_
  exact_mod_cast b8a ?_
  exact k H S kvs I ⟨[],by simp⟩ hts
 refine D9 (by rw[c8r hts];rfl) ?_
 exact_mod_cast U4 ?_
 exact_mod_cast a2i ?_
 exact_mod_cast c2t ?_
 exact_mod_cast a2I ?_
 exact_mod_cast a3I he ?_
 exact_mod_cast a2I ?_
 exact_mod_cast a3I hf ?_
 exact_mod_cast b0e ?_
 refine E3 (by simp) fun z H1 hz e1 s1=>?_
 have I1:=I.next s1
 exact_mod_cast a3I hb ?_
 exact_mod_cast a3I ha ?_
 have hlen:S.length<=400:=F6 (a6r _ _ I.cb.nd I.cb.lt) h400
 refine⟨d,_,rfl,a4W.k (k:=Sum.inl (t:Int)) I1.cb.hd (F9 (by rw[I.cb.len];omega)),?_⟩
 have add:=I1.cb.add (a:=z) (s:=((p:Int),(q:Int))) hts htn (.inl e1) (.inr ⟨p,q,l,rfl,hl,ht,hj.imp id fun⟨j,j1,j2⟩=>⟨j,(gI j1),j1,j2⟩⟩)
 obtain⟨kvs',hk⟩:∃kvs',kvs'=Y2 kvs (Sum.inl (t:Int)) (.ref z):=⟨_,rfl⟩
 rw[<-hk]at add ⊢
 obtain⟨H2,hH2⟩:∃H2,H2=upd H1 d (.dK kvs'):=⟨_,rfl⟩
 rw[<-hH2]at add ⊢
 have nod:o≠d:=L6 I1.ho I1.cb.hd (by intro z;cases z)
 have ho2:H2 o=some (.lst (IL S)):=by rw[hH2,l7 nod];exact I1.ho
 have s2:t9 H0 H2:=fun b' o'' q'=>by rw[hH2,l7 (d9 q' I.fr.1)];exact I1.same _ _ q'
 exact_mod_cast b8e ?_
 exact_mod_cast b0X ?_
 exact_mod_cast a3I hg ?_
 refine⟨a0A ho2,?_⟩
 exact_mod_cast a2I ?_
 exact_mod_cast a3I ha ?_
 exact_mod_cast b0e ?_
 refine a3a ho2 (F9 (by rw[O5];omega)) ?_
 have e3:IL S++[V.int (t:Int)]=IL (S++[t]):=by simp[IL]
 rw[e3]
 have ts:J1 H2 (upd H2 o (.lst (IL (S++[t])))):=J1.put ho2
 refine k _ (S++[t]) kvs' ⟨⟨by rw[l7 nod.symm];exact add.hd,add.nd,add.lt,add.len,add.z,fun i u hu=>let⟨a',s',q1,q2,q3⟩:=add.at_ i u hu; ⟨a',s',q1,q2.ts ts,q3⟩⟩,fun b' o'' q'=>by rw[l7 (d9 q' I.fr.2)];exact s2 _ _ q',d6,I.fr⟩ ⟨[t],rfl⟩ (by simp)
structure a5m(c:Cn)(H:Hp)(x:Addr)(N:Nt)(rs:List Addr):Prop where
 ex:∃dx fs n r,H x=some (.ins c.M7 dx fs)/\fs.lookup ("nexts" : Str)=some (V.ref n)/\E6 H n N/\fs.lookup ("rows" : Str)=some (V.ref r)/\H r=some (.lst (rs.map V.ref))/\rs.length=N.length
theorem a5m.x{x:Addr}(h:a5m c H x N rs):b9G c H x N:=by
 obtain⟨dx,fs,n,r,h1,h2,h3,_⟩:=h.ex
 exact⟨dx,fs,n,h1,h2,h3⟩
theorem a5m.same{x:Addr}(h:a5m c H x N rs)(s:t9 H H'):a5m c H' x N rs:=by
 obtain⟨dx,fs,n,r,h1,h2,h3,h4,h5,h6⟩:=h.ex
 exact⟨dx,fs,n,r,s _ _ h1,h2,h3.same s,h4,s _ _ h5,h6⟩
theorem a2n.r{K:Fg}{x:Addr}(h:a2n K c Z rs H x N):a5m c H x N rs:=by
 obtain⟨dx,r,n,e,es,ns,h1,⟨h2,h2r⟩,h3,h4,h5,h6,h7,h8,_⟩:=h.ex
 refine⟨dx,_,n,r,h1,rfl,⟨ns,h3,h4,h5⟩,rfl,h2r,?_⟩
 obtain⟨rs',q1,q2,_⟩:=h2.ex
 rw[h2r]at q1
 have:=congrArg b7g (HO.lst.inj (Option.some.inj q1))
 rw[b7,b7]at this
 omega
theorem a8Q{K:Fg}{x o:Addr}{Sp:Nat->Bool}{S:List Nat}{p:Nat}{E:XK}(ck:a3D K c)(hp:b9G c H0 x N)(hv:a0t N)(I:CbI K H0 H d o N Do Sp S kvs)(hl:N[p]? = some l)(hj:Sp p=true\/∃j:Nat,S[j]? = some p/\Do p=false)
  (k:∀H' S' kvs',CbI K H0 H' d o N Do Sp S' kvs'->(∃ext,S'=S++ext)->(∀t∈l,t∈S')->Q .non H'):a2h K [.ref x,.int (p:Int),.ref d,.ref o] H Q E:=by
 obtain⟨dx,fs,n,hx,hf,hn⟩:=hp
 refine⟨rfl,?_⟩
 unfold a9Z
 specialize a0c (a4I ?_)
 specialize a1y ?_
 exists ⟨x,_,dx,fs,_,rfl,I.same _ _ hx,ck.L7,ck.O2,hf,?_⟩
 obtain⟨xs,y,f1,f2,f3,_⟩:=hn.at hl
 exists L5 (I.same _ _ f1) f2 ?_
 refine⟨y,rfl,⟨_,SqL.of (I.same _ _ f3)⟩,?_⟩
 have hlt:=hv.lt l (mI hl)
 refine b5u l.length (fun i σ H'=>∃y4 y5 S' kvs',σ=[some (.ref x),some (.int (p:Int)),some (.ref d),some (.ref o),y4,y5]/\CbI K H0 H' d o N Do Sp S' kvs'/\(∃ext,S'=S++ext)/\∀t∈l.take i,t∈S') ?_ ?_ ?_ ?_
 ·exact⟨_,_,S,kvs,rfl,I,⟨[],by simp⟩,by simp⟩
 ·rintro _ H' ⟨y4,y5,S',kvs',rfl,I',e',g'⟩
  rw[a0k]at g'
  exact⟨⟨_,SqL.of (I'.same _ _ f3),by rw[O5];exact g9 _⟩,k H' S' kvs' I' e' g'⟩
 ·rintro i _ H' hi ⟨y4,y5,S',kvs',rfl,I',e',g'⟩
  exact⟨_,_,SqL.of (I'.same _ _ f3),by unfold IL;rw[c9,d8 hi];rfl⟩
 ·rintro i _ H' hi ⟨y4,y5,S',kvs',rfl,I',⟨ext,e'⟩,g'⟩ v H1 ⟨pp,w,hpp,rfl,rfl,gw⟩
  obtain⟨t,ht⟩:∃t,l[i]? = some t:=⟨_,d8 hi⟩
  have gw:=gw _ (SqL.of (I'.same _ _ f3))
  unfold IL at gw
  rw[c9,ht]at gw
  cases gw
  refine a7Z (SqT.of d6) ?_
  have I1:=I'.next (A0 (o:=.tup [V.int (i:Int),V.int (t:Int)]) hpp)
  refine c1U (p:=p) (q:=i) (t:=t) (l:=l) rfl rfl rfl rfl rfl I1 hv.le hl ht (hlt t (mI ht)) ?_ fun H2 S2 kvs2 I2 ⟨ext2,e2⟩ t2=>?_
  ·rcases hj with hj | ⟨j,j1,j2⟩
   ·exact .inl hj
   ·exact .inr ⟨j,by rw[e',C6 (gI j1)];exact j1,j2⟩
  ·refine⟨_,_,S2,kvs2,rfl,I2,⟨ext++ext2,by rw[e2,e',List.append_assoc]⟩,fun u hu=>?_⟩
   rw[U9,ht]at hu
   rcases u8.mp hu with q | q
   ·rw[e2];exact C9 _ (g' u q)
   ·have:u=t:=by simpa using q
    subst this;exact t2
structure c6y(N:Nt)(Do Sp:Nat->Bool)(S:List Nat):Prop where
 sp:∀(p:Nat) l,Sp p=true->N[p]? = some l->∀t∈l,t∈S
 no:∀(p:Nat) l,p∈S->Do p=false->N[p]? = some l->∀t∈l,t∈S
theorem b9z{K:Fg}{o:Addr}{Sp:Nat->Bool}(ck:a3D K c)(hv:a0t N)(hd:H d=some (.dK [(Sum.inl 0,.ref c.Q6)]))(ho:H o=some (.lst [.int 0]))(s:t9 H0 H)(f1:H0 d=none)(f2:H0 o=none):CbI K H0 H d o N Do Sp [0] [(Sum.inl 0,.ref c.Q6)]:=by
 refine⟨⟨hd,by simp,by simpa using hv.pos,rfl,rfl,fun i t hi=>?_⟩,s,ho,f1,f2⟩
 cases i with
 | zero=>
  cases hi
  exact⟨_,FST,rfl,.inr ⟨rfl,ck.a1K⟩,.inl ⟨rfl,rfl,rfl⟩⟩
 | succ i=>simp at hi
def BL(n:Nat)(f:Nat->Bool):List V:=(E7 n).map fun p=>V.bl (f p)
theorem b9Q(n:Nat)(f:Nat->Bool):(BL n f).length=n:=by simp[BL]
theorem c2G{n p:Nat}{f:Nat->Bool}(h:p<n):atI (BL n f) (p:Int)=some (V.bl (f p)):=Z5 (by unfold BL;rw[c9,a6G h];rfl)
theorem a6M{K:Fg}{x ma br:Addr}{Sp:Nat->Bool}{E:XK}(ck:a3D K c)(hp:a5m c H x N rs)(hv:a0t N)(hm:H ma=some (.lst (BL N.length Do)))(hb:H br=some (.lst (BL N.length Sp)))
  (k:∀d H' S kvs,CbK K H' d N Do Sp S kvs->c6y N Do Sp S->t9 H H'->Q (.ref d) H'):Y7 K c [.ref x,.ref ma,.ref br] H Q E:=by
 have h400:=hv.le
 obtain⟨dx,fs,n,r,hx,hfn,hn,hfr,hr,lr⟩:=hp.ex
 refine⟨rfl,?_⟩
 unfold a3F
 nofun
 exists c6v (K:=K) fun d H1 hd1 e1 s1=>?_
 nofun
 exists E3 (by simp) fun o H2 ho e2 s2=>?_
 have I2:CbI K H H2 d o N Do Sp [0] _:=b9z ck hv (s2 _ _ e1) e2 (s1.trans s2) hd1 (s1.free ho)
 exact_mod_cast a0M (P:=fun σ H3=>∃y5 S kvs,σ=[some (.ref x),some (.ref ma),some (.ref br),some (.ref d),some (.ref o),y5,none]/\CbI K H H3 d o N Do Sp S kvs/\∀(p:Nat) l,Sp p=true->N[p]? = some l->∀t∈l,t∈S) ?_ ?_
 rotate_left
 ·intro nx hnx
  specialize a0c (a0F ?_)
  specialize a1y ?_
  exists ⟨x,_,dx,fs,_,rfl,I2.same _ _ hx,ck.L7,ck.K9,hfr,?_⟩
  refine N8 (I2.same _ _ hr) ?_
  rw[b7,lr]
  refine⟨N.length,rfl,by omega,by omega,?_⟩
  rw[z9]
  refine Z1 (fun i σ H3=>∃y5 S kvs,σ=[some (.ref x),some (.ref ma),some (.ref br),some (.ref d),some (.ref o),y5,none]/\CbI K H H3 d o N Do Sp S kvs/\∀(p:Nat) l,p<i->Sp p=true->N[p]? = some l->∀t∈l,t∈S) ⟨_,[0],_,rfl,I2,by omega⟩ ?_ ?_
  ·rintro i _ H3 hi ⟨y5,S,kvs,rfl,I3,g3⟩
   rw[a0p]
   ext
   exists L5 (I3.same _ _ hb) (c2G hi) ?_
   refine Y4 (fun e=>?_) (fun e=>?_)
   ·ext
    refine a8Q ck hp.x hv I3 (I0 hi) (.inl e) fun H6 S6 kvs6 I6 ⟨ext,e6⟩ g6=>?_
    refine⟨_,S6,kvs6,rfl,I6,fun p l hpi hsp hl t ht=>?_⟩
    by_cases q:p=i
    ·subst q
     rw[I0 hi]at hl
     cases hl
     exact g6 t ht
    ·rw[e6]
     exact C9 _ (g3 p l (by omega) hsp hl t ht)
   ·ext
    refine⟨_,S,kvs,rfl,I3,fun p l hpi hsp hl t ht=>?_⟩
    by_cases q:p=i
    ·subst q;exact(e hsp).elim
    ·exact g3 p l (by omega) hsp hl t ht
  ·rintro _ H3 ⟨y5,S,kvs,rfl,I3,g3⟩
   exact hnx _ _ ⟨y5,S,kvs,rfl,I3,fun p l a b=>g3 p l (gI b) a b⟩
 rintro _ H3 ⟨y5,S3,kvs3,rfl,I3,g3⟩
 nofun
 exact_mod_cast U4 ?_
 exact_mod_cast b0Q ?_
 refine⟨fun m σ H4=>∃(y5:Option V) (S:List Nat) (kvs:List (Key×V)) (dn:Nat),σ=[some (.ref x),some (.ref ma),some (.ref br),some (.ref d),some (.ref o),y5,some (.int (dn:Int))]/\CbI K H H4 d o N Do Sp S kvs/\(∀(p:Nat) l,Sp p=true->N[p]? = some l->∀t∈l,t∈S)/\dn<=S.length/\(∀(j p:Nat) l,j<dn->S[j]? = some p->Do p=false->N[p]? = some l->∀t∈l,t∈S)/\m=N.length - dn,
  ⟨_,y5,S3,kvs3,0,rfl,I3,g3,by omega,by omega,rfl⟩,?_⟩
 rintro m _ H4 ⟨y5,S,kvs,dn,rfl,I4,g4,hdn,c4,rfl⟩
 ext
 exists N8 I4.ho ?_
 rw[O5]
 have hSl:S.length<=N.length:=a6r _ _ I4.cb.nd I4.cb.lt
 by_cases hlt:dn<S.length
 ·refine D9 (c8s (by omega)) ?_
  obtain⟨p,hpS⟩:∃p,S[dn]? = some p:=⟨_,d8 hlt⟩
  have hpn:=I4.cb.lt p (mI hpS)
  refine⟨fun σ H5=>∃(m':Nat) (y5:Option V) (S:List Nat) (kvs:List (Key×V)) (dn':Nat),σ=[some (.ref x),some (.ref ma),some (.ref br),some (.ref d),some (.ref o),y5,some (.int (dn':Int))]/\CbI K H H5 d o N Do Sp S kvs/\(∀(p:Nat) l,Sp p=true->N[p]? = some l->∀t∈l,t∈S)/\dn'<=S.length/\(∀(j p:Nat) l,j<dn'->S[j]? = some p->Do p=false->N[p]? = some l->∀t∈l,t∈S)/\m'=N.length - dn'/\m'<N.length - dn,?_,?_⟩
  ·rintro σ' H5 ⟨m',y4,S,kvs,dn',e,r1,r2,r3,r4,r5,r6⟩
   exact⟨m',r6,y4,S,kvs,dn',e,r1,r2,r3,r4,r5⟩
  nofun
  exists L5 I4.ho (c2F hpS) ?_
  exact_mod_cast U4 ?_
  specialize c5M rfl ?_
  exists L5 (I4.same _ _ hm) (c2G hpn) ?_
  have e1:(dn:Int)+1=((dn+1:Nat):Int):=by omega
  cases hDo:Do p with
  | true=>
   exists v4 rfl ?_
   rw[e1]
   refine⟨_,_,S,kvs,dn+1,rfl,I4,g4,by omega,fun j p' l hj hj2 hD hl t ht=>?_,rfl,by omega⟩
   by_cases q:j=dn
   ·subst q
    rw[hpS]at hj2
    cases hj2
    rw[hDo]at hD
    cases hD
   ·exact c4 j p' l (by omega) hj2 hD hl t ht
  | false=>
   exists D9 rfl ?_
   rw[e1]
   refine a8Q ck hp.x hv I4 (I0 hpn) (.inr ⟨dn,hpS,hDo⟩) fun H6 S6 kvs6 I6 ⟨ext,e6⟩ g6=>?_
   refine⟨_,_,S6,kvs6,dn+1,rfl,I6,fun p' l a b t ht=>by rw[e6];exact C9 _ (g4 p' l a b t ht),by rw[e6,p5];omega,fun j p' l hj hj2 hD hl t ht=>?_,rfl,by omega⟩
   have hj3:S[j]? = some p':=by rw[e6,C6 (by omega)]at hj2;exact hj2
   by_cases q:j=dn
   ·subst q
    rw[hpS]at hj3
    cases hj3
    rw[I0 hpn]at hl
    cases hl
    exact g6 t ht
   ·rw[e6];exact C9 _ (c4 j p' l (by omega) hj3 hD hl t ht)
 ·exists v4 (c8r (by omega)) ?_
  refine k d H4 S kvs I4.cb ⟨g4,fun p l hp' hD hl t ht=>?_⟩ I4.same
  obtain⟨j,hj⟩:=G5.mp hp'
  have:=(gI hj)
  exact c4 j p l (by omega) hj hD hl t ht
inductive UnR(N:Nt)(Do Sp:Nat->Bool):Nat->Prop
 | zero:UnR N Do Sp 0
 | spoil {p t:Nat} {l:List Nat}:N[p]? = some l->t∈l->Sp p=true->UnR N Do Sp t
 | step {p t:Nat} {l:List Nat}:UnR N Do Sp p->Do p=false->N[p]? = some l->t∈l->UnR N Do Sp t
theorem b3R{Sp:Nat->Bool}{S:List Nat}(z:0∈S)(h:c6y N Do Sp S):∀t,UnR N Do Sp t->t∈S:=by
 intro t u
 induction u with
 | zero=>exact z
 | spoil h1 h2 h3=>exact h.sp _ _ h3 h1 _ h2
 | step _ h2 h3 h4 ih=>exact h.no _ _ ih h2 h3 _ h4
theorem b7E{K:Fg}{Sp:Nat->Bool}{S:List Nat}(h:CbK K H d N Do Sp S kvs):∀(i t:Nat),S[i]? = some t->UnR N Do Sp t:=by
 intro i
 induction i using Nat.strongRecOn with
 | _ i ih=>
  intro t e
  obtain⟨a,s,_,_,j⟩:=h.at_ i t e
  rcases j with ⟨_,_,rfl⟩ | ⟨p,q,l,_,h2,h3,h4⟩
  ·exact .zero
  ·rcases h4 with h4 | ⟨j,j1,j2,j3⟩
   ·exact .spoil h2 (mI h3) h4
   ·exact .step (ih j j1 p j2) j3 h2 (mI h3)
theorem b4V{K:Fg}(hn:E6 H a N)(h400:N.length<=400)(hi:σ[i]? = some (some (.ref a)))(k:∀a' H',E6 H' a' N->t9 H H'->Q (.ref a') H'):V5 (U5 K (c6 i)) T5 (tCB a0O (b6 (c6 0) i9)) σ H Q:=by
 obtain⟨ns,m1,m2,m3⟩:=id hn.ex
 exact_mod_cast V8 (R8 ?_)
 refine⟨_,hi,a,rfl,⟨_,SqL.of m1⟩,fun np hnp=>?_⟩
 refine T7 (xs:=ns.map V.ref) (fun i ys H8=>∃as:List Addr,ys=as.map V.ref/\as.length=i/\(∀(j:Nat) y l,as[j]? = some y->N[j]? = some l->H8 y=some (.lst (IL l))/\y≠np)/\H8 np=some (.lst ys)/\t9 H H8) ⟨[],rfl,rfl,by simp,d6,A0 hnp⟩ ?_ ?_ ?_ ?_
 ·rintro i ys H8 ⟨_,_,_,_,h,_⟩
  exact h
 ·rintro i ys H8 _ ⟨_,_,_,_,_,s8⟩
  exact SqL.of (s8 _ _ m1)
 ·rintro i y ys H8 hy ⟨as,rfl,la,at8,hnp8,s8⟩ R hR
  rw[c9]at hy
  obtain⟨nx,hnx,rfl⟩:=z8.mp hy
  have hi:i<N.length:=by rw[<-m2];exact(gI hnx)
  ext
  refine a4J (s8 _ _ (m3 i nx _ hnx (I0 hi))) fun q H9 hq e9 s9=>?_
  have nq:q≠np:=(d9 hnp8 hq).symm
  refine hR _ _ (s9 _ _ hnp8) (F9 (by rw[b7];omega)) ⟨as++[q],by simp,by simp[la],fun j y l g1 g2=>?_,d6,fun b o e=>by rw[l7 (d9 e hnp)];exact s9 _ _ (s8 _ _ e)⟩
  rcases W5 g1 with ⟨_,f1⟩ | ⟨hj,f1⟩
  ·obtain⟨f2,f3⟩:=at8 j y l f1 g2
   exact⟨by rw[l7 f3];exact s9 _ _ f2,f3⟩
  ·rw[hj,la,I0 hi]at g2
   cases g2
   subst f1
   exact⟨by rw[l7 nq];exact e9,nq⟩
 ·rintro ys H8 ⟨as,rfl,la,at8,hnp8,s8⟩
  rw[b7,m2]at la
  exact k np H8 ⟨as,hnp8,la,fun i y l a b=>(at8 i y l a b).1⟩ s8
def inK(ks:List (List Key))(k:List Key):Bool:=ks.any fun u=>decide (u=k)
theorem a8d{ks:List (List Key)}{k:List Key}:inK ks k=true↔k∈ks:=by
 unfold inK
 rw[a0l]
 exact⟨fun⟨u,h,e⟩=>of_decide_eq_true e ▸ h,fun h=>⟨k,h,c8s rfl⟩⟩
def a9p(ks:List (List Key))(o:Option (List Key)):List (List Key):=match o with
 | some k=>if inK ks k=true then ks else ks++[k]
 | none=>ks
def a2m(D:Nat->Option (List Key))(n:Nat):List (List Key):=((E7 n).map D).foldl a9p []
def KM(ks:List (List Key))(g:List Key->V):List (List Key×V):=ks.map fun k=>(k,g k)
section
variable {D:Nat->Option (List Key)}{n:Nat}{k:List Key}{ks:List (List Key)}{g:List Key->V}
theorem a0X:a2m D (n+1)=a9p (a2m D n) (D n):=by
 unfold a2m
 rw[a2p,D1,List.foldl_append];rfl
theorem b3b{o:Option (List Key)}:k∈a9p ks o↔k∈ks\/o=some k:=by
 unfold a9p
 cases o with
 | none=>simp
 | some u=>
  simp only
  split
  ·rename_i h
   exact⟨.inl,fun z=>z.elim id fun e=>by cases e;exact a8d.mp h⟩
  ·rw[u8,g8]
   exact⟨fun z=>z.imp id fun e=>by rw[e],fun z=>z.imp id fun e=>(Option.some.inj e).symm⟩
theorem c1x{o:Option (List Key)}(h:ks.Nodup):(a9p ks o).Nodup:=by
 unfold a9p
 cases o with
 | none=>exact h
 | some u=>
  simp only
  split
  ·exact h
  ·rename_i q
   rw[V0]
   exact⟨h,by simp,fun x hx y hy=>by rw[g8.mp hy];intro z;exact q (a8d.mpr (z ▸ hx))⟩
theorem b9b{o:Option (List Key)}:(a9p ks o).length<=ks.length+1:=by
 unfold a9p
 cases o with
 | none=>simp
 | some u=>
  simp only
  split
  ·omega
  ·simp
theorem b2V(D:Nat->Option (List Key)):∀n,(a2m D n).Nodup
 | 0=>by simp[a2m]
 | n+1=>by rw[a0X];exact c1x (b2V D n)
theorem a7k(D:Nat->Option (List Key)):∀n,(a2m D n).length<=n
 | 0=>by simp[a2m]
 | n+1=>by
  rw[a0X]
  have:=b9b (ks:=a2m D n) (o:=D n)
  have:=a7k D n
  omega
theorem b0j:∀n,i<n->D i=some k->k∈a2m D n
 | 0,h,_=>by omega
 | n+1,h,e=>by
  rw[a0X,b3b]
  by_cases q:i=n
  ·subst q;exact .inr e
  ·exact .inl (b0j n (by omega) e)
theorem c2d(ks:List (List Key))(g:List Key->V):(KM ks g).map (·.1)=ks:=by
 unfold KM
 rw[L8]
 exact(R3 fun _ _=>rfl).trans (a5S _)
theorem c5h:(KM ks g).length=ks.length:=by unfold KM;rw[b7]
theorem c5f(ks:List (List Key))(g:List Key->V)(k:List Key):a0w (KM ks g) k=if inK ks k=true then some (g k)else none:=by
 induction ks with
 | nil=>rfl
 | cons u ks ih=>
  unfold KM a0w at ih ⊢
  rw[E8,U7]
  by_cases e:u=k
  ·rw[show decide (((u,g u):List Key×V).1=k)=true from c8s e]
   subst e
   rw[if_pos (a8d.mpr D8)];rfl
  ·rw[show decide (((u,g u):List Key×V).1=k)=false from c8r e]
   refine ih.trans ?_
   have:inK (u::ks) k=inK ks k:=by unfold inK;rw[P3,c8r e,b3J]
   rw[this]
theorem c5g(ks:List (List Key))(g:List Key->V)(k:List Key)(v:V):Y2 (KM ks g) k v=KM (a9p ks (some k)) fun u=>if u=k then v else g u:=by
 unfold Y2
 rw[a2V,c5f]
 by_cases h:inK ks k=true
 ·rw[if_pos h,if_pos (show(some (g k)).isSome=true from rfl)]
  unfold a9p
  simp only[if_pos h]
  unfold KM
  rw[L8]
  apply R3
  intro u _
  show(if u=k then (u,v)else (u,g u))=(u,if u=k then v else g u)
  split <;> rfl
 ·rw[if_neg h,if_neg (by intro z;cases z)]
  unfold a9p
  simp only[if_neg h]
  unfold KM
  rw[D1]
  congr 1
  ·apply R3
   intro u hu
   show(u,g u)=(u,if u=k then v else g u)
   rw[if_neg fun z:u=k=>h (a8d.mpr (z ▸ hu))]
  ·simp
end
theorem c1R{K:Fg}(h:a5n H p)(n:Nat):Dq K H (n+1) (.ref p) (.ref p):=by
 obtain⟨kd,v1,v2,g,o1,o2,_⟩:=h
 refine .tup (SqT.of g) (SqT.of g) rfl fun j x y e1 e2=>?_
 rw[e1]at e2
 cases e2
 have m:=mI e1
 simp only[d5,o6,or_false]at m
 rcases m with rfl | rfl | rfl
 ·exact .flat rfl
 ·exact .flat o1.flat
 ·exact .flat o2.flat
theorem c3h{K:Fg}{x:Addr}{b:Bool}(h:a5N H (.ref x) b):Dq K H 2 (.ref x) (.ref x):=by
 obtain⟨p,xs,ep,hp,rS,_⟩:=h
 cases ep
 refine .tup (SqT.of hp) (SqT.of hp) rfl fun j u v e1 e2=>?_
 rw[e1]at e2
 cases e2
 have m:=mI e1
 cases rS with
 | set n p2 nm d2=>
  simp only[d5,o6,or_false]at m
  rcases m with rfl | rfl | rfl
  ·exact .flat rfl
  ·exact .flat rfl
  ·exact c1R d2 0
 | copy n w nm o=>
  simp only[d5,o6,or_false]at m
  rcases m with rfl | rfl | rfl
  ·exact .flat rfl
  ·exact .flat rfl
  ·exact .flat o.flat
 | take n nm=>
  simp only[d5,o6,or_false]at m
  rcases m with rfl | rfl <;> exact .flat rfl
 | tell w o=>
  simp only[d5,o6,or_false]at m
  rcases m with rfl | rfl
  ·exact .flat rfl
  ·exact .flat o.flat
 | ask w o=>
  simp only[d5,o6,or_false]at m
  rcases m with rfl | rfl
  ·exact .flat rfl
  ·exact .flat o.flat
 | skip=>
  simp only[d5,o6,or_false]at m
  rw[m];exact .flat rfl
theorem c0y{K:Fg}(hr:Q5 H a N)(ha:H a=some (.lst (rs.map V.ref)))(hb:H b=some (.lst (rs.map V.ref))):Dq K H 3 (.ref b) (.ref a):=by
 obtain⟨rs',r1,r2,r3⟩:=hr.ex
 obtain rfl:rs'=rs:=by
  rw[ha]at r1
  exact(T0 (f:=V.ref) (fun a b h=>V.ref.inj h) |>.mp (HO.lst.inj (Option.some.inj r1))).symm
 refine .lst (SqL.of hb) (SqL.of ha) rfl fun j x y f1 f2=>?_
 rw[f1]at f2
 cases f2
 rw[c9]at f1
 cases e:rs'[j]? with
 | none=>rw[e]at f1;cases f1
 | some z=>
  rw[e]at f1
  cases f1
  have hj:=(gI e)
  exact c3h (r3 j z _ e (I0 (by omega)))
theorem c4u{K:Fg}(ha:E6 H a N)(hb:E6 H b N):Dq K H 2 (.ref a) (.ref b):=by
 obtain⟨as,a1,a2,a3⟩:=ha.ex
 obtain⟨bs,b1,b2,b3⟩:=hb.ex
 refine .lst (SqL.of a1) (SqL.of b1) (by simp[a2,b2]) fun j x y f1 f2=>?_
 rw[c9]at f1 f2
 cases e1:as[j]? with
 | none=>rw[e1]at f1;cases f1
 | some u=>
  cases e2:bs[j]? with
  | none=>rw[e2]at f2;cases f2
  | some v=>
   rw[e1]at f1
   rw[e2]at f2
   cases f1
   cases f2
   have hj:=(gI e1)
   have hl:=I0 (show j<N.length by omega)
   refine .lst (SqL.of (a3 j u _ e1 hl)) (SqL.of (b3 j v _ e2 hl)) rfl fun i p q g1 g2=>?_
   rw[g1]at g2
   cases g2
   exact .flat (M3.mp (b5E _) _ (mI g1))
abbrev Al:=List (Str×V)
def KD(A:Al):List (Key×V):=A.map fun p=>(Sum.inr p.1,p.2)
def ndA(A:Al):Prop:=(A.map (·.1)).Nodup
def sbV(xs:List V):Option Str:=match xs with
 | .str k :: .str n::_=>if k=("set" : Str)\/k=("copy" : Str)\/k=("take" : Str)then some n else none
 | _=>none
def cpV(xs:List V):Option (Str×V):=match xs with
 | [.str k,.str n,v]=>if k=("copy" : Str)then some (n,v)else none
 | _=>none
def a4P(xs:List V)(n:Str)(v:V):Bool:=decide (cpV xs=some (n,v))
def a9M(xs:List V)(n:Str)(v:V):Bool := !a4P xs n v&&match sbV xs with
 | some m=>decide (m=n)||decide (v=.str m)
 | none=>false
abbrev UnC(N:Nt)(RC:Nat->List V)(n:Str)(v:V)(t:Nat):Prop:=UnR N (fun i=>a4P (RC i) n v) (fun i=>a9M (RC i) n v) t
section
variable {A B M:Al}{n:Str}
theorem b9N:(KD A).length=A.length:=by unfold KD;rw[b7]
theorem b5D{p:Str×V}:KD (p::A)=(Sum.inr p.1,p.2)::KD A:=rfl
theorem b9L(nd:ndA A):a0w (KD A) (Sum.inr n)=some v↔(n,v)∈A:=by
 induction A with
 | nil=>constructor <;> intro h <;> cases h
 | cons p A ih=>
  obtain⟨n1,n2⟩:=F0.mp nd
  rw[b5D]
  by_cases e:p.1=n
  ·rw[a2U (by rw[e])]
   constructor
   ·intro h
    cases h
    rw[<-e]
    exact D8 ..
   ·intro h
    rcases d5.mp h with z | z
    ·rw[<-z]
    ·exact(n1 (A2.mpr ⟨_,z,e.symm⟩)).elim
  ·rw[a2c (by intro z;exact e (Sum.inr.inj z)),ih n2]
   exact⟨fun h=>A9 _ h,fun h=>(d5.mp h).elim (fun z=>(e (by rw[<-z])).elim) id⟩
theorem b9M(h:∀v,(n,v)∉A):Y2 (KD A) (Sum.inr n) v=KD (A++[(n,v)]):=by
 unfold Y2
 rw[if_neg]
 ·unfold KD
  rw[D1];rfl
 ·rw[a0l]
  rintro⟨q,hq,e⟩
  obtain⟨p,hp,rfl⟩:=A2.mp hq
  have e:=Sum.inr.inj (of_decide_eq_true e)
  exact h p.2 (by rw[<-e];exact hp)
theorem b8Z(nd:ndA A)(h:∀v,(n,v)∉A):ndA (A++[(n,v)]):=by
 unfold ndA
 rw[D1,V0]
 refine⟨nd,by simp,fun a ha b hb e=>?_⟩
 obtain⟨p,hp,rfl⟩:=A2.mp ha
 simp at hb
 exact h p.2 (by rw[<-hb,<-e];exact hp)
theorem b1o:∀(l m:List Str),l.Nodup->(∀x∈l,x∈m)->l.length<=m.length
 | [],m,_,_=>J7 _
 | x::l,m,nd,h=>by
  obtain⟨n1,n2⟩:=F0.mp nd
  have hx:=h x (D8 ..)
  have:=b1o l (m.erase x) n2 fun y hy=>(b7f (fun e=>n1 (by rw[<-e];exact hy))).mpr (h y (A9 _ hy))
  rw[a3N hx]at this
  have:=a4N hx
  rw[C0]
  omega
end
structure StI(N:Nt)(RC:Nat->List V)(S:Nat->Option Al):Prop where
 z:S 0=some []
 nd:∀t A,S t=some A->ndA A
 cp:∀t A,S t=some A->∀n v,v≠.str n->¬UnC N RC n v t->(n,v)∈A
 src:∀t A,S t=some A->∀p∈A,p.2≠.str p.1/\∃i,i<N.length/\cpV (RC i)=some p
section
variable {S:Nat->Option Al}{A A1 At M:Al}{k t:Nat}
end
def FlA(A:Al):Prop:=∀p∈A,OpN p.2
def nmV(o:Option Str):V:=match o with
 | some s=>.str s
 | none=>.non
theorem c4s(o:Option Str):nmV o=.non\/∃s,nmV o=.str s:=by
 cases o with
 | none=>exact .inl rfl
 | some s=>exact .inr ⟨s,rfl⟩
section
theorem c6j{w:V}(h:OpN v)(g:OpN w):eqO v w H=some (decide (v=w)):=by
 unfold eqO
 rw[if_pos (by rcases h with ⟨s,rfl,_⟩ | ⟨n,rfl,_⟩ <;> rcases g with ⟨u,rfl,_⟩ | ⟨m,rfl,_⟩ <;> rfl)]
theorem c3q{l:Addr}{s:Str}(h:H l=some (.lst (ss.map V.str)))(k:Q (.bl (decide (s∈ss))) H):qIn false (.str s) (.ref l) H Q:=by
 have e:inV (.str s) (ss.map V.str)=decide (s∈ss):=by
  unfold inV
  rw[O0,a0l,decide_eq_true_iff]
  constructor
  ·rintro⟨z,hz,e⟩
   obtain⟨u,hu,rfl⟩:=A2.mp hz
   have:u=s:=by simpa[eqV]using e
   rw[<-this];exact hu
  ·intro h
   exact⟨_,A2.mpr ⟨s,h,rfl⟩,by simp[eqV]⟩
 unfold qIn
 simp only[h]
 refine⟨rfl,?_,?_⟩
 ·rw[M3]
  intro x hx
  obtain⟨u,_,rfl⟩:=A2.mp hx
  rfl
 ·rw[e];exact k
def a3J(H:Hp)(rs:List Addr)(RC:Nat->List V):Prop:=∀(i:Nat) p,rs[i]? = some p->b4Z H p (RC i)
theorem a3J.ts(h:a3J H rs RC)(t:J1 H H'):a3J H' rs RC:=fun i p e=>(h i p e).ts t
end
def c1F(v:V):Key:=match v with
 | .str s=>Sum.inr s
 | .int i=>Sum.inl i
 | _=>Sum.inl 0
abbrev cpK(n:Str)(v:V):List Key:=[Sum.inr ("copy" : Str),Sum.inr n,c1F v]
def ckD(RC:Nat->List V)(i:Nat):Option (List Key):=match cpV (RC i)with
 | some (n,v)=>if v=.str n then none else some (cpK n v)
 | none=>none
section
variable {K:Fg}{x:Addr}{n:Str}{E:XK}
theorem a8b(h:OpN v):kV (c1F v)=v:=by rcases h with ⟨s,rfl,_⟩ | ⟨i,rfl,_⟩ <;> rfl
theorem a6R(hr:b4Z H p xs)(k:∀H',t9 H H'->Q (nmV (sbV xs)) H'):a1P K [.ref p] H Q E:=by
 obtain⟨hp,rS⟩:=id hr
 refine⟨rfl,?_⟩
 unfold b2s
 obtain⟨k0,r,rfl⟩:=rS.head
 ext
 exists C3 hp (U0 _ _) ?_
 refine E3 (by simp) fun l H1 hl e1 s1=>?_
 refine a5h e1 rfl rfl ?_
 refine⟨_,rfl,?_⟩
 have hp1:=s1 _ _ hp
 have k1:=k H1 s1
 cases rS with
 | set n p2 nm d2=>
  exists D9 (by decide +kernel) ?_
  exact C3 hp1 (a0Z _ _ _) k1
 | copy n v nm o=>
  exists D9 (by decide +kernel) ?_
  exact C3 hp1 (a0Z _ _ _) k1
 | take n nm=>
  exists D9 (by decide +kernel) ?_
  exact C3 hp1 (a0Z _ _ _) k1
 | tell v o=>
  exists v4 (by decide +kernel) ?_
  rw[show sbV [.str "tell",v]=none by rcases o with ⟨s,rfl,_⟩ | ⟨i,rfl,_⟩ <;> rfl]at k1
  exact k1
 | ask v o=>
  exists v4 (by decide +kernel) ?_
  rw[show sbV [.str "ask",v]=none by rcases o with ⟨s,rfl,_⟩ | ⟨i,rfl,_⟩ <;> rfl]at k1
  exact k1
 | skip=>
  exists v4 (by decide +kernel) ?_
  exact k1
theorem c4Q{w:V}(h:OpN v)(g:OpN w):eqV v w=decide (v=w):=by
 rcases h with ⟨s,rfl,_⟩ | ⟨i,rfl,_⟩ <;> rcases g with ⟨u,rfl,_⟩ | ⟨m,rfl,_⟩ <;> first | rfl | (rw[O0];simp[eqV])
theorem b1A{s u:Str}:eqV (.str s) (.str u)=decide (s=u):=by rw[O0];simp[eqV]
theorem b8m(rS:a3O H xs)(o:OpN v):a8N xs [.str "copy",.str n,v]=a4P xs n v:=by
 have first:∀ {k0:Str} {r:List V},k0≠("copy" : Str)->a8N (.str k0::r) [.str "copy",.str n,v]=false:=fun {k0 r} h=>by
  unfold a8N
  rw[Bool.and_eq_false_iff]
  left
  rw[List.all_eq_false]
  refine⟨0,a1g.mpr (by simp;omega),?_⟩
  show ¬eqP (.str k0) (.str "copy")=true
  unfold eqP
  rw[if_pos (show K7 (V.str k0)=true from rfl),b1A]
  simpa using h
 unfold a4P
 cases rS with
 | copy m w nm ow=>
  show a8N [.str "copy",.str m,w] [.str "copy",.str n,v]=decide (some (m,w)=some (n,v))
  unfold a8N
  rw[show min [V.str "copy",.str m,w].length [V.str "copy",.str n,v].length=3 from rfl,show E7 3=[0,1,2] from rfl]
  simp only[W2,b5G,c6A]
  show(eqP (.str "copy") (.str "copy")&&(eqP (.str m) (.str n)&&eqP w v)&&_)=_
  unfold eqP
  rw[if_pos (show K7 (V.str _)=true from rfl),if_pos (show K7 (V.str _)=true from rfl),if_pos ow.flat,b1A,b1A,c4Q ow o]
  by_cases e1:m=n <;> by_cases e2:w=v <;> simp[e1,e2]
 | set m p2 nm d2=>rw[first (by decide)];rfl
 | take m nm=>rw[first (by decide)];rfl
 | tell w ow=>rw[first (by decide),show cpV [.str "tell",w]=none by rcases ow with ⟨s,rfl,_⟩ | ⟨i,rfl,_⟩ <;> rfl];rfl
 | ask w ow=>rw[first (by decide),show cpV [.str "ask",w]=none by rcases ow with ⟨s,rfl,_⟩ | ⟨i,rfl,_⟩ <;> rfl];rfl
 | skip=>rw[first (by decide)];rfl
theorem b8l(rS:a3O H xs):∀z∈xs,c2a H z:=by
 intro z hz
 cases rS with
 | set m p2 nm d2=>
  simp only[d5,o6,or_false]at hz
  obtain⟨k,a,b,h,_⟩:=d2
  rcases hz with rfl | rfl | rfl
  ·exact .inl rfl
  ·exact .inl rfl
  ·exact .inr ⟨_,_,rfl,h⟩
 | copy m w nm o=>
  simp only[d5,o6,or_false]at hz
  rcases hz with rfl | rfl | rfl
  ·exact .inl rfl
  ·exact .inl rfl
  ·exact .inl o.flat
 | take m nm=>
  simp only[d5,o6,or_false]at hz
  rcases hz with rfl | rfl <;> exact .inl rfl
 | tell w o=>
  simp only[d5,o6,or_false]at hz
  rcases hz with rfl | rfl
  ·exact .inl rfl
  ·exact .inl o.flat
 | ask w o=>
  simp only[d5,o6,or_false]at hz
  rcases hz with rfl | rfl
  ·exact .inl rfl
  ·exact .inl o.flat
 | skip=>
  simp only[d5,o6,or_false]at hz
  rw[hz];exact .inl rfl
theorem b1E(ck:a3D K c)(hp:a5m c H x N rs)(h400:N.length<=400)(hr:a3J H rs RC)
  (k:∀l bs H',H' l=some (.lst ((bs:List Addr).map V.ref))->b9I H' bs (a2m (ckD RC) N.length)->H l=none->t9 H H'->Q (.ref l) H'):a1G K [.ref x] H Q E:=by
 obtain⟨dx,fs,n0,r,h1,h2,h3,h4,h5,h6⟩:=hp.ex
 refine⟨rfl,?_⟩
 unfold a7B
 nofun
 intro fd hfd
 have s1:t9 H (upd H fd (.dT [])):=A0 hfd
 obtain⟨H1,hH1⟩:∃H1,H1=upd H fd (.dT []):=⟨_,rfl⟩
 have e1:H1 fd=some (.dT (KM (a2m (ckD RC) 0) fun _=>.bl true)):=hH1 ▸ d6
 rw[<-hH1]at s1 ⊢
 ext
 exact_mod_cast U4 ?_
 specialize a0c (R8 ?_)
 specialize a1y ?_
 refine⟨x,_,dx,_,.ref r,rfl,s1 _ _ h1,ck.L7,ck.K9,h4,?_⟩
 refine⟨r,rfl,⟨_,SqL.of (s1 _ _ h5)⟩,a1m (xs:=rs.map V.ref) (fun i σ H2=>∃y2,σ=[some (.ref x),some (.ref fd),y2]/\H2 fd=some (.dT (KM (a2m (ckD RC) i) fun _=>.bl true))/\t9 H H2) ⟨_,rfl,e1,s1⟩ ?_ ?_ ?_⟩
 ·rintro i σ H2 _ ⟨_,_,_,s2⟩
  exact SqL.of (s2 _ _ h5)
 ·rintro i v _ H2 hv ⟨y2,rfl,e2,s2⟩
  rw[c9]at hv
  obtain⟨p,hp',rfl⟩:=z8.mp hv
  have hi:=(gI hp')
  obtain⟨hx,rS⟩:=(hr i p hp').ts (t9.ts s2)
  have ln:=a7k (ckD RC) i
  have skip:ckD RC i=none->∃y2,[some (V.ref x),some (.ref fd),some (.ref p)]=[some (.ref x),some (.ref fd),y2]/\H2 fd=some (.dT (KM (a2m (ckD RC) (i+1)) fun _=>.bl true))/\t9 H H2:=fun z=>⟨_,rfl,by rw[a0X,z];exact e2,s2⟩
  generalize hxs:RC i=xs at hx rS
  have cd:ckD RC i=match cpV xs with
   | some (n,v)=>if v=.str n then none else some (cpK n v)
   | none=>none:=by unfold ckD;rw[hxs]
  obtain⟨k0,r0,rfl⟩:=rS.head
  ext
  exists C3 hx (U0 _ _) ?_
  cases rS with
  | copy n v nm o=>
   exists D9 (by decide) ?_
   exists C3 hx (a0Z _ _ _) ?_
   refine C3 hx (a4T _ _ _ _) ?_
   have cd:ckD RC i=if v=.str n then none else some (cpK n v):=cd
   refine⟨_,c6j (.inl ⟨n,rfl,nm⟩) o,?_⟩
   refine⟨_,rfl,?_⟩
   by_cases z:v=.str n
   ·exists v4 (by rw[c8s (show V.str n=v from z.symm)];rfl) ?_
    exact skip (by rw[cd,if_pos z])
   ·refine D9 (by rw[c8r (show ¬V.str n=v from fun q=>z q.symm)];rfl) ?_
    rw[if_neg z]at cd
    specialize a2i ?_
    have hk:H2 p=some (.tup ((cpK n v).map kV)):=by
     rw[hx]
     show _=some (HO.tup [.str "copy",.str n,kV (c1F v)])
     rw[a8b o]
    refine⟨fd,_,rfl,a4W.t e2 hk (F9 (by rw[c5h];omega)),?_⟩
    refine⟨_,rfl,?_,fun b o q=>by rw[l7 (d9 q hfd)];exact s2 _ _ q⟩
    rw[d6,c5g,a0X,cd]
    exact congrArg (fun g=>some (HO.dT (KM _ g))) (funext fun u'=>by split <;> rfl)
  | set n p2 nm d2=>
   refine v4 (by decide) ?_
   exists v4 rfl ?_
   exact skip cd
  | take n nm=>
   refine v4 (by decide) ?_
   exists v4 rfl ?_
   exact skip cd
  | tell v o=>
   refine v4 (by decide) ?_
   exists v4 rfl ?_
   exact skip (by rw[cd,show cpV [.str "tell",v]=none by rcases o with ⟨s,rfl,_⟩ | ⟨i,rfl,_⟩ <;> rfl])
  | ask v o=>
   refine v4 (by decide) ?_
   exists v4 rfl ?_
   exact skip (by rw[cd,show cpV [.str "ask",v]=none by rcases o with ⟨s,rfl,_⟩ | ⟨i,rfl,_⟩ <;> rfl])
  | skip=>
   refine v4 (by decide) ?_
   exists v4 rfl ?_
   exact skip cd
 ·rintro _ H2 ⟨y2,rfl,e2,s2⟩
  rw[b7,h6]at e2
  ext
  refine⟨fd,_,rfl,e2,fun bs kb l hl=>?_⟩
  rw[c2d]at kb
  have s3:t9 H2 (upd H2 l (.lst (bs.map V.ref))):=A0 hl
  exact k l bs _ d6 ⟨kb.1,fun i b k a1 a2=>s3 _ _ (kb.2 i b k a1 a2)⟩ (s2.free hl) (s2.trans s3)
theorem c4N(o:Option Str)(ov:OpN v):inV (nmV o) [.str n,v]=match o with
  | some m=>decide (m=n)||decide (v=.str m)
  | none=>false:=by
 unfold inV
 rw[P3,P3,List.any_nil,c6z]
 cases o with
 | none=>rcases ov with ⟨s,rfl,_⟩ | ⟨i,rfl,_⟩ <;> rfl
 | some m=>
  show(eqV (.str n) (.str m)||eqV v (.str m))=(decide (m=n)||decide (v=.str m))
  rw[b1A]
  congr 1
  ·exact decide_eq_decide.mpr eq_comm
  ·rcases ov with ⟨s,rfl,_⟩ | ⟨i,rfl,_⟩ <;> first | rfl | (rw[O0];simp[eqV])
theorem a6n(ck:a3D K c)(hp:a5m c H x N rs)(hv:a0t N)(hr:a3J H rs RC)(hb:H b=some (.tup [.str "copy",.str n,v]))(o:OpN v)
  (k:∀d H' S kvs,CbK K H' d N (fun i=>a4P (RC i) n v) (fun i=>a9M (RC i) n v) S kvs->(∀t,t∈S↔UnC N RC n v t)->t9 H H'->Q (.ref d) H'):X5 K c [.ref x,.ref b] H Q E:=by
 have h400:=hv.le
 obtain⟨dx,fs,n0,r,h1,h2,h3,h4,h5,h6⟩:=hp.ex
 have fb:([.str "copy",.str n,v]:List V).all K7=true:=by
  rw[W2,W2,W2,o.flat];rfl
 have bl:∀(f:Nat->Bool) (i:Nat),BL i f++[V.bl (f i)]=BL (i+1) f:=fun f i=>by unfold BL;rw[a2p,D1];rfl
 refine⟨rfl,?_⟩
 unfold a2W
 exact_mod_cast U4 ?_
 refine a8H ?_
 exact_mod_cast V8 (R8 ?_)
 specialize a1y ?_
 refine⟨x,_,dx,_,.ref r,rfl,h1,ck.L7,ck.K9,h4,?_⟩
 refine⟨r,rfl,⟨_,SqL.of h5⟩,fun ma hma=>?_⟩
 refine T7 (xs:=rs.map V.ref) (fun i ys H4=>ys=BL i (fun i=>a4P (RC i) n v)/\H4 ma=some (.lst ys)/\t9 H H4) ⟨rfl,d6,A0 hma⟩ ?_ ?_ ?_ ?_
 ·rintro i ys H4 ⟨_,h,_⟩
  exact h
 ·rintro i ys H4 _ ⟨_,_,s4⟩
  exact SqL.of (s4 _ _ h5)
 ·rintro i y ys H4 hy ⟨rfl,hd,s4⟩ R hR
  rw[c9]at hy
  obtain⟨p,hp',rfl⟩:=z8.mp hy
  have hi:=(gI hp')
  obtain⟨hx,rS⟩:=(hr i p hp').ts (t9.ts s4)
  ext
  refine⟨p,b,_,_,rfl,rfl,hx,s4 _ _ hb,b8l rS,fb,?_⟩
  rw[b8m rS o]
  refine hR _ _ hd (F9 (by rw[b9Q];omega)) ⟨bl _ i,d6,fun b o e=>by rw[l7 (d9 e hma)];exact s4 _ _ e⟩
 rintro ys H1 ⟨rfl,m1,s1⟩
 rw[b7,h6]at m1
 ext
 exact_mod_cast U4 ?_
 refine a8H ?_
 exact_mod_cast V8 (R8 ?_)
 specialize a1y ?_
 refine⟨x,_,dx,_,.ref r,rfl,s1 _ _ h1,ck.L7,ck.K9,h4,?_⟩
 refine⟨r,rfl,⟨_,SqL.of (s1 _ _ h5)⟩,fun ba hba=>?_⟩
 refine T7 (xs:=rs.map V.ref) (fun i ys H4=>ys=BL i (fun i=>a9M (RC i) n v)/\H4 ba=some (.lst ys)/\t9 H1 H4) ⟨rfl,d6,A0 hba⟩ ?_ ?_ ?_ ?_
 ·rintro i ys H4 ⟨_,h,_⟩
  exact h
 ·rintro i ys H4 _ ⟨_,_,s4⟩
  exact SqL.of (s4 _ _ (s1 _ _ h5))
 ·rintro i y ys H4 hy ⟨rfl,hd,s4⟩ R hR
  rw[c9]at hy
  obtain⟨p,hp',rfl⟩:=z8.mp hy
  have hi:=(gI hp')
  have s04:=s1.trans s4
  have rx:=(hr i p hp').ts (t9.ts s04)
  obtain⟨hx,rS⟩:=id rx
  have fin:∀ {w:Bool} {H5:Hp},a9M (RC i) n v=w->t9 H4 H5->R (.bl w) H5:=fun {w H5} e s5=>by
   subst e
   exact hR _ _ (s5 _ _ hd) (F9 (by rw[b9Q];omega)) ⟨bl _ i,d6,fun b o e=>by rw[l7 (d9 e hba)];exact s5 _ _ (s4 _ _ e)⟩
  ext
  refine⟨p,b,_,_,rfl,rfl,hx,s04 _ _ hb,b8l rS,fb,?_⟩
  rw[b8m rS o]
  ext
  cases hz:a4P (RC i) n v with
  | true=>
   refine v4 rfl ?_
   exact fin (by unfold a9M;rw[hz];rfl) (t9.refl _)
  | false=>
   exists D9 rfl ?_
   exists a6R rx fun H5 s5=>?_
   refine b8t (s5 _ _ (s04 _ _ hb)) (a8X _ _) fun q H6 hq e6 s6=>?_
   rw[c1T]at e6
   refine a5h e6 (by rcases c4s (sbV (RC i))with z | ⟨u,z⟩ <;> rw[z] <;> rfl) (by rw[W2,W2,o.flat];rfl) ?_
   rw[c4N _ o]
   exact fin (by unfold a9M;rw[hz];rfl) (s5.trans s6)
 rintro ys H2 ⟨rfl,b2,s2⟩
 rw[b7,h6]at b2
 ext
 have s02:=s1.trans s2
 refine a6M ck (hp.same s02) hv (s2 _ _ m1) b2 fun d H3 S kvs cb sh s3=>?_
 refine k d H3 S kvs cb (fun t=>⟨fun ht=>?_,b3R (mI cb.z) sh t⟩) (s02.trans s3)
 obtain⟨i,hi⟩:=G5.mp ht
 exact b7E cb i t hi
theorem b9w{k:List Key}(hr:a3J H rs RC)(lrs:rs.length=N.length)(hi:i<N.length)(h:ckD RC i=some k):∃n v,k=cpK n v/\OpN v/\NmS n/\v≠.str n/\cpV (RC i)=some (n,v):=by
 obtain⟨rx,hrx⟩:∃rx,rs[i]? = some rx:=⟨_,d8 (by omega)⟩
 obtain⟨hx,rS⟩:=hr i rx hrx
 unfold ckD at h
 generalize hxs:RC i=xs at hx rS h
 cases rS with
 | copy n v nm o=>
  have h:(if v=.str n then none else some (cpK n v))=some k:=h
  split at h
  ·cases h
  ·rename_i z
   cases h
   exact⟨n,v,rfl,o,nm,z,rfl⟩
 | set n p2 nm d2=>cases h
 | take n nm=>cases h
 | tell v o=>rw[show cpV [.str "tell",v]=none by rcases o with ⟨s,rfl,_⟩ | ⟨i,rfl,_⟩ <;> rfl]at h;cases h
 | ask v o=>rw[show cpV [.str "ask",v]=none by rcases o with ⟨s,rfl,_⟩ | ⟨i,rfl,_⟩ <;> rfl]at h;cases h
 | skip=>cases h
theorem a7n{D:Nat->Option (List Key)}{k:List Key}:∀m,k∈a2m D m->∃i,i<m/\D i=some k
 | 0,h=>nomatch h
 | m+1,h=>by
  rw[a0X]at h
  rcases b3b.mp h with z | z
  ·obtain⟨i,a,b⟩:=a7n m z
   exact⟨i,by omega,b⟩
  ·exact⟨m,by omega,z⟩
end
section
variable {K:Fg}{PL:List Str}{n:Str}{E:XK}
theorem c1z(ck:a3D K c)(hra:H ra=some (.lst (rs.map V.ref)))(hR:Q5 H ra N)(hT:E6 H na N)(hv:a0t N)
  (k:∀x Z H',a2n K c Z rs H' x N->t9 H H'->Q (.ref x) H'):a7X K c [.ref ra,.ref na] H Q E:=by
 refine⟨rfl,?_⟩
 unfold b7M
 exact_mod_cast c2u ?_
 specialize b8d ?_
 exists a4J hra fun ra' H8 hra' e8 s8=>?_
 exists b4V (hT.same s8) hv.le rfl fun na' H9 T9 s9=>?_
 intro x dx hx hdx hne
 have sm:t9 H9 (upd (upd H9 dx (.own x)) x (.ins c.M7 dx [])):=fun b o e=>by
  rw[l7 (d9 e hx),l7 (d9 e hdx)];exact e
 obtain⟨H10,hH10⟩:∃H10,H10=upd (upd H9 dx (.own x)) x (.ins c.M7 dx []):=⟨_,rfl⟩
 have x10:H10 x=some (.ins c.M7 dx []):=hH10 ▸ d6
 rw[<-hH10]at sm ⊢
 have s59:=s8.trans s9
 have s510:=s59.trans sm
 have R9:Q5 H9 ra' N:=by
  obtain⟨rs',q1,q2,q3⟩:=id (hR.same s59).ex
  rw[s59 _ _ hra]at q1
  obtain rfl:rs'=rs:=(T0 (f:=V.ref) (fun a b h=>V.ref.inj h) |>.mp (HO.lst.inj (Option.some.inj q1))).symm
  exact⟨rs',s9 _ _ e8,q2,q3⟩
 refine a6m (E:=E0) ck (sm _ _ (s9 _ _ e8)) (R9.same sm) (T9.same sm) hv x10 fun H11 pz old=>⟨rfl,?_⟩
 exact k x _ H11 pz fun b o e=>old b o (s510 _ _ e) (d9 (s59 _ _ e) hx)
theorem a8M(hR:Q5 H ra N)(hra:H ra=some (.lst (rs.map V.ref))):∃RC,a3J H rs RC:=by
 obtain⟨rs',r1,r2,r3⟩:=hR.ex
 obtain rfl:rs'=rs:=by
  rw[hra]at r1
  exact(T0 (f:=V.ref) (fun a b h=>V.ref.inj h) |>.mp (HO.lst.inj (Option.some.inj r1))).symm
 refine⟨fun i=>match rs'[i]? with
  | some p=>(match H p with
   | some (.tup xs)=>xs
   | _=>[])
  | none=>[],fun i p hp=>?_⟩
 have hi:=(gI hp)
 obtain⟨xs,hx⟩:=(r3 i p _ hp (I0 (by omega))).x
 simp only[hp,hx.1]
 exact hx
end
structure KnI(N:Nt)(RC:Nat->List V)(ks:List (List Key))(m t:Nat)(A:Al):Prop where
 nd:ndA A
 le:A.length<=m
 mem:∀n v,(n,v)∈A↔OpN v/\(∃i,i<m/\ks[i]? = some (cpK n v))/\¬UnC N RC n v t
def SmX(ds:List Addr)(H H':Hp):Prop:=∀b o,H b=some o->b∉ds->H' b=some o
section
variable {K:Fg}{x:Addr}{n:Str}{w:V}{ks:List (List Key)}{t:Nat}{A:Al}{E:XK}
theorem b8Y{α:Type}{l:List α}{a:α}(h:l.Nodup)(h1:l[i]? = some a)(h2:l[j]? = some a):i=j:=(c2i (gI h1) h).mp (h1.trans h2.symm)
theorem c6x(h:cpV xs=some (n,v)):sbV xs=some n:=by
 unfold cpV at h
 split at h
 ·rename_i k n' v'
  split at h
  ·rename_i e
   cases h
   unfold sbV
   exact if_pos (.inr (.inl e))
  ·cases h
 ·cases h
theorem c0j(r:Rc N t)(h:¬UnC N RC n v t):∃i,i<N.length/\cpV (RC i)=some (n,v):=by
 induction r with
 | zero=>exact(h .zero).elim
 | @step p t l _ hl ht ih=>
  by_cases d:a4P (RC p) n v=true
  ·exact⟨p,(gI hl),of_decide_eq_true d⟩
  ·exact ih fun z=>h (.step z (by simpa using d) hl ht)
theorem b7F(r:Rc N t)(h1:¬UnC N RC n v t)(h2:¬UnC N RC n w t):v=w:=by
 induction r with
 | zero=>exact(h1 .zero).elim
 | @step p t l _ hl ht ih=>
  have one:∀ {v w:V},a4P (RC p) n v=true->¬a4P (RC p) n w=true->¬UnC N RC n w t->False:=fun {v w} a b hw=>by
   refine hw (.spoil hl ht ?_)
   unfold a9M
   rw[c6x (of_decide_eq_true a),show a4P (RC p) n w=false by simpa using b]
   simp
  by_cases d1:a4P (RC p) n v=true
  ·by_cases d2:a4P (RC p) n w=true
   ·have a:=of_decide_eq_true d1
    rw[of_decide_eq_true d2]at a
    cases a
    rfl
   ·exact(one d1 d2 h2).elim
  ·by_cases d2:a4P (RC p) n w=true
   ·exact(one d2 d1 h1).elim
   ·exact ih (fun z=>h1 (.step z (by simpa using d1) hl ht)) fun z=>h2 (.step z (by simpa using d2) hl ht)
theorem b1D{n':Str}(o:OpN v)(o':OpN w)(e:cpK n v=cpK n' w):n=n'/\v=w:=by
 simp only[List.cons.injEq,and_true,true_and]at e
 exact⟨Sum.inr.inj e.1,by rw[<-a8b o,<-a8b o',e.2]⟩
theorem KnI.skip(h:KnI N RC ks m t A)(hk:ks[m]? = some (cpK n v))(o:OpN v)(un:UnC N RC n v t):KnI N RC ks (m+1) t A:=by
 refine⟨h.nd,by have:=h.le;omega,fun n' v'=>(h.mem n' v').trans ⟨fun⟨a,⟨i,b,c⟩,d⟩=>⟨a,⟨i,by omega,c⟩,d⟩,fun⟨a,⟨i,b,c⟩,d⟩=>⟨a,⟨i,?_,c⟩,d⟩⟩⟩
 by_cases q:i=m
 ·rw[q,hk]at c
  obtain⟨rfl,rfl⟩:=b1D o a (Option.some.inj c)
  exact(d un).elim
 ·omega
theorem KnI.put(h:KnI N RC ks m t A)(hk:ks[m]? = some (cpK n v))(o:OpN v)(un:¬UnC N RC n v t)(r:Rc N t)(nk:ks.Nodup):(∀w,(n,w)∉A)/\KnI N RC ks (m+1) t (A++[(n,v)]):=by
 have no:∀w,(n,w)∉A:=fun w hw=>by
  obtain⟨_,⟨i,a,b⟩,d⟩:=(h.mem n w).mp hw
  obtain rfl:=b7F r un d
  have:=b8Y nk b hk
  omega
 refine⟨no,b8Z h.nd no,by rw[p5];have:=h.le;simp;omega,fun n' v'=>?_⟩
 rw[u8,g8,h.mem]
 constructor
 ·rintro(⟨a,⟨i,b,c⟩,d⟩ | e)
  ·exact⟨a,⟨i,by omega,c⟩,d⟩
  ·cases e
   exact⟨o,⟨m,by omega,hk⟩,un⟩
 ·rintro⟨a,⟨i,b,c⟩,d⟩
  by_cases q:i=m
  ·rw[q,hk]at c
   obtain⟨rfl,rfl⟩:=b1D o a (Option.some.inj c)
   exact .inr rfl
  ·exact .inl ⟨a,⟨i,by omega,c⟩,d⟩
theorem a6o(ck:a3D K c)(hp:a5m c H x N rs)(hv:a0t N)(hr:a3J H rs RC)
  (k:∀l ds (A:Nat->Al) H',H' l=some (.lst ((ds:List Addr).map V.ref))->ds.length=N.length->(∀(t:Nat) d,ds[t]? = some d->H' d=some (.dK (KD (A t))))->(∀t,t<N.length->ndA (A t)/\FlA (A t)/\∀n v,(n,v)∈A t↔v≠.str n/\¬UnC N RC n v t)->t9 H H'->Q (.ref l) H'):X6 K c [.ref x] H Q E:=by
 have h400:=hv.le
 obtain⟨dx,fs,n0,r,h1,h2,h3,h4,h5,h6⟩:=id hp.ex
 refine⟨rfl,?_⟩
 unfold a2X
 exact_mod_cast U4 ?_
 refine a8H ?_
 exact_mod_cast V8 (R8 ?_)
 specialize a1y ?_
 refine⟨x,_,dx,_,.ref r,rfl,h1,ck.L7,ck.K9,h4,?_⟩
 refine⟨r,rfl,⟨_,SqL.of h5⟩,fun fl hfl=>?_⟩
 refine T7 (xs:=rs.map V.ref) (fun i ys H4=>∃ds:List Addr,ys=ds.map V.ref/\ds.length=i/\ds.Nodup/\(∀d∈ds,H4 d=some (.dK [])/\H d=none)/\H4 fl=some (.lst ys)/\t9 H H4) ⟨[],rfl,rfl,a2O,by simp,d6,A0 hfl⟩ ?_ ?_ ?_ ?_
 ·rintro i ys H4 ⟨_,_,_,_,_,h,_⟩
  exact h
 ·rintro i ys H4 _ ⟨_,_,_,_,_,_,s4⟩
  exact SqL.of (s4 _ _ h5)
 ·rintro i y ys H4 hy ⟨ds,rfl,rfl,nds,dds,hd,s4⟩ R hR
  have hi:=(gI hy)
  rw[b7,h6]at hi
  refine a8L fun d H5 hd5 e5 s5=>?_
  have n5:d∉ds:=fun z=>by rw[(dds d z).1]at hd5;cases hd5
  refine hR _ _ (s5 _ _ hd) (F9 (by rw[b7];omega)) ⟨ds++[d],by simp,by simp,V0.mpr ⟨nds,by simp,fun a ha b hb e=>n5 (by rw[<-g8.mp hb,<-e];exact ha)⟩,fun u hu=>?_,d6,fun b o e=>by rw[l7 (d9 e hfl)];exact s5 _ _ (s4 _ _ e)⟩
  rcases u8.mp hu with z | z
  ·rw[l7 (L6 (dds u z).1 hd (by intro z;cases z))]
   exact⟨s5 _ _ (dds u z).1,(dds u z).2⟩
  ·rw[g8.mp z,l7 (L6 e5 (s5 _ _ hd) (by intro z;cases z))]
   exact⟨e5,s4.free hd5⟩
 rintro ys H1 ⟨ds,rfl,lds,nds,dds,efl,s1⟩
 rw[b7,h6]at lds
 ext
 exact_mod_cast U4 ?_
 specialize a0c (R8 ?_)
 refine b1E ck (hp.same s1) h400 (hr.ts (t9.ts s1)) fun l bs H2 e2 kb hl s2=>?_
 have dd2:∀d∈ds,H2 d=some (.dK []):=fun d hd=>s2 _ _ (dds d hd).1
 have out:∀ {a:Addr} {o:HO},H2 a=some o->(∀kvs,o≠.dK kvs)->a∉ds:=fun {a o} e q z=>by
  rw[dd2 a z]at e
  cases e
  exact q _ rfl
 have outH:∀ {a:Addr} {o:HO},H a=some o->a∉ds:=fun {a o} e z=>by
  rw[(dds a z).2]at e
  cases e
 have s02:=s1.trans s2
 have sH:∀ {Hx:Hp},SmX ds H2 Hx->t9 H Hx:=fun sx b o e=>sx b o (s02 _ _ e) (outH e)
 obtain⟨ks,hks⟩:∃ks,ks=a2m (ckD RC) N.length:=⟨_,rfl⟩
 have nk:ks.Nodup:=hks ▸ b2V (ckD RC) N.length
 have lk:ks.length<=400:=by rw[hks];have:=a7k (ckD RC) N.length;omega
 rw[<-hks]at kb
 refine⟨l,rfl,⟨_,SqL.of e2⟩,a1m (xs:=bs.map V.ref) (fun j σ Hx=>∃y2 y3 y4,∃A:Nat->Al,σ=[some (.ref x),some (.ref fl),y2,y3,y4]/\SmX ds H2 Hx/\(∀(t:Nat) d,ds[t]? = some d->Hx d=some (.dK (KD (A t))))/\∀t,t<N.length->KnI N RC ks j t (A t)) ?_ ?_ ?_ ?_⟩
 ·exact⟨_,_,_,fun _=>[],rfl,fun b o e _=>e,fun t d e=>dd2 d (mI e),fun t _=>⟨a2O,g9 _,fun n v=>⟨fun z=>(nomatch z),fun⟨_,⟨i,z,_⟩,_⟩=>by omega⟩⟩⟩
 ·rintro j σ Hx _ ⟨_,_,_,_,_,sx,_⟩
  exact SqL.of (sx _ _ e2 (out e2 fun _ z=>nomatch z))
 ·rintro j y _ Hx hy ⟨y2,y3,y4,A,rfl,sx,dx',kn⟩
  rw[c9]at hy
  obtain⟨b,hb,rfl⟩:=z8.mp hy
  have hj:=(gI hb)
  obtain⟨kk,hk⟩:∃kk,ks[j]? = some kk:=⟨_,d8 (by rw[<-kb.1];exact hj)⟩
  obtain⟨i0,hi0,hc⟩:=a7n _ (by rw[hks]at hk;exact mI hk)
  obtain⟨n,v,rfl,o,nm,nv,cp⟩:=b9w hr h6 hi0 hc
  have hb2:H2 b=some (.tup [.str "copy",.str n,v]):=by
   have:=kb.2 j b _ hb hk
   rw[this]
   show some (HO.tup [.str "copy",.str n,kV (c1F v)])=_
   rw[a8b o]
  have hjk:=(gI hk)
  ext
  nofun
  have hbx:=sx _ _ hb2 (out hb2 fun _ z=>nomatch z)
  have s0x:=sH sx
  exists a6n ck (hp.same s0x) hv (hr.ts (t9.ts s0x)) hbx o fun d3 H3 S kvs cb hS s3=>?_
  have dd3:∀(t:Nat) d,ds[t]? = some d->H3 d=some (.dK (KD (A t))):=fun t d e=>s3 _ _ (dx' t d e)
  have sx3:SmX ds H2 H3:=fun b o e q=>s3 _ _ (sx b o e q)
  have n3:d3∉ds:=by
   intro z
   obtain⟨t,ht⟩:=G5.mp z
   have q1:=dd3 t d3 ht
   rw[cb.hd]at q1
   have q1:=HO.dK.inj (Option.some.inj q1)
   have q2:=cb.keys
   rw[q1]at q2
   obtain⟨a,st,q3,_⟩:=cb.at_ 0 0 cb.z
   rw[q1]at q3
   unfold KD at q3
   rw[c9]at q3
   obtain⟨_,_,q4⟩:=z8.mp q3
   cases q4
  have hr5:∀ {Hy:Hp},SmX ds H3 Hy->Hy r=some (.lst (rs.map V.ref)):=fun sy=>sy _ _ (sx3 _ _ (s02 _ _ h5) (outH h5)) (outH h5)
  have hx5:∀ {Hy:Hp},SmX ds H3 Hy->Hy x=some (.ins c.M7 dx fs):=fun sy=>sy _ _ (sx3 _ _ (s02 _ _ h1) (outH h1)) (outH h1)
  have hf5:∀ {Hy:Hp},SmX ds H3 Hy->Hy fl=some (.lst (ds.map V.ref)):=fun sy=>by
   have q:=out (s2 _ _ efl) fun _ z=>nomatch z
   exact sy _ _ (sx3 _ _ (s2 _ _ efl) q) q
  have hb5:∀ {Hy:Hp},SmX ds H3 Hy->Hy b=some (.tup [.str "copy",.str n,v]):=fun sy=>sy _ _ (s3 _ _ hbx) (out hb2 fun _ z=>nomatch z)
  specialize a0c (a0F ?_)
  specialize a1y ?_
  exists ⟨x,_,dx,_,.ref r,rfl,hx5 (fun _ _ e _=>e),ck.L7,ck.K9,h4,?_⟩
  refine N8 (hr5 (fun _ _ e _=>e)) ?_
  rw[b7,h6]
  refine⟨N.length,rfl,by omega,by omega,?_⟩
  rw[z9]
  refine Z1 (fun i σ Hy=>∃y4,∃A:Nat->Al,σ=[some (.ref x),some (.ref fl),some (.ref b),some (.ref d3),y4]/\SmX ds H3 Hy/\(∀(t:Nat) d,ds[t]? = some d->Hy d=some (.dK (KD (A t))))/\∀t,t<N.length->KnI N RC ks (if t<i then j+1 else j) t (A t)) ⟨_,A,rfl,(fun _ _ e _=>e),dd3,fun t ht=>by rw[if_neg (by omega)];exact kn t ht⟩ ?_ ?_
  ·rintro i _ Hy hi ⟨y4,A,rfl,sy,dy,kn⟩
   rw[a0p]
   have kni:=kn i hi
   rw[if_neg (by omega)]at kni
   ext
   specialize a4j ?_
   refine⟨d3,_,rfl,a3C.k (k:=Sum.inl (i:Int)) (sy _ _ cb.hd n3),?_⟩
   rw[cb.in_ i]
   refine⟨_,rfl,?_⟩
   have rest:∀ {A':Nat->Al},(∀t,t≠i->A' t=A t)->KnI N RC ks (j+1) i (A' i)->∀t,t<N.length->KnI N RC ks (if t<i+1 then j+1 else j) t (A' t):=fun {A'} q1 q2 t ht=>by
    by_cases q:t=i
    ·rw[q,if_pos (by omega)];exact q2
    ·rw[q1 t q]
     have:=kn t ht
     by_cases u:t<i
     ·rw[if_pos u]at this;rw[if_pos (by omega)];exact this
     ·rw[if_neg u]at this;rw[if_neg (by omega)];exact this
   by_cases hm:i∈S
   ·exists v4 (by rw[c8s hm];rfl) ?_
    exact⟨_,A,rfl,sy,dy,rest (fun _ _=>rfl) (kni.skip hk o ((hS i).mp hm))⟩
   ·refine D9 (by rw[c8r hm];rfl) ?_
    obtain⟨no,kp⟩:=kni.put hk o (fun z=>hm ((hS i).mpr z)) (hv.rc i hi) nk
    obtain⟨di,hdi⟩:∃di,ds[i]? = some di:=⟨_,d8 (by omega)⟩
    have mdi:=mI hdi
    specialize a2i ?_
    exists C3 (hb5 sy) (a4T _ _ _ _) ?_
    exists L5 (hf5 sy) (Z5 (by rw[c9,hdi];rfl)) ?_
    refine C3 (hb5 sy) (a0Z _ _ _) ?_
    refine⟨di,_,rfl,a4W.k (k:=Sum.inr n) (dy i di hdi) (F9 (by rw[b9N];have:=kni.le;omega)),?_⟩
    rw[b9M no]
    refine⟨_,fun t=>if t=i then A i++[(n,v)] else A t,rfl,fun b' o' e q=>by rw[l7 (show b'≠di from fun z=>q (by rw[z];exact mdi))];exact sy _ _ e q,fun t d e=>?_,rest (fun t q=>if_neg q) (by rw[if_pos rfl];exact kp)⟩
    by_cases q:t=i
    ·rw[q,hdi]at e
     cases e
     rw[d6]
     show _=some (HO.dK (KD (if t=i then _ else _)))
     rw[if_pos q]
    ·rw[l7]
     show _=some (HO.dK (KD (if t=i then _ else _)))
     rw[if_neg q]
     ·exact dy t d e
     ·rintro rfl
      exact q (b8Y nds e hdi)
  ·rintro _ Hy ⟨y4,A,rfl,sy,dy,kn⟩
   exact⟨_,_,_,A,rfl,fun b' o' e q=>sy _ _ (sx3 _ _ e q) q,dy,fun t ht=>by have:=kn t ht;rw[if_pos ht]at this;exact this⟩
 ·rintro _ Hx ⟨y2,y3,y4,A,rfl,sx,dx',kn⟩
  rw[b7,kb.1]at kn
  ext
  refine k fl ds A Hx ?_ lds dx' (fun t ht=>?_) (sH sx)
  ·have q:=out (s2 _ _ efl) fun _ z=>nomatch z
   exact sx _ _ (s2 _ _ efl) q
  ·have g:=kn t ht
   refine⟨g.nd,fun p hp=>((g.mem p.1 p.2).mp hp).1,fun n v=>?_⟩
   rw[g.mem]
   constructor
   ·rintro⟨o,⟨i,hi,e⟩,un⟩
    refine⟨?_,un⟩
    obtain⟨i0,hi0,hc⟩:=a7n _ (by rw[hks]at e;exact mI e)
    obtain⟨n',v',e',o',_,nv,_⟩:=b9w hr h6 hi0 hc
    obtain⟨rfl,rfl⟩:=b1D o o' e'
    exact nv
   ·rintro⟨nv,un⟩
    obtain⟨i,hi,cp⟩:=c0j (hv.rc t ht) un
    have hc:ckD RC i=some (cpK n v):=by
     unfold ckD
     rw[cp]
     exact if_neg nv
    obtain⟨n',v',e',o',_,_,cp'⟩:=b9w hr h6 hi hc
    rw[cp]at cp'
    cases cp'
    obtain⟨j,hj⟩:=G5.mp (b0j N.length hi hc)
    rw[<-hks]at hj
    exact⟨o',⟨j,(gI hj),hj⟩,un⟩
end
def rdV(A:Al)(v:V):V:=match v with
 | .str s=>(a0w (KD A) (Sum.inr s)).getD v
 | _=>v
def FwX(H:Hp)(f:V->V)(xs:List V)(q:Addr):Prop:=match xs with
 | [.str k,.str n,.ref p]=>∃q2 kd a b,H p=some (.tup [kd,a,b])/\H q=some (.tup [.str k,.str n,.ref q2])/\H q2=some (.tup [kd,f a,f b])
 | [.str k,.str n,v]=>H q=some (.tup [.str k,.str n,f v])
 | [.str k,v]=>H q=some (.tup [.str k,if k=("take" : Str)then v else f v])
 | _=>H q=some (.tup xs)
section
variable {K:Fg}{q q':Addr}{f g:V->V}{A B:Al}{ask:Bool}{E:XK}
theorem a6j{td ty tx:TE}(h:td σ H fun x H1=>∃a,x=.ref a/\IsD H1 a/\ty σ H1 fun y H2=>tx σ H2 fun z H3=>∃o,a3C H3 a y o/\Q (o.getD z) H3):a3i td ty tx σ H Q:=h
theorem c5i{i:Int}:a0w (KD A) (Sum.inl i)=none:=by
 induction A with
 | nil=>rfl
 | cons p A ih=>rw[b5D,a2c (by intro z;cases z)];exact ih
theorem a9d(o:OpN v)(hd:H d=some (.dK (KD A))):∃w,a3C H d v w/\w.getD v=rdV A v:=by
 rcases o with ⟨s,rfl,_⟩ | ⟨i,rfl,_⟩
 ·exact⟨_,.inl ⟨_,Sum.inr s,.inl hd,rfl,rfl⟩,rfl⟩
 ·exact⟨_,.inl ⟨_,Sum.inl i,.inl hd,rfl,rfl⟩,by rw[c5i];rfl⟩
theorem b0f(o:OpN v)(nd:ndA A)(fl:FlA A):OpN (rdV A v):=by
 rcases id o with ⟨s,rfl,_⟩ | ⟨i,rfl,_⟩
 ·show OpN ((a0w (KD A) (Sum.inr s)).getD (.str s))
  cases z:a0w (KD A) (Sum.inr s)with
  | none=>exact o
  | some w=>exact fl _ ((b9L nd).mp z)
 ·exact o
theorem FwX.ts(h:FwX H f xs q)(t:J1 H H'):FwX H' f xs q:=by
 unfold FwX at h ⊢
 split
 ·obtain⟨q2,kd,a,b,h1,h2,h3⟩:=h
  exact⟨q2,kd,a,b,t _ _ h1,t _ _ h2,t _ _ h3⟩
 ·rename_i z
  split at h
  ·rename_i e;cases e;exact(z _ rfl).elim
  ·rename_i e;cases e;exact t _ _ h
  ·rename_i e;cases e
  ·rename_i z1 z2 z3;exact(z2 _ _ _ rfl).elim
 ·split at h
  ·rename_i e;cases e
  ·rename_i e;cases e
  ·rename_i e;cases e;exact t _ _ h
  ·rename_i z1 z2 z3;exact(z3 _ _ rfl).elim
 ·rename_i z1 z2 z3
  split at h
  ·exact(z1 _ _ _ rfl).elim
  ·exact(z2 _ _ _ rfl).elim
  ·exact(z3 _ _ rfl).elim
  ·exact t _ _ h
theorem b1y{n:Str}(o:OpN v):FwX H f [.str "copy",.str n,v] q=(H q=some (.tup [.str "copy",.str n,f v])):=by
 rcases o with ⟨s,rfl,_⟩ | ⟨i,rfl,_⟩ <;> rfl
theorem b1x(o:OpN v):FwX H f [.str "tell",v] q=(H q=some (.tup [.str "tell",f v])):=by
 rcases o with ⟨s,rfl,_⟩ | ⟨i,rfl,_⟩ <;> rfl
theorem b4O(o:OpN v):FwX H f [.str "ask",v] q=(H q=some (.tup [.str "ask",f v])):=by
 rcases o with ⟨s,rfl,_⟩ | ⟨i,rfl,_⟩ <;> rfl
theorem c1O(rS:a3O H xs)(hq:∃k r,xs=.str k::r/\decide ((k:Str) = "ask")=ask)(h:FwX H' f xs q)(t:J1 H H')(hf:∀v,OpN v->OpN (f v)):a5N H' (.ref q) ask:=by
 obtain⟨k,r,rfl,hk⟩:=hq
 cases rS with
 | set n p2 nm d2=>
  obtain⟨q2,kd,a,b,h1,h2,h3⟩:=h
  obtain⟨kd',u1,u2,g,o1,o2,hkd⟩:=d2
  rw[t _ _ g]at h1
  cases h1
  exact⟨q,_,rfl,h2,.set n q2 nm ⟨kd',_,_,h3,hf _ o1,hf _ o2,hkd⟩,_,_,rfl,hk⟩
 | copy n w nm o=>rw[b1y o]at h;exact⟨q,_,rfl,h,.copy n _ nm (hf _ o),_,_,rfl,hk⟩
 | take n nm=>exact⟨q,_,rfl,h,.take n nm,_,_,rfl,hk⟩
 | tell w o=>rw[b1x o]at h;exact⟨q,_,rfl,h,.tell _ (hf _ o),_,_,rfl,hk⟩
 | ask w o=>rw[b4O o]at h;exact⟨q,_,rfl,h,.ask _ (hf _ o),_,_,rfl,hk⟩
 | skip=>exact⟨q,_,rfl,h,.skip,_,_,rfl,hk⟩
theorem a7o(hr:b4Z H p xs)(hd:H d=some (.dK (KD A)))(k:∀q H',FwX H' (rdV A) xs q->t9 H H'->Q (.ref q) H'):Y8 K [.ref p,.ref d] H Q E:=by
 obtain⟨hp,rS⟩:=hr
 refine⟨rfl,?_⟩
 unfold a3G
 have isd:∀ {H':Hp},t9 H H'->IsD H' d:=fun s=>.inl ⟨_,.inl (s _ _ hd)⟩
 exact_mod_cast U4 ?_
 obtain⟨k0,r,rfl⟩:=rS.head
 ext
 exists C3 hp (U0 _ _) ?_
 cases rS with
 | set n p2 nm d2=>
  obtain⟨kd,a,b,g,o1,o2,_⟩:=d2
  refine D9 (by decide) ?_
  nofun
  exists C3 hp (a4T _ _ _ _) ?_
  exists C3 hp (a0Z _ _ _) ?_
  exists C3 g (U0 _ _) ?_
  specialize a6j ?_
  exists ⟨d,rfl,isd (t9.refl _),?_⟩
  exists C3 g (a0Z _ _ _) ?_
  refine C3 g (a0Z _ _ _) ?_
  obtain⟨w1,g1,r1⟩:=a9d (A:=A) o1 hd
  refine⟨w1,g1,?_⟩
  rw[r1]
  ext
  specialize a6j ?_
  exists ⟨d,rfl,isd (t9.refl _),?_⟩
  exists C3 g (a4T _ _ _ _) ?_
  refine C3 g (a4T _ _ _ _) ?_
  obtain⟨w2,g2,r2⟩:=a9d (A:=A) o2 hd
  refine⟨w2,g2,?_⟩
  rw[r2]
  ext
  exists E3 (by simp) fun q2 H1 hq2 e1 s1=>?_
  refine E3 (by simp) fun q H2 hq e2 s2=>?_
  exact k q H2 ⟨q2,_,_,_,s2 _ _ (s1 _ _ g),e2,s2 _ _ e1⟩ (s1.trans s2)
 | copy n v nm o=>
  exists v4 (by decide) ?_
  nofun
  exists C3 hp (U0 _ _) ?_
  exists D9 (by decide) ?_
  exists C3 hp (a0Z _ _ _) ?_
  specialize a6j ?_
  exists ⟨d,rfl,isd (t9.refl _),?_⟩
  exists C3 hp (a4T _ _ _ _) ?_
  refine C3 hp (a4T _ _ _ _) ?_
  obtain⟨w1,g1,r1⟩:=a9d (A:=A) o hd
  refine⟨w1,g1,?_⟩
  rw[r1]
  ext
  refine E3 (by simp) fun q H2 hq e2 s2=>?_
  exact k q H2 (by rw[b1y o];exact e2) s2
 | take n nm=>
  exists v4 (by decide) ?_
  nofun
  exists C3 hp (U0 _ _) ?_
  exists v4 (by decide) ?_
  nofun
  exists C3 hp (U0 _ _) ?_
  refine E3 (by simp) fun l H1 hl e1 s1=>?_
  refine a5h e1 rfl rfl ?_
  refine⟨_,rfl,?_⟩
  exists v4 (by decide +kernel) ?_
  exact k p H1 (s1 _ _ hp) s1
 | tell v o=>
  exists v4 (by decide) ?_
  nofun
  exists C3 hp (U0 _ _) ?_
  exists v4 (by decide) ?_
  nofun
  exists C3 hp (U0 _ _) ?_
  refine E3 (by simp) fun l H1 hl e1 s1=>?_
  refine a5h e1 rfl rfl ?_
  refine⟨_,rfl,?_⟩
  refine D9 (by decide +kernel) ?_
  have hp1:=s1 _ _ hp
  ext
  exists C3 hp1 (U0 _ _) ?_
  specialize a6j ?_
  exists ⟨d,rfl,isd s1,?_⟩
  exists C3 hp1 (a0Z _ _ _) ?_
  refine C3 hp1 (a0Z _ _ _) ?_
  obtain⟨w1,g1,r1⟩:=a9d (A:=A) o (s1 _ _ hd)
  refine⟨w1,g1,?_⟩
  rw[r1]
  ext
  refine E3 (by simp) fun q H2 hq e2 s2=>?_
  exact k q H2 (by rw[b1x o];exact e2) (s1.trans s2)
 | ask v o=>
  exists v4 (by decide) ?_
  nofun
  exists C3 hp (U0 _ _) ?_
  exists v4 (by decide) ?_
  nofun
  exists C3 hp (U0 _ _) ?_
  refine E3 (by simp) fun l H1 hl e1 s1=>?_
  refine a5h e1 rfl rfl ?_
  refine⟨_,rfl,?_⟩
  refine D9 (by decide +kernel) ?_
  have hp1:=s1 _ _ hp
  ext
  exists C3 hp1 (U0 _ _) ?_
  specialize a6j ?_
  exists ⟨d,rfl,isd s1,?_⟩
  exists C3 hp1 (a0Z _ _ _) ?_
  refine C3 hp1 (a0Z _ _ _) ?_
  obtain⟨w1,g1,r1⟩:=a9d (A:=A) o (s1 _ _ hd)
  refine⟨w1,g1,?_⟩
  rw[r1]
  ext
  refine E3 (by simp) fun q H2 hq e2 s2=>?_
  exact k q H2 (by rw[b4O o];exact e2) (s1.trans s2)
 | skip=>
  exists v4 (by decide) ?_
  nofun
  exists C3 hp (U0 _ _) ?_
  exists v4 (by decide) ?_
  nofun
  exists C3 hp (U0 _ _) ?_
  refine E3 (by simp) fun l H1 hl e1 s1=>?_
  refine a5h e1 rfl rfl ?_
  refine⟨_,rfl,?_⟩
  exists v4 (by decide +kernel) ?_
  exact k p H1 (s1 _ _ hp) s1
end
def FwL(H:Hp)(rs':List Addr)(RC:Nat->List V)(F:Nat->Al):Prop:=∀(i:Nat) q,rs'[i]? = some q->FwX H (rdV (F i)) (RC i) q
section
variable {K:Fg}{x:Addr}{A:Al}{E:XK}
abbrev KnF(N:Nt)(RC:Nat->List V)(F:Nat->Al):Prop:=∀t,t<N.length->ndA (F t)/\FlA (F t)/\∀n v,(n,v)∈F t↔v≠.str n/\¬UnC N RC n v t
theorem FwL.ts{rs':List Addr}{F:Nat->Al}(h:FwL H rs' RC F)(t:J1 H H'):FwL H' rs' RC F:=fun i q e=>(h i q e).ts t
theorem b1z(ck:a3D K c)(hp:a2n K c Z rs H x N)(hv:a0t N)(hr:a3J H rs RC)
  (k:∀y Z' rs' F H',a2n K c Z' rs' H' y N->rs'.length=N.length->FwL H' rs' RC F->KnF N RC F->t9 H H'->Q (.ref y) H'):Y9 K c [.ref x] H Q E:=by
 have h400:=hv.le
 refine⟨rfl,?_⟩
 unfold a7A
 nofun
 exists a6o ck hp.r hv hr fun fl ds F H1 e1 lds dd kF s1=>?_
 have hp1:=hp.same s1
 obtain⟨dx,r,n',e',es,ns',h1,⟨h2,h2r⟩,h3,h4,h5,_⟩:=hp1.ex
 have lrs:rs.length=N.length:=by
  obtain⟨rs0,r1,r2,_⟩:=id h2.ex
  rw[h2r]at r1
  have:=congrArg b7g (HO.lst.inj (Option.some.inj r1))
  rw[b7,b7]at this
  omega
 have row:∀ {i:Nat} {p:Addr} {l:List Nat},rs[i]? = some p->N[i]? = some l->a5N H1 (.ref p) (l.length == 2):=fun {i p l} a b=>by
  obtain⟨rs0,r1,r2,r3⟩:=id h2.ex
  obtain rfl:rs0=rs:=by
   rw[h2r]at r1
   exact(T0 (f:=V.ref) (fun a b h=>V.ref.inj h) |>.mp (HO.lst.inj (Option.some.inj r1))).symm
  exact r3 i p l a b
 exact_mod_cast b8d ?_
 exact_mod_cast a2I ?_
 exact_mod_cast b0W (a4I ?_)
 refine a2I (a1y (a3I rfl ?_))
 refine⟨x,_,dx,_,.ref r,rfl,h1,ck.L7,ck.K9,rfl,?_⟩
 refine b0e ?_
 refine⟨r,rfl,⟨_,SqL.of h2r⟩,fun D hD=>?_⟩
 refine b4U N.length (fun i ys H9=>∃rs':List Addr,ys=rs'.map V.ref/\rs'.length=i/\FwL H9 rs' RC F/\(∀(j:Nat) q l,rs'[j]? = some q->N[j]? = some l->a5N H9 (.ref q) (l.length == 2))/\H9 D=some (.lst ys)/\t9 H1 H9) ⟨[],rfl,rfl,fun i q e=>(nomatch e),fun i q l e=>(nomatch e),d6,A0 hD⟩ ?_ ?_ ?_ ?_
 ·rintro i ys H9 ⟨_,_,_,_,_,h,_⟩
  exact h
 ·rintro ys H9 ⟨rs',rfl,lrs',fw,rn,hD9,s9⟩
  refine⟨⟨_,SqL.of (s9 _ _ h2r),by rw[b7,lrs];exact g9 _⟩,?_⟩
  exact_mod_cast a2I ?_
  specialize a1y ?_
  exists ⟨x,_,dx,_,.ref n',rfl,s9 _ _ h1,ck.L7,ck.O2,rfl,?_⟩
  intro y dy hy hdy hne
  have sm:t9 H9 (upd (upd H9 dy (.own y)) y (.ins c.M7 dy [])):=fun b o e=>by
   rw[l7 (d9 e hy),l7 (d9 e hdy)];exact e
  obtain⟨H10,hH10⟩:∃H10,H10=upd (upd H9 dy (.own y)) y (.ins c.M7 dy []):=⟨_,rfl⟩
  have y10:H10 y=some (.ins c.M7 dy []):=hH10 ▸ d6
  rw[<-hH10]at sm ⊢
  have s110:=s9.trans sm
  refine a6m (E:=E0) ck (sm _ _ hD9) (show Q5 H10 D N from⟨rs',sm _ _ hD9,lrs',fun i q l a b=>(rn i q l a b).ts (t9.ts sm)⟩) (show E6 H10 n' N from⟨ns',s110 _ _ h3,h4,fun i u l a b=>s110 _ _ (h5 i u l a b)⟩) hv y10 fun H11 pz old=>⟨rfl,?_⟩
  have s911:t9 H9 H11:=fun b o e=>old b o (sm _ _ e) (d9 e hy)
  exact k y _ rs' F H11 pz lrs' (fw.ts (t9.ts s911)) kF ((s1.trans s9).trans s911)
 ·rintro i ys H9 hi ⟨_,_,_,_,_,_,s9⟩
  exact⟨_,.ref (rs[i]'(by omega)),SqL.of (s9 _ _ h2r),by rw[c9,d8 (by omega)];rfl⟩
 ·rintro i ys H9 hi ⟨rs',rfl,rfl,fw,rn,hD9,s9⟩ v H10 ⟨pp,w,hpp,rfl,rfl,gw⟩
  obtain⟨rx,hrx⟩:∃rx,rs[rs'.length]? = some rx:=⟨_,d8 (by omega)⟩
  have gw:=gw _ (SqL.of (s9 _ _ h2r))
  rw[c9,hrx]at gw
  cases gw
  refine⟨pp,_,_,rfl,SqT.of d6,fun R S hR hS=>?_⟩
  have s10:t9 H9 (upd H9 pp (.tup [V.int (rs'.length:Int),V.ref rx])):=A0 hpp
  have s110:=s9.trans s10
  obtain⟨dt,hdt⟩:∃dt,ds[rs'.length]? = some dt:=⟨_,d8 (by omega)⟩
  ext
  exists D9 rfl ?_
  exists L5 (s110 _ _ e1) (Z5 (by rw[c9,hdt];rfl)) ?_
  have rX:=(hr _ rx hrx).ts (t9.ts (s1.trans s110))
  refine a7o rX (s110 _ _ (dd _ dt hdt)) fun q H11 fx s11=>?_
  have hd11:=s11 _ _ (s10 _ _ hD9)
  have tp:J1 H11 (upd H11 D (.lst (rs'.map V.ref++[V.ref q]))):=J1.put hd11
  have s911:=s10.trans s11
  obtain⟨nd,flF,_⟩:=kF _ hi
  refine hR _ _ hd11 (F9 (by rw[b7];omega)) ⟨rs'++[q],by simp,by simp,fun j p e=>?_,fun j p l e hl=>?_,d6,fun b o e=>by rw[l7 (d9 e hD)];exact s911 _ _ (s9 _ _ e)⟩
  ·by_cases z:j<rs'.length
   ·rw[C6 z]at e
    exact((fw j p e).ts (t9.ts s911)).ts tp
   ·have:=(gI e)
    rw[p5,C1]at this
    obtain rfl:j=rs'.length:=by omega
    rw[M9 (g9 _)]at e
    simp at e
    rw[<-e]
    exact fx.ts tp
  ·by_cases z:j<rs'.length
   ·rw[C6 z]at e
    exact((rn j p l e hl).ts (t9.ts s911)).ts tp
   ·have:=(gI e)
    rw[p5,C1]at this
    obtain rfl:j=rs'.length:=by omega
    rw[M9 (g9 _)]at e
    simp at e
    rw[<-e]
    obtain⟨p0,xs0,ep,hp0,rS0,hq0⟩:=(row hrx hl).ts (t9.ts s110)
    cases ep
    rw[rX.1]at hp0
    cases hp0
    refine a5N.ts (c1O rS0 hq0 fx (t9.ts s11) fun v o=>b0f o nd flF) tp
end
def WdP(PL:List Str)(w:V):Prop:=(∃s,w=.str s/\s∈PL)\/∃i,w=.int i
def tkA(ss:List Str):Al:=ss.map fun s=>(s,V.bl true)
section
variable {K:Fg}{PL:List Str}{n:Str}{E:XK}
theorem b3Q(o:OpN v)(h:OpP PL v):WdP PL v:=by
 rcases o with ⟨s,rfl,_⟩ | ⟨i,rfl,_⟩
 ·exact .inl ⟨s,rfl,h s rfl⟩
 ·exact .inr ⟨i,rfl⟩
theorem b5f{s:Str}:(s,v)∈tkA ss↔s∈ss/\v=.bl true:=by
 unfold tkA
 constructor
 ·intro h
  obtain⟨u,hu,e⟩:=A2.mp h
  cases e
  exact⟨hu,rfl⟩
 ·rintro⟨h,rfl⟩
  exact A2.mpr ⟨s,h,rfl⟩
theorem c0k{s:Str}(h:s∈ss):Y2 (KD (tkA ss)) (Sum.inr s) (.bl true)=KD (tkA ss):=by
 unfold Y2
 rw[if_pos]
 ·refine(R3 fun q hq=>?_).trans (a5S _)
  unfold KD tkA at hq
  rw[L8]at hq
  obtain⟨u,hu,rfl⟩:=A2.mp hq
  show(if _ then _ else _)=_
  split <;> rfl
 ·rw[a0l]
  exact⟨(Sum.inr s,.bl true),A2.mpr ⟨(s,.bl true),b5f.mpr ⟨h,rfl⟩,rfl⟩,by simp⟩
theorem c0l{s:Str}(h:s∉ss):Y2 (KD (tkA ss)) (Sum.inr s) (.bl true)=KD (tkA (ss++[s])):=by
 rw[b9M fun v m=>h (b5f.mp m).1]
 unfold tkA
 rw[D1];rfl
theorem b2X(hra:H ra=some (.lst (rs.map V.ref)))(hr:a3J H rs RC)(hP:b9E H rs PL)(l4:PL.length<=4)
  (k:∀l ss H',H l=none->H' l=some (.lst ((ss:List Str).map V.str))->ss.length<=4->t9 H H'->Q (.ref l) H'):a2u K [.ref ra] H Q E:=by
 refine⟨rfl,?_⟩
 unfold a8w
 nofun
 exists a8L fun fd H1 hfd e1 s1=>?_
 exact_mod_cast U4 ?_
 specialize a0c (R8 ?_)
 refine⟨ra,rfl,⟨_,SqL.of (s1 _ _ hra)⟩,a1m (xs:=rs.map V.ref) (fun i σ H2=>∃y2 y3 y4 ss,σ=[some (.ref ra),some (.ref fd),y2,y3,y4]/\H2 fd=some (.dK (KD (tkA ss)))/\ss.Nodup/\(∀s∈ss,s∈PL)/\t9 H H2) ⟨_,_,_,[],rfl,e1,a2O,by simp,s1⟩ ?_ ?_ ?_⟩
 ·rintro i σ H2 _ ⟨_,_,_,_,_,_,_,_,s2⟩
  exact SqL.of (s2 _ _ hra)
 ·rintro i v _ H2 hv ⟨y2,y3,y4,ss,rfl,e2,nd,sp,s2⟩
  rw[c9]at hv
  obtain⟨p,hp',rfl⟩:=z8.mp hv
  obtain⟨hx,rS⟩:=(hr i p hp').ts (t9.ts s2)
  obtain⟨xs',px,pw⟩:=(hP p (mI hp')).ts (t9.ts s2)
  rw[hx]at px
  cases px
  generalize RC i=xs at hx rS pw
  obtain⟨k0,r0,rfl⟩:=rS.head
  ext
  nofun
  refine b8t hx (a8X _ _) fun q H3 hq e3 s3=>?_
  rw[c1T]at e3
  ext
  exists c3m e3 fun wl H4 hwl e4 s4=>?_
  have s24:=s3.trans s4
  have hx4:=s24 _ _ hx
  exact_mod_cast a0M (P:=fun σ H5=>∃wl ws,σ=[some (.ref ra),some (.ref fd),some (.ref p),some (.ref wl),y4]/\H5 wl=some (.lst ws)/\(∀w∈ws,WdP PL w)/\t9 H4 H5) ?_ ?_
  rotate_left
  ·intro nx hnx
   ext
   exists C3 hx4 (U0 _ _) ?_
   have old:(∀w∈r0,OpN w\/∃s,w=.str s)->nx [some (.ref ra),some (.ref fd),some (.ref p),some (.ref wl),y4] H4:=fun h=>hnx _ _ ⟨wl,r0,rfl,e4,fun w hw=>by
    rcases h w hw with o | ⟨s,rfl⟩
    ·exact b3Q o (pw w hw).1
    ·exact .inl ⟨s,rfl,(pw _ hw).1 s rfl⟩,t9.refl _⟩
   cases rS with
   | set n p2 nm d2=>
    obtain⟨kd,a,b,h,o1,o2,_⟩:=d2
    obtain⟨kd',a',b',h',q1,q2⟩:=(pw (.ref p2) (by simp)).2 p2 rfl
    rw[h]at h'
    cases h'
    exists D9 (by decide) ?_
    exists C3 hx4 (a0Z _ _ _) ?_
    exists C3 hx4 (a4T _ _ _ _) ?_
    exists C3 (s24 _ _ h) (a0Z _ _ _) ?_
    exists C3 hx4 (a4T _ _ _ _) ?_
    exists C3 (s24 _ _ h) (a4T _ _ _ _) ?_
    exists E3 (by simp) fun wl2 H5 hwl2 e5 s5=>?_
    refine hnx _ _ ⟨wl2,_,rfl,e5,fun w hw=>?_,s5⟩
    simp only[d5,o6,or_false]at hw
    rcases hw with rfl | rfl | rfl
    ·exact .inl ⟨n,rfl,(pw (.str n) (by simp)).1 n rfl⟩
    ·exact b3Q o1 q1
    ·exact b3Q o2 q2
   | copy n v nm o=>
    exists v4 (by decide) ?_
    refine old fun w hw=>?_
    simp only[d5,o6,or_false]at hw
    rcases hw with rfl | rfl
    ·exact .inr ⟨_,rfl⟩
    ·exact .inl o
   | take n nm=>
    exists v4 (by decide) ?_
    exact old fun w hw=>.inr ⟨n,g8.mp hw⟩
   | tell v o=>
    exists v4 (by decide) ?_
    exact old fun w hw=>.inl (by rw[g8.mp hw];exact o)
   | ask v o=>
    exists v4 (by decide) ?_
    exact old fun w hw=>.inl (by rw[g8.mp hw];exact o)
   | skip=>
    exists v4 (by decide) ?_
    exact old fun w hw=>nomatch hw
  rintro _ H5 ⟨wl,ws,rfl,e5,hws,s5⟩
  have s05:=(s2.trans s24).trans s5
  have f5:=(s24.trans s5) _ _ e2
  specialize a0c (R8 ?_)
  refine⟨wl,rfl,⟨_,SqL.of e5⟩,a1m (xs:=ws) (fun j σ H6=>∃y4 ss,σ=[some (.ref ra),some (.ref fd),some (.ref p),some (.ref wl),y4]/\H6 fd=some (.dK (KD (tkA ss)))/\ss.Nodup/\(∀s∈ss,s∈PL)/\H6 wl=some (.lst ws)/\t9 H H6) ⟨_,ss,rfl,f5,nd,sp,e5,s05⟩ ?_ ?_ ?_⟩
  ·rintro j σ H6 _ ⟨_,_,_,_,_,_,q,_⟩
   exact SqL.of q
  ·rintro j w _ H6 hw ⟨y4,ss,rfl,f6,nd6,sp6,e6,s6⟩
   have lss:=b1o ss PL nd6 sp6
   ext
   rcases hws w (mI hw)with ⟨s,rfl,hs⟩ | ⟨m,rfl⟩
   ·refine a1z (s := "str") rfl (by decide) ?_
    refine⟨_,rfl,?_⟩
    refine D9 (by decide) ?_
    specialize a2i ?_
    have lk:(KD (tkA ss)).length<q9:=F9 (by rw[b9N];unfold tkA;rw[b7];omega)
    refine⟨fd,_,rfl,a4W.k (k:=Sum.inr s) f6 lk,?_⟩
    have s7:∀ {kvs:List (Key×V)},t9 H (upd H6 fd (.dK kvs)):=fun b o e=>by rw[l7 (d9 e hfd)];exact s6 _ _ e
    have e7:∀ {kvs:List (Key×V)},upd H6 fd (.dK kvs) wl=some (.lst ws):=(l7 (L6 e6 f6 (by intro z;cases z))).trans e6
    by_cases hm:s∈ss
    ·exact⟨_,ss,rfl,by rw[d6,c0k hm],nd6,sp6,e7,s7⟩
    ·refine⟨_,ss++[s],rfl,by rw[d6,c0l hm],V0.mpr ⟨nd6,by simp,fun a ha b hb e=>hm (by rw[<-g8.mp hb,<-e];exact ha)⟩,fun u hu=>?_,e7,s7⟩
     rcases u8.mp hu with z | z
     ·exact sp6 u z
     ·rw[g8.mp z];exact hs
   ·refine a1z (s := "int") rfl (by decide) ?_
    refine⟨_,rfl,?_⟩
    exists v4 (by decide) ?_
    exact⟨_,ss,rfl,f6,nd6,sp6,e6,s6⟩
  ·rintro _ H6 ⟨y4,ss,rfl,f6,nd6,sp6,e6,s6⟩
   exact⟨_,_,_,ss,rfl,f6,nd6,sp6,s6⟩
 ·rintro _ H2 ⟨y2,y3,y4,ss,rfl,e2,nd,sp,s2⟩
  have lss:=b1o ss PL nd sp
  ext
  unfold a4l
  simp only[e2]
  intro l hl
  have el:(KD (tkA ss)).map (fun kv=>kV kv.1)=ss.map V.str:=by unfold KD tkA;rw[L8,L8];rfl
  rw[el]
  have s3:t9 H2 (upd H2 l (.lst (ss.map V.str))):=A0 hl
  obtain⟨H3,hH3⟩:∃H3,H3=upd H2 l (.lst (ss.map V.str)):=⟨_,rfl⟩
  have e3:H3 l=some (.lst (ss.map V.str)):=hH3 ▸ d6
  rw[<-hH3]at s3 ⊢
  refine⟨l,ss,rfl,e3,by omega,fun q ts pm hq=>?_⟩
  have s03:=s2.trans s3
  exact k q ts _ (s03.free hq) d6 (by rw[pm.length_eq];omega) (s03.trans (A0 hq))
end
abbrev Sto:=List (Str×Int)
def SD(S:Sto):List (Key×V):=S.map fun p=>(Sum.inr p.1,.int p.2)
def a3w(S:Sto)(s:Str):Int:=match S with
 | []=>0
 | p::r=>if p.1=s then p.2 else a3w r s
def a0x(S:Sto)(n:Str)(i:Int):Sto:=match S with
 | []=>[(n,i)]
 | p::r=>if p.1=n then (p.1,i)::r else p::a0x r n i
def bdS(S:Sto):Prop:=(S.map (·.1)).Nodup/\∀p∈S,0<=p.2/\p.2<1000000000000
def X1(S:Sto)(v:V):Int:=match v with
 | .str s=>a3w S s
 | .int i=>i
 | _=>0
def wv(kd:Str)(x y:Int):Int:=if kd = "plus" then (x+y) % 1000000000000 else if kd = "minus" then (x - y) % 1000000000000 else if kd = "times" then x * y % 1000000000000 else if kd = "less" then (if x<y then 1 else 0)else (if x=y then 1 else 0)
inductive Rw
 | set (n k:Str) (a b:V) | copy (n:Str) (v:V) | take (n:Str) | tell (v:V) | ask (v:V) | skip
variable{w:Rw}
def RwS(H:Hp)(xs:List V)(w:Rw):Prop:=match w with
 | .set n k a b=>∃q,xs=[.str "set",.str n,.ref q]/\H q=some (.tup [.str k,a,b])/\OpN a/\OpN b/\NmS n
 | .copy n v=>xs=[.str "copy",.str n,v]/\OpN v/\NmS n
 | .take n=>xs=[.str "take",.str n]/\NmS n
 | .tell v=>xs=[.str "tell",v]/\OpN v
 | .ask v=>xs=[.str "ask",v]/\OpN v
 | .skip=>xs=[.str "skip"]
structure Rs where
 S:Sto
 L:List Int
 T:List Int
 W:List Stp
 p:Stp
 e:Bool
def doR(w:Rw)(S:Sto)(L T:List Int):Sto×List Int×List Int:=match w with
 | .set n k a b=>(a0x S n (wv k (X1 S a) (X1 S b)),L,T)
 | .copy n v=>(a0x S n (X1 S v),L,T)
 | .take n=>(a0x S n (L.getLast?.getD 0),L.dropLast,T)
 | .tell v=>(S,L,T++[X1 S v])
 | _=>(S,L,T)
def a2Y(w:Rw)(S:Sto):Int:=match w with
 | .ask v=>if X1 S v=0 then 1 else 0
 | _=>0
def st1(N:Nt)(W:Nat->Rw)(r:Rs):Rs:=
 let t:=a1k N r.p
 let d:=doR (W t) r.S r.L r.T
 ⟨d.1,d.2.1,d.2.2,r.W++[r.p],((t:Int),a2Y (W t) d.1),decide ((N.getD t []).length=0)⟩
def rn(N:Nt)(W:Nat->Rw):Nat->Rs->Rs
 | 0,r=>r
 | m+1,r=>if r.e=true then r else rn N W m (st1 N W r)
section
variable {S:Sto}{n s:Str}{i:Int}
theorem c5a:a0w (SD S) (Sum.inr s)=none/\a3w S s=0\/a0w (SD S) (Sum.inr s)=some (.int (a3w S s)):=by
 induction S with
 | nil=>exact .inl ⟨rfl,rfl⟩
 | cons p r ih=>
  show a0w ((Sum.inr p.1,.int p.2)::SD r) _=none/\_\/a0w ((Sum.inr p.1,.int p.2)::SD r) _=_
  unfold a3w
  by_cases e:p.1=s
  ·rw[a2U (by rw[e]),if_pos e];exact .inr rfl
  ·rw[a2c (by intro z;exact e (Sum.inr.inj z)),if_neg e];exact ih
theorem b6g{kv:Key×V}{r:List (Key×V)}{k:Key}{x:V}:Y2 (kv::r) k x=if kv.1=k then (kv.1,x)::r.map (fun q=>if q.1=k then (q.1,x)else q)else kv::Y2 r k x:=by
 unfold Y2
 rw[P3]
 by_cases e:kv.1=k
 ·rw[if_pos e,if_pos (by rw[c8s e];rfl),E8,if_pos e]
 ·rw[if_neg e,c8r e,b3J]
  by_cases a:(r.any fun kv=>decide (kv.1=k))=true
  ·rw[if_pos a,if_pos a,E8,if_neg e]
  ·rw[if_neg a,if_neg a];rfl
theorem b9D(nd:(S.map (·.1)).Nodup):Y2 (SD S) (Sum.inr n) (.int i)=SD (a0x S n i):=by
 induction S with
 | nil=>rfl
 | cons p r ih=>
  obtain⟨n1,n2⟩:=F0.mp nd
  show Y2 ((Sum.inr p.1,.int p.2)::SD r) _ _=SD (a0x (p::r) n i)
  rw[b6g]
  unfold a0x
  by_cases e:p.1=n
  ·rw[if_pos (by rw[e]),if_pos e]
   show _=(Sum.inr p.1,V.int i)::SD r
   congr 1
   refine(R3 fun q hq=>?_).trans (a5S _)
   obtain⟨u,hu,rfl⟩:=A2.mp hq
   exact if_neg fun z=>n1 (A2.mpr ⟨u,hu,(Sum.inr.inj z).trans e.symm⟩)
  ·rw[if_neg (by intro z;exact e (Sum.inr.inj z)),if_neg e,ih n2];rfl
theorem a9e:a3w (a0x S n i) s=if s=n then i else a3w S s:=by
 induction S with
 | nil=>
  unfold a0x a3w
  by_cases e:s=n
  ·rw[if_pos e,if_pos e.symm]
  ·rw[if_neg e,if_neg (Ne.symm e)];rfl
 | cons p r ih=>
  unfold a0x
  by_cases e:p.1=n
  ·rw[if_pos e]
   unfold a3w
   by_cases f:p.1=s
   ·rw[if_pos f,if_pos (f.symm.trans e)]
   ·rw[if_neg f,if_neg (fun z=>f (e.trans z.symm)),if_neg f]
  ·rw[if_neg e]
   unfold a3w
   by_cases f:p.1=s
   ·rw[if_pos f,if_neg (fun z=>e (f.trans z)),if_pos f]
   ·rw[if_neg f,ih,if_neg f]
theorem b2M:(a0x S n i).length<=S.length+1:=by
 induction S with
 | nil=>exact g9 _
 | cons p r ih=>
  unfold a0x
  split
  ·simp
  ·rw[C0,C0];omega
theorem b6h:∀x,x∈(a0x S n i).map (·.1)↔x∈S.map (·.1)\/x=n:=by
 intro x
 induction S with
 | nil=>simp[a0x]
 | cons p r ih=>
  unfold a0x
  split
  ·rename_i e
   simp only[E8,d5]
   constructor
   ·intro h;exact .inl h
   ·rintro(h | h)
    ·exact h
    ·exact .inl (h.trans e.symm)
  ·simp only[E8,d5,ih]
   constructor
   ·rintro(h | h | h)
    ·exact .inl (.inl h)
    ·exact .inl (.inr h)
    ·exact .inr h
   ·rintro((h | h) | h)
    ·exact .inl h
    ·exact .inr (.inl h)
    ·exact .inr (.inr h)
theorem bdS.put(h:bdS S)(h0:0<=i)(h1:i<1000000000000):bdS (a0x S n i):=by
 induction S with
 | nil=>exact⟨by simp[a0x],fun p hp=>by rw[show a0x [] n i=[(n,i)] from rfl,g8]at hp;rw[hp];exact⟨h0,h1⟩⟩
 | cons p r ih=>
  obtain⟨a,b⟩:=h
  obtain⟨n1,n2⟩:=F0.mp a
  unfold a0x
  by_cases e:p.1=n
  ·rw[if_pos e]
   exact⟨a,fun q hq=>(d5.mp hq).elim (fun z=>by rw[z];exact⟨h0,h1⟩) fun z=>b q (A9 _ z)⟩
  ·rw[if_neg e]
   obtain⟨c,d⟩:=ih ⟨n2,fun q hq=>b q (A9 _ hq)⟩
   refine⟨F0.mpr ⟨fun z=>?_,c⟩,fun q hq=>(d5.mp hq).elim (fun z=>by rw[z];exact b p (D8 ..)) (d q)⟩
   rcases(b6h (S:=r) p.1).mp z with z | z
   ·exact n1 z
   ·exact e z
theorem bdS.get(h:bdS S):0<=a3w S s/\a3w S s<1000000000000:=by
 induction S with
 | nil=>exact⟨(by decide:(0:Int)<=0),(by decide:(0:Int)<1000000000000)⟩
 | cons p r ih=>
  obtain⟨a,b⟩:=h
  unfold a3w
  split
  ·exact b p (D8 ..)
  ·exact ih ⟨(F0.mp a).2,fun q hq=>b q (A9 _ hq)⟩
theorem bdS.wof(h:bdS S)(o:OpN v):0<=X1 S v/\X1 S v<1000000000000:=by
 rcases o with ⟨s,rfl,_⟩ | ⟨i,rfl,h0,h1⟩
 ·exact h.get
 ·exact⟨h0,h1⟩
theorem c5A{k:Str}{x y:Int}:0<=wv k x y/\wv k x y<1000000000000:=by
 unfold wv
 split
 ·omega
 split
 ·omega
 split
 ·exact⟨R0 _ (by decide),O8 _ (by decide)⟩
 split <;> split <;> omega
theorem RwS.ts(h:RwS H xs w)(t:J1 H H'):RwS H' xs w:=by
 cases w with
 | set n k a b=>obtain⟨q,h1,h2,h3⟩:=h;exact⟨q,h1,t _ _ h2,h3⟩
 | _=>exact h
theorem a3O.rw(h:a3O H xs):∃w,RwS H xs w:=by
 cases h with
 | set n p nm d=>obtain⟨k,a,b,h,o1,o2,_⟩:=d;exact⟨.set n k a b,p,rfl,h,o1,o2,nm⟩
 | copy n v nm o=>exact⟨.copy n v,rfl,o,nm⟩
 | take n nm=>exact⟨.take n,rfl,nm⟩
 | tell v o=>exact⟨.tell v,rfl,o⟩
 | ask v o=>exact⟨.ask v,rfl,o⟩
 | skip=>exact⟨.skip,rfl⟩
end
section
variable {K:Fg}{l:Addr}{S:Sto}{v1 v2:V}{L:List Int}{kd:Str}{E:XK}
theorem a4f(a b:Str):(decide (V.str a=V.str b)=true)↔a=b:=⟨fun h=>V.str.inj (of_decide_eq_true h),fun h=>c8s (congrArg V.str h)⟩
theorem b8g{td ty tx:TE}(h:td σ H fun x H1=>∃a,x=.ref a/\IsD H1 a/\ty σ H1 fun y H2=>tx σ H2 fun z H3=>∃o,a3C H3 a y o/\Q (o.getD z) H3):a3i td ty tx σ H Q:=h
theorem a1i(hS:H a=some (.dK (SD S)))(o:OpN v)(k:Q (.int (X1 S v)) H):W3 K [v,.ref a] H Q E:=by
 refine⟨rfl,?_⟩
 unfold a8t
 nofun
 rcases o with ⟨x,rfl,_⟩ | ⟨n,rfl,_⟩
 ·refine a1z (s := "str") rfl (by decide) ?_
  refine⟨_,rfl,?_⟩
  exists D9 (by decide) ?_
  specialize b8g ?_
  exists ⟨a,rfl,.inl ⟨_,.inl hS⟩,?_⟩
  refine⟨_,a3C.k (k:=Sum.inr x) hS,?_⟩
  have k:Q (.int (a3w S x)) H:=k
  rcases c5a (S:=S) (s:=x)with ⟨e,z⟩ | e
  ·rw[e];rw[z]at k;exact k
  ·rw[e];exact k
 ·refine a1z (s := "int") rfl (by decide) ?_
  refine⟨_,rfl,?_⟩
  exists v4 (by decide) ?_
  exact k
theorem b7C(hp:H p=some (.tup [.str kd,v1,v2]))(hS:H a=some (.dK (SD S)))(bd:bdS S)(o1:OpN v1)(o2:OpN v2)(k:Q (.int (wv kd (X1 S v1) (X1 S v2))) H):a6e K [.ref p,.ref a] H Q E:=by
 obtain⟨x0,x1⟩:=bd.wof o1
 obtain⟨y0,y1⟩:=bd.wof o2
 refine⟨rfl,?_⟩
 unfold b5g
 nofun
 exists C3 hp (U0 _ _) ?_
 nofun
 exists C3 hp (a0Z _ _ _) ?_
 exists a1i hS o1 ?_
 nofun
 exists C3 hp (a4T _ _ _ _) ?_
 refine a1i hS o2 ?_
 generalize X1 S v1=x at *
 generalize X1 S v2=y at *
 unfold wv at k
 ext
 nofun
 refine Y4 (fun e=>?_) (fun e=>?_)
 ·rw[if_pos ((a4f _ _).mp e)]at k
  ext
  exact a0G (by decide) k
 rw[if_neg (fun z=>e ((a4f _ _).mpr z))]at k
 ext
 nofun
 refine Y4 (fun e=>?_) (fun e=>?_)
 ·rw[if_pos ((a4f _ _).mp e)]at k
  ext
  exact a0G (by decide) k
 rw[if_neg (fun z=>e ((a4f _ _).mpr z))]at k
 ext
 nofun
 refine Y4 (fun e=>?_) (fun e=>?_)
 ·rw[if_pos ((a4f _ _).mp e)]at k
  ext
  exists a0G (.inl (by omega)) ?_
  exact a0G (by decide) k
 rw[if_neg (fun z=>e ((a4f _ _).mpr z))]at k
 ext
 nofun
 refine Y4 (fun e=>?_) (fun e=>?_)
 ·rw[if_pos ((a4f _ _).mp e)]at k
  ext
  refine Y4 (fun e=>?_) (fun e=>?_)
  ·rw[if_pos (by simpa using e)]at k
   ext
   exact k
  ·rw[if_neg (by simpa using e)]at k
   ext
   exact k
 rw[if_neg (fun z=>e ((a4f _ _).mpr z))]at k
 ext
 refine Y4 (fun e=>?_) (fun e=>?_)
 ·rw[if_pos (by simpa using e)]at k
  ext
  exact k
 ·rw[if_neg (by simpa using e)]at k
  ext
  exact k
def b5X(w:Rw)(S:Sto)(L:List Int):Option (Str×Int):=match w with
 | .set n k a b=>some (n,wv k (X1 S a) (X1 S b))
 | .copy n v=>some (n,X1 S v)
 | .take n=>some (n,L.getLast?.getD 0)
 | _=>none
def b9d(w:Rw)(L:List Int):List Int:=match w with
 | .take _=>L.dropLast
 | _=>L
theorem b8i(h:RwS H xs w):sbV xs=(b5X w S L).map (·.1):=by
 cases w with
 | set n k a b=>obtain⟨q,rfl,_⟩:=h;rfl
 | copy n v=>obtain⟨rfl,_⟩:=h;rfl
 | take n=>obtain⟨rfl,_⟩:=h;rfl
 | tell v=>obtain⟨rfl,o⟩:=h;rcases o with ⟨s,rfl,_⟩ | ⟨i,rfl,_⟩ <;> rfl
 | ask v=>obtain⟨rfl,o⟩:=h;rcases o with ⟨s,rfl,_⟩ | ⟨i,rfl,_⟩ <;> rfl
 | skip=>cases h;rfl
def cpW(w:Rw):Option (Str×V):=match w with
 | .copy n v=>some (n,v)
 | _=>none
theorem c5O(h:RwS H xs w):cpV xs=cpW w:=by
 cases w with
 | set n k a b=>obtain⟨q,rfl,_⟩:=h;rfl
 | copy n v=>obtain⟨rfl,_⟩:=h;rfl
 | take n=>obtain⟨rfl,_⟩:=h;rfl
 | tell v=>obtain⟨rfl,o⟩:=h;rcases o with ⟨s,rfl,_⟩ | ⟨i,rfl,_⟩ <;> rfl
 | ask v=>obtain⟨rfl,o⟩:=h;rcases o with ⟨s,rfl,_⟩ | ⟨i,rfl,_⟩ <;> rfl
 | skip=>cases h;rfl
theorem c0q{n:Str}{i:Int}(h:RwS H xs w)(bd:bdS S)(bl:∀x∈L,0<=x/\x<1000000000000)(e:b5X w S L=some (n,i)):0<=i/\i<1000000000000:=by
 cases w with
 | set n k a b=>cases e;exact c5A
 | copy n v=>cases e;exact bd.wof h.2.1
 | take n=>
  cases e
  cases z:L.getLast? with
  | none=>exact⟨by decide,by decide⟩
  | some x=>exact bl x (List.mem_of_getLast? z)
 | _=>cases e
theorem b0A{n:Str}{i:Int}(hp:H p=some (.tup xs))(h:RwS H xs w)(hS:H a=some (.dK (SD S)))(bd:bdS S)(hL:H l=some (.lst (L.map V.int)))(e:b5X w S L=some (n,i))
  (k:∀H',H' l=some (.lst ((b9d w L).map V.int))->(∀b o,b≠l->H b=some o->H' b=some o)->Q (.int i) H'):a1F K [.ref p,.ref a,.ref l] H Q E:=by
 refine⟨rfl,?_⟩
 unfold a7z
 nofun
 cases w with
 | set n k0 a0 b0=>
  obtain⟨q,rfl,hq,o1,o2,nm⟩:=h
  cases e
  exists C3 hp (U0 _ _) ?_
  exists D9 (by decide) ?_
  exists C3 hp (a4T _ _ _ _) ?_
  exact b7C hq hS bd o1 o2 (k H hL fun b o _ e=>e)
 | copy n v=>
  obtain⟨rfl,o,nm⟩:=h
  cases e
  exists C3 hp (U0 _ _) ?_
  exists v4 (by decide) ?_
  nofun
  exists C3 hp (U0 _ _) ?_
  exists D9 (by decide) ?_
  exists C3 hp (a4T _ _ _ _) ?_
  exact a1i hS o (k H hL fun b o _ e=>e)
 | take n=>
  obtain⟨rfl,nm⟩:=h
  cases e
  exists C3 hp (U0 _ _) ?_
  exists v4 (by decide) ?_
  nofun
  exists C3 hp (U0 _ _) ?_
  exists v4 (by decide) ?_
  exists N8 hL ?_
  rcases List.eq_nil_or_concat L with rfl | ⟨L',x,rfl⟩
  ·exists v4 (by decide) ?_
   exact k H hL fun b o _ e=>e
  ·exists D9 (by simp) ?_
   specialize c2v ?_
   rw[a5p,D1]at hL
   refine⟨a0A hL,c2y hL ?_⟩
   have k':=k (upd H l (.lst (L'.map V.int))) (by rw[d6];show _=some (HO.lst (((L'.concat x).dropLast).map V.int));rw[a5p,List.dropLast_concat]) (fun b o nb e=>by rw[l7 nb];exact e)
   rw[a5p,List.getLast?_concat]at k'
   exact k'
 | _=>cases e
theorem a8B{t:Nat}(hp:H p=some (.tup xs))(h:RwS H xs w)(hS:H a=some (.dK (SD S)))(k:∀q H',H q=none->H' q=some (.tup [.int (t:Int),.int (a2Y w S)])->t9 H H'->Q (.ref q) H'):a0C K [.int (t:Int),.ref p,.ref a] H Q E:=by
 refine⟨rfl,?_⟩
 unfold a5f
 nofun
 cases w with
 | set n k0 a0 b0=>
  obtain⟨q0,rfl,_⟩:=h
  exists C3 hp (U0 _ _) ?_
  refine v4 (by decide) ?_
  exists v4 (by decide) ?_
  refine E3 (by simp) fun q H1 hq e1 s1=>?_
  exact k q H1 hq e1 s1
 | copy n v=>
  obtain⟨rfl,_⟩:=h
  exists C3 hp (U0 _ _) ?_
  refine v4 (by decide) ?_
  exists v4 (by decide) ?_
  refine E3 (by simp) fun q H1 hq e1 s1=>?_
  exact k q H1 hq e1 s1
 | take n=>
  obtain⟨rfl,_⟩:=h
  exists C3 hp (U0 _ _) ?_
  refine v4 (by decide) ?_
  exists v4 (by decide) ?_
  refine E3 (by simp) fun q H1 hq e1 s1=>?_
  exact k q H1 hq e1 s1
 | tell v=>
  obtain⟨rfl,_⟩:=h
  exists C3 hp (U0 _ _) ?_
  refine v4 (by decide) ?_
  exists v4 (by decide) ?_
  refine E3 (by simp) fun q H1 hq e1 s1=>?_
  exact k q H1 hq e1 s1
 | skip=>
  obtain rfl:=h
  exists C3 hp (U0 _ _) ?_
  refine v4 (by decide) ?_
  exists v4 (by decide) ?_
  refine E3 (by simp) fun q H1 hq e1 s1=>?_
  exact k q H1 hq e1 s1
 | ask v=>
  obtain⟨rfl,o⟩:=h
  exists C3 hp (U0 _ _) ?_
  exists D9 (by decide) ?_
  exists C3 hp (a0Z _ _ _) ?_
  exists a1i hS o ?_
  have k:∀q H',H q=none->H' q=some (.tup [.int (t:Int),.int (if X1 S v=0 then 1 else 0)])->t9 H H'->Q (.ref q) H':=k
  by_cases z:X1 S v=0
  ·rw[if_pos z]at k
   exists D9 (by rw[z];rfl) ?_
   refine E3 (by simp) fun q H1 hq e1 s1=>?_
   exact k q H1 hq e1 s1
  ·rw[if_neg z]at k
   exists v4 (c8r fun q=>z (V.int.inj q)) ?_
   refine E3 (by simp) fun q H1 hq e1 s1=>?_
   exact k q H1 hq e1 s1
end
theorem c4v(r n e:Addr)(m:Str)(h:m∉(["rows","nexts","entries"]:List Str)):([("rows",.ref r),("nexts",.ref n),("entries",.ref e)]:List (Str×V)).lookup m=none:=by
 rw[List.lookup_eq_none_iff]
 intro p hp
 simp only[d5,o6,or_false]at h hp
 rcases hp with rfl | rfl | rfl
 ·simp;intro z;exact h (.inl z)
 ·simp;intro z;exact h (.inr (.inl z))
 ·simp;intro z;exact h (.inr (.inr z))
def b3y(K:Fg)(H:Hp)(q:Addr)(r:Rs):Prop:=∃tl wl sl,H q=some (.tup [.ref tl,.ref wl,.ref sl,.bl r.e])/\H tl=some (.lst (r.T.map V.int))/\J3 K H wl r.W/\H sl=some (.dK (SD r.S))/\bdS r.S
def c5k(N:Nt)(W:Nat->Rw):Prop:=∀(i:Nat) l,N[i]? = some l->(l.length=2↔∃v,W i=.ask v)
section
variable {K:Fg}{x:Addr}{W:Nat->Rw}{S:Sto}{L T:List Int}{E:XK}
theorem b5v{n:Str}{i:Int}(e:b5X w S L=some (n,i)):doR w S L T=(a0x S n i,b9d w L,T):=by
 cases w with
 | set n k a b=>cases e;rfl
 | copy n v=>cases e;rfl
 | take n=>cases e;rfl
 | _=>cases e
theorem b2z(S':Sto)(h:a2Y w S'≠0):∃v,w=.ask v:=by
 cases w with
 | ask v=>exact⟨v,rfl⟩
 | _=>exact(h rfl).elim
theorem b0J(S':Sto):a2Y w S'=0\/a2Y w S'=1:=by
 cases w with
 | ask v=>show(if _ then _ else _)=_\/(if _ then _ else _)=_;split;exact .inr rfl;exact .inl rfl
 | _=>exact .inl rfl
theorem J3.snoc{wl:Addr}{Ws:List Stp}{ps:List Addr}(h1:H wl=some (.lst (ps.map V.ref)))(h2:ps.length=Ws.length)(h3:∀(i:Nat) x s,ps[i]? = some x->Ws[i]? = some s->a1B K H x s)(ha:a1B K H a s):J3 K (upd H wl (.lst (ps.map V.ref++[.ref a]))) wl (Ws++[s]):=by
 have tp:J1 H (upd H wl (.lst (ps.map V.ref++[.ref a]))):=J1.put h1
 refine⟨ps++[a],by rw[d6,D1];rfl,by simp[h2],fun i p t f1 f2=>?_⟩
 rcases W5 f1 with ⟨hi,f1⟩ | ⟨hi,f1⟩
 ·rcases W5 f2 with ⟨_,f2⟩ | ⟨hj,_⟩
  ·exact(h3 i p t f1 f2).ts tp
  ·omega
 ·subst f1
  rcases W5 f2 with ⟨hj,_⟩ | ⟨_,f2⟩
  ·omega
  ·subst f2
   exact ha.ts tp
theorem J3.off{wl:Addr}{Ws:List Stp}(h:J3 K H wl Ws)(n:wl≠a)(t:J1 H (upd H a o)):J3 K (upd H a o) wl Ws:=by
 obtain⟨ps,h1,h2,h3⟩:=h.ex
 exact⟨ps,by rw[l7 n];exact h1,h2,fun i p s a c=>(h3 i p s a c).ts t⟩
theorem c3i{r:Rs}(h:r.e=true):∀m,rn N W m r=r
 | 0=>rfl
 | m+1=>by unfold rn;rw[if_pos h]
theorem c3f{st tk:Addr}{S0:Sto}{L0:List Int}(ck:a3D K c)(hz:a2n K c Z rs H x N)(hv:a0t N)(hr:a3J H rs RC)(hw:∀(i:Nat) p,rs[i]? = some p->RwS H (RC i) (W i))(ha:c5k N W)
  (hst:H st=some (.dK (SD S0))) (bd:bdS S0) (l0:S0.length<=100) (htk:H tk=some (.lst (L0.map V.int))) (bl:∀x∈L0,0<=x/\x<1000000000000) (hm:m<=1000)
  (k:∀q H',b3y K H' q (rn N W m ⟨S0,L0.reverse,[],[],FST,false⟩)->t9 H H'->Q (.ref q) H'):a4g K c [.ref x,.ref st,.ref tk,.int (m:Int)] H Q E:=by
 have h400:=hv.le
 have hp:=hz.r
 have h6:rs.length=N.length:=by obtain⟨_,_,_,_,_,_,_,_,_,q⟩:=id hp.ex;exact q
 obtain⟨dx,r0,n0,e0,es,ns',h1,⟨_,h5⟩,h3a,h3b,h3c,_⟩:=id hz.ex
 have h3:E6 H n0 N:=⟨ns',h3a,h3b,h3c⟩
 refine⟨rfl,?_⟩
 unfold c2p
 nofun
 unfold a5i
 simp only[hst]
 intro sd hsd
 have s1:t9 H (upd H sd (.dK (SD S0))):=A0 hsd
 obtain⟨H1,hH1⟩:∃H1,H1=upd H sd (.dK (SD S0)):=⟨_,rfl⟩
 have d1:H1 sd=some (.dK (SD S0)):=hH1 ▸ d6
 rw[<-hH1]at s1 ⊢
 ext
 exact_mod_cast U4 ?_
 exact_mod_cast b8h ?_
 show b5k _ _ _ _
 refine⟨_,rfl,tk,_,rfl,s1 _ _ htk,fun lf hlf=>?_⟩
 have s2:t9 H1 (upd H1 lf (.lst (L0.map V.int).reverse)):=A0 hlf
 obtain⟨H2,hH2⟩:∃H2,H2=upd H1 lf (.lst (L0.map V.int).reverse):=⟨_,rfl⟩
 have f2:H2 lf=some (.lst (L0.reverse.map V.int)):=by rw[hH2,d6,List.map_reverse]
 rw[<-hH2]at s2 ⊢
 ext
 nofun
 exists E3 (by simp) fun tl H3 htl t3 s3=>?_
 nofun
 exists E3 (by simp) fun wl H4 hwl w4 s4=>?_
 nofun
 nofun
 have s04:=((s1.trans s2).trans s3).trans s4
 have n1:lf≠tl:=d9 f2 htl
 have n2:lf≠wl:=d9 (s3 _ _ f2) hwl
 have n3:tl≠wl:=d9 t3 hwl
 have flf:H lf=none:=s1.free hlf
 have ftl:H tl=none:=(s1.trans s2).free htl
 have fwl:H wl=none:=((s1.trans s2).trans s3).free hwl
 obtain⟨q0,hq0⟩:∃q0:Rs,q0=⟨S0,L0.reverse,[],[],FST,false⟩:=⟨_,rfl⟩
 rw[<-hq0]at k
 exact_mod_cast U4 ?_
 exact_mod_cast b0Q ?_
 refine⟨fun μ σ Hi=>∃(q:Rs) (sa:Addr) (y10 y11:Option V),σ=[some (.ref x),some (.ref st),some (.ref tk),some (.int (m:Int)),some (.ref sd),some (.ref lf),some (.ref tl),some (.ref wl),some (.ref sa),some (.bl q.e),y10,y11]/\Hi sd=some (.dK (SD q.S))/\Hi lf=some (.lst (q.L.map V.int))/\Hi tl=some (.lst (q.T.map V.int))/\J3 K Hi wl q.W/\a1B K Hi sa q.p/\t9 H Hi/\bdS q.S/\(∀x∈q.L,0<=x/\x<1000000000000)/\q.S.length<=100+q.W.length/\q.T.length<=q.W.length/\q.W.length<=m/\(q.e=false->a5O N q.p)/\rn N W (m - q.W.length) q=rn N W m q0/\μ=m - q.W.length,?_,?_⟩
 ·subst hq0
  exact⟨_,⟨S0,L0.reverse,[],[],FST,false⟩,_,_,_,rfl,s4 _ _ (s3 _ _ (s2 _ _ d1)),s4 _ _ (s3 _ _ f2),s4 _ _ t3,⟨[],w4,rfl,fun i p s e=>(nomatch e)⟩,.inr ⟨rfl,ck.a1K⟩,s04,bd,fun x hx=>bl x (List.mem_reverse.mp hx),by simpa using l0,g9 _,J7 _,fun _=>.inl rfl,rfl,rfl⟩
 rintro μ _ Hi ⟨q,sa,y10,y11,rfl,g1,g2,g3,g4,g5,si,b1,b2,b3,b4,b5,is,er,rfl⟩
 obtain⟨ps,p1,p2,p3⟩:=id g4.ex
 ext
 refine N8 p1 ?_
 rw[b7,p2]
 ext
 have fin:rn N W m q0=q->F8 (a0S (b6 (c6 6) (b6 (c6 7) (b6 (c6 4) (b6 (c6 9) (i9)))))) { nx:=fun _ H'=>Q .non H',rt:=Q } [some (.ref x),some (.ref st),some (.ref tk),some (.int (m:Int)),some (.ref sd),some (.ref lf),some (.ref tl),some (.ref wl),some (.ref sa),some (.bl q.e),y10,y11] Hi:=fun e=>by
  ext
  refine E3 (by simp) fun tp H5 htp e5 s5=>?_
  refine k tp H5 ?_ (si.trans s5)
  rw[e]
  exact⟨tl,wl,sd,e5,s5 _ _ g3,g4.same s5,s5 _ _ g1,b1⟩
 by_cases hge:m<=q.W.length
 ·have hz:q.W.length=m:=by omega
  refine v4 (c8r (by omega)) ?_
  refine v4 rfl ?_
  exact fin (by rw[<-er,hz,Nat.sub_self];rfl)
 have hlt:q.W.length<m:=by omega
 exists D9 (c8s (by omega)) ?_
 cases he:q.e with
 | true=>
  refine v4 rfl ?_
  rw[<-he]
  exact fin (by rw[<-er,c3i he])
 | false=>
 refine D9 rfl ?_
 refine⟨fun σ Hj=>∃(q':Rs) (sa:Addr) (y10 y11:Option V),σ=[some (.ref x),some (.ref st),some (.ref tk),some (.int (m:Int)),some (.ref sd),some (.ref lf),some (.ref tl),some (.ref wl),some (.ref sa),some (.bl q'.e),y10,y11]/\Hj sd=some (.dK (SD q'.S))/\Hj lf=some (.lst (q'.L.map V.int))/\Hj tl=some (.lst (q'.T.map V.int))/\J3 K Hj wl q'.W/\a1B K Hj sa q'.p/\t9 H Hj/\bdS q'.S/\(∀x∈q'.L,0<=x/\x<1000000000000)/\q'.S.length<=100+q'.W.length/\q'.T.length<=q'.W.length/\q'.W.length<=m/\(q'.e=false->a5O N q'.p)/\rn N W (m - q'.W.length) q'=rn N W m q0/\q'.W.length=q.W.length+1,?_,?_⟩
 ·rintro σ' Hj ⟨q',sa,y10,y11,a1,a2,a3,a4,a5,a6,a7,a8,a9,a10,a11,a12,a13,a14,a15⟩
  exact⟨_,by omega,q',sa,y10,y11,a1,a2,a3,a4,a5,a6,a7,a8,a9,a10,a11,a12,a13,a14,rfl⟩
 have is:=is he
 obtain⟨t,ht⟩:∃t,t=a1k N q.p:=⟨_,rfl⟩
 have htn:t<N.length:=ht ▸ b1p hv is
 obtain⟨l,hle⟩:∃l,l=N[t]:=⟨_,rfl⟩
 have hl:=I0 htn
 rw[<-hle]at hl
 obtain⟨rx,hrx⟩:∃rx,rs[t]? = some rx:=⟨_,d8 (by omega)⟩
 nofun
 specialize b0X ?_
 exists ⟨a0A p1,?_⟩
 refine a3a p1 (F9 (by rw[b7];omega)) ?_
 have tp:J1 Hi (upd Hi wl (.lst (ps.map V.ref++[.ref sa]))):=J1.put p1
 have w5:=J3.snoc p1 p2 p3 g5
 obtain⟨H5,hH5⟩:∃H5,H5=upd Hi wl (.lst (ps.map V.ref++[.ref sa])):=⟨_,rfl⟩
 have sd5:H5 sd=some (.dK (SD q.S)):=by rw[hH5,l7 (L6 g1 p1 (by intro z;cases z))];exact g1
 have lf5:H5 lf=some (.lst (q.L.map V.int)):=by rw[hH5,l7 n2];exact g2
 have tl5:H5 tl=some (.lst (q.T.map V.int)):=by rw[hH5,l7 n3];exact g3
 have s5:t9 H H5:=fun b o e=>by rw[hH5,l7 (d9 e fwl)];exact si _ _ e
 rw[<-hH5]at tp w5 ⊢
 ext
 nofun
 specialize b8c ?_
 exists ⟨x,dx,_,rfl,s5 _ _ h1,c4v r0 n0 e0 _ (by decide),?_⟩
 refine a7I ck ((hp.same s5).x) (g5.ts tp) is ?_
 rw[<-ht]
 ext
 nofun
 specialize a1y ?_
 exists ⟨x,_,dx,_,.ref r0,rfl,s5 _ _ h1,ck.L7,ck.K9,rfl,?_⟩
 exists L5 (s5 _ _ h5) (Z5 (by rw[c9,hrx];rfl)) ?_
 have rX:=(hr t rx hrx).ts (t9.ts s5)
 have rW:=(hw t rx hrx).ts (t9.ts s5)
 obtain⟨hx,rS⟩:=id rX
 exact_mod_cast a0M (P:=fun σ Hj=>σ=[some (.ref x),some (.ref st),some (.ref tk),some (.int (m:Int)),some (.ref sd),some (.ref lf),some (.ref tl),some (.ref wl),some (.ref sa),some (.bl false),some (.int (t:Int)),some (.ref rx)]/\Hj sd=some (.dK (SD (doR (W t) q.S q.L q.T).1))/\Hj lf=some (.lst ((doR (W t) q.S q.L q.T).2.1.map V.int))/\Hj tl=some (.lst ((doR (W t) q.S q.L q.T).2.2.map V.int))/\J3 K Hj wl (q.W++[q.p])/\t9 H Hj/\bdS (doR (W t) q.S q.L q.T).1/\(∀x∈(doR (W t) q.S q.L q.T).2.1,0<=x/\x<1000000000000)/\(doR (W t) q.S q.L q.T).1.length<=q.S.length+1/\(doR (W t) q.S q.L q.T).2.2.length<=q.T.length+1) ?_ ?_
 rotate_left
 ·intro nx hnx
  ext
  refine a6R rX fun H6 s6=>?_
  have s56:=s5.trans s6
  cases hs:b5X (W t) q.S q.L with
  | some ni=>
   obtain⟨n,i⟩:=ni
   have esb:sbV (RC t)=some n:=by rw[b8i (S:=q.S) (L:=q.L) rW,hs];rfl
   rw[esb]
   refine⟨rfl,_,rfl,D9 rfl ?_⟩
   specialize a2i ?_
   exists b0A (s6 _ _ hx) (rW.ts (t9.ts s6)) (s6 _ _ sd5) b1 (s6 _ _ lf5) hs fun H7 lf7 o7=>?_
   have ne7:∀ {b:Addr} {o:HO},H6 b=some o->(∀xs,o≠.lst xs)->H7 b=some o:=fun {b o} e z=>o7 b o (fun q=>by rw[q,s6 _ _ lf5]at e;cases e;exact z _ rfl) e
   have t7:J1 H6 H7:=fun b ys e=>ne7 e fun _ z=>nomatch z
   have s07:t9 H H7:=fun b o e=>o7 b o (d9 e flf) (s56 _ _ e)
   refine a6R (rX.ts (J1.trans (t9.ts s6) t7)) fun H8 s8=>?_
   rw[esb]
   have sd8:H8 sd=some (.dK (SD q.S)):=s8 _ _ (ne7 (s6 _ _ sd5) fun _ z=>nomatch z)
   refine⟨sd,_,rfl,a4W.k (k:=Sum.inr n) sd8 (F9 (by unfold SD;rw[b7];omega)),?_⟩
   rw[b9D b1.1]
   have b8:=c0q rW b1 b2 hs
   rw[b5v hs]at hnx
   have t8:J1 H8 (upd H8 sd (.dK (SD (a0x q.S n i)))):=fun b ys e=>(l7 (L6 e sd8 (by intro z;cases z))).trans e
   have up:∀ {a:Addr} {ys:List V},H8 a=some (.lst ys)->upd H8 sd (.dK (SD (a0x q.S n i))) a=some (.lst ys):=fun {a ys} e=>(l7 (L6 e sd8 (by intro z;cases z))).trans e
   refine hnx _ _ ⟨rfl,d6,up (s8 _ _ lf7),up (s8 _ _ (o7 tl _ n1.symm (s6 _ _ tl5))),?_,fun b o e=>by rw[l7 (d9 e hsd)];exact s8 _ _ (s07 _ _ e),b1.put b8.1 b8.2,fun x hx=>b2 x ?_,b2M,W1 _⟩
   ·obtain⟨ps',a1,a2,a3⟩:=(w5.same s6).ex
    have w7:J3 K H7 wl (q.W++[q.p]):=⟨ps',o7 wl _ n2.symm a1,a2,fun i p s e1 e2=>(a3 i p s e1 e2).ts t7⟩
    exact(w7.same s8).off (L6 (s8 _ _ (o7 wl _ n2.symm a1)) sd8 (by intro z;cases z)) t8
   ·have hx:x∈b9d (W t) q.L:=hx
    cases hw':W t with
    | take n=>rw[hw']at hx;exact List.dropLast_subset _ hx
    | _=>rw[hw']at hx;exact hx
  | none=>
   have esb:sbV (RC t)=none:=by rw[b8i (S:=q.S) (L:=q.L) rW,hs];rfl
   rw[esb]
   exists ⟨rfl,_,rfl,v4 rfl ?_⟩
   have hx6:=s6 _ _ hx
   generalize hwt:W t=wt at rW hs hnx
   have stay:doR wt q.S q.L q.T=(q.S,q.L,q.T)->nx [some (.ref x),some (.ref st),some (.ref tk),some (.int (m:Int)),some (.ref sd),some (.ref lf),some (.ref tl),some (.ref wl),some (.ref sa),some (.bl false),some (.int (t:Int)),some (.ref rx)] H6:=fun e=>by
    rw[e]at hnx
    exact hnx _ _ ⟨rfl,s6 _ _ sd5,s6 _ _ lf5,s6 _ _ tl5,w5.same s6,s56,b1,b2,W1 _,W1 _⟩
   cases wt with
   | set n k0 a0 b0=>cases hs
   | copy n v=>cases hs
   | take n=>cases hs
   | tell v=>
    obtain⟨exs,o⟩:=rW
    rw[exs]at hx6
    exists C3 hx6 (U0 _ _) ?_
    exists D9 (by decide) ?_
    specialize b0X ?_
    exists ⟨a0A (s6 _ _ tl5),?_⟩
    exists C3 hx6 (a0Z _ _ _) ?_
    exists a1i (s6 _ _ sd5) o ?_
    refine a3a (s6 _ _ tl5) (F9 (by rw[b7];omega)) ?_
    have t7:J1 H6 (upd H6 tl (.lst (q.T.map V.int++[.int (X1 q.S v)]))):=J1.put (s6 _ _ tl5)
    refine hnx _ _ ⟨rfl,by rw[l7 (L6 (s6 _ _ sd5) (s6 _ _ tl5) (by intro z;cases z))];exact s6 _ _ sd5,by rw[l7 n1];exact s6 _ _ lf5,by rw[d6];show _=some (HO.lst ((q.T++[X1 q.S v]).map V.int));rw[D1];rfl,(w5.same s6).off n3.symm t7,fun b o e=>by rw[l7 (d9 e ftl)];exact s56 _ _ e,b1,b2,W1 _,by show(q.T++[_]).length<=_;simp⟩
   | ask v=>
    obtain⟨exs,o⟩:=rW
    rw[exs]at hx6
    exists C3 hx6 (U0 _ _) ?_
    exists v4 (by decide) ?_
    exact stay rfl
   | skip=>
    have exs:RC t=[.str "skip"]:=rW
    rw[exs]at hx6
    exists C3 hx6 (U0 _ _) ?_
    exists v4 (by decide) ?_
    exact stay rfl
 rintro _ Hj ⟨rfl,j1,j2,j3,j4,j5,j6,j7,j8,j9⟩
 obtain⟨us,y,f1,f2',f3,_⟩:=(h3.same j5).at hl
 nofun
 specialize a1y ?_
 exists ⟨x,_,dx,_,.ref n0,rfl,j5 _ _ h1,ck.L7,ck.O2,rfl,?_⟩
 exists L5 f1 f2' ?_
 refine N8 f3 ?_
 rw[O5]
 ext
 exists a8B ((hr t rx hrx).ts (t9.ts j5)).1 ((hw t rx hrx).ts (t9.ts j5)) j1 fun sb Hk hsb ek sk=>?_
 have gd:N.getD t []=l:=by rw[a2P,hl];rfl
 have e1:st1 N W q=⟨(doR (W t) q.S q.L q.T).1,(doR (W t) q.S q.L q.T).2.1,(doR (W t) q.S q.L q.T).2.2,q.W++[q.p],((t:Int),a2Y (W t) (doR (W t) q.S q.L q.T).1),decide (l.length=0)⟩:=by
  unfold st1
  rw[<-ht]
  show Rs.mk _ _ _ _ _ (decide ((N.getD t []).length=0))=_
  rw[gd]
 refine⟨st1 N W q,sb,some (.int (t:Int)),some (.ref rx),?_,?_⟩
 ·rw[e1]
  show _=[_,_,_,_,_,_,_,_,_,some (V.bl (decide (l.length=0))),_,_]
  rw[show decide (V.int (l.length:Int)=V.int 0)=decide (l.length=0)from decide_eq_decide.mpr ⟨fun z=>by have:=V.int.inj z;omega,fun z=>by rw[z];rfl⟩]
  rfl
 rw[e1]
 refine⟨sk _ _ j1,sk _ _ j2,sk _ _ j3,j4.same sk,.inl ek,j5.trans sk,j6,j7,?_,?_,?_,fun z=>?_,?_,?_⟩
 ·show(doR (W t) q.S q.L q.T).1.length<=100+(q.W++[q.p]).length
  rw[p5,C1];omega
 ·show(doR (W t) q.S q.L q.T).2.2.length<=(q.W++[q.p]).length
  rw[p5,C1];omega
 ·show(q.W++[q.p]).length<=m
  rw[p5,C1];omega
 ·have z:¬l.length=0:=of_decide_eq_false z
  have l2:=hv.two l (mI hl)
  refine .inr ⟨t,(a2Y (W t) (doR (W t) q.S q.L q.T).1).toNat,l,_,?_,hl,d8 ?_⟩
  ·rcases b0J (w:=W t) (doR (W t) q.S q.L q.T).1 with u | u <;> rw[u] <;> rfl
  ·rcases b0J (w:=W t) (doR (W t) q.S q.L q.T).1 with u | u
   ·rw[u];show 0<l.length;omega
   ·have:=(ha t l hl).mpr (b2z (doR (W t) q.S q.L q.T).1 (by rw[u];decide))
    rw[u];show 1<l.length;omega
 ·rw[<-e1,<-er]
  show rn N W (m - (q.W++[q.p]).length) _=_
  rw[p5,C1,show m - q.W.length=(m - (q.W.length+1))+1 by omega]
  show _=if q.e=true then q else rn N W _ (st1 N W q)
  rw[if_neg (by rw[he];decide)]
 ·show(q.W++[q.p]).length=_
  rw[p5,C1]
end
def fwW(A:Al)(w:Rw):Rw:=match w with
 | .set n k a b=>.set n k (rdV A a) (rdV A b)
 | .copy n v=>.copy n (rdV A v)
 | .tell v=>.tell (rdV A v)
 | .ask v=>.ask (rdV A v)
 | w=>w
section
variable {RC':Nat->List V}{W:Nat->Rw}{F:Nat->Al}{A:Al}{S:Sto}{L T:List Int}{q:Addr}
theorem c4O(h:RwS H xs w)(fx:FwX H (rdV A) xs q)(hq:H q=some (.tup ys))(nd:ndA A)(fl:FlA A):RwS H ys (fwW A w):=by
 cases w with
 | set n k a b=>
  obtain⟨p,rfl,h1,o1,o2,nm⟩:=h
  obtain⟨q2,kd,a',b',g1,g2,g3⟩:=fx
  rw[h1]at g1
  cases g1
  rw[hq]at g2
  cases g2
  exact⟨q2,rfl,g3,b0f o1 nd fl,b0f o2 nd fl,nm⟩
 | copy n v=>
  obtain⟨rfl,o,nm⟩:=h
  rw[b1y o,hq]at fx
  cases fx
  exact⟨rfl,b0f o nd fl,nm⟩
 | take n=>
  obtain⟨rfl,nm⟩:=h
  have fx:H q=some (.tup [.str "take",.str n]):=fx
  rw[hq]at fx
  cases fx
  exact⟨rfl,nm⟩
 | tell v=>
  obtain⟨rfl,o⟩:=h
  rw[b1x o,hq]at fx
  cases fx
  exact⟨rfl,b0f o nd fl⟩
 | ask v=>
  obtain⟨rfl,o⟩:=h
  rw[b4O o,hq]at fx
  cases fx
  exact⟨rfl,b0f o nd fl⟩
 | skip=>
  cases h
  have fx:H q=some (.tup [.str "skip"]):=fx
  rw[hq]at fx
  cases fx
  rfl
def Agr(N:Nt)(RC:Nat->List V)(S:Sto)(t:Nat):Prop:=∀n v,v≠.str n->¬UnC N RC n v t->a3w S n=X1 S v
theorem c3j{t:Nat}(kn:∀n v,(n,v)∈A↔v≠.str n/\¬UnC N RC n v t)(nd:ndA A)(ag:Agr N RC S t)(v:V):X1 S (rdV A v)=X1 S v:=by
 cases v with
 | str s=>
  show X1 S ((a0w (KD A) (Sum.inr s)).getD (.str s))=_
  cases z:a0w (KD A) (Sum.inr s)with
  | none=>rfl
  | some u=>
   obtain⟨a,b⟩:=(kn s u).mp ((b9L nd).mp z)
   exact(ag s u a b).symm
 | _=>rfl
theorem c6t(h:∀v,X1 S (rdV A v)=X1 S v):doR (fwW A w) S L T=doR w S L T:=by
 cases w with
 | set n k a b=>show(a0x S n (wv k (X1 S (rdV A a)) (X1 S (rdV A b))),L,T)=_;rw[h,h];rfl
 | copy n v=>show(a0x S n (X1 S (rdV A v)),L,T)=_;rw[h];rfl
 | tell v=>show(S,L,T++[X1 S (rdV A v)])=_;rw[h];rfl
 | _=>rfl
theorem c1N(h:∀v,X1 S (rdV A v)=X1 S v):a2Y (fwW A w) S=a2Y w S:=by
 cases w with
 | ask v=>show(if X1 S (rdV A v)=0 then _ else _)=_;rw[h];rfl
 | _=>rfl
theorem b9B:Agr N RC S 0:=fun n v _ un=>(un .zero).elim
theorem b5e{n:Str}{i:Int}(h:v≠.str n):X1 (a0x S n i) v=X1 S v:=by
 cases v with
 | str s=>show a3w _ s=a3w _ s;rw[a9e,if_neg (fun z=>h (by rw[z]))]
 | _=>rfl
theorem b9C{t u:Nat}(hw:RwS H (RC t) (W t))(hl:N[t]? = some l)(hu:u∈l)(ag:Agr N RC S t):Agr N RC (doR (W t) S L T).1 u:=by
 intro n v nv un
 have cp:=c5O hw
 have sb:=b8i (S:=S) (L:=L) hw
 by_cases d:a4P (RC t) n v=true
 ·have e:cpV (RC t)=some (n,v):=of_decide_eq_true d
  rw[cp]at e
  cases hW:W t with
  | copy n' v'=>
   rw[hW]at e
   cases e
   show a3w (a0x S n (X1 S v)) n=X1 (a0x S n (X1 S v)) v
   rw[a9e,if_pos rfl,b5e nv]
  | _=>rw[hW]at e;cases e
 ·have d:a4P (RC t) n v=false:=by simpa using d
  have sp:a9M (RC t) n v=false:=by
   cases z:a9M (RC t) n v with
   | false=>rfl
   | true=>exact(un (.spoil hl hu z)).elim
  have old:=ag n v nv fun z=>un (.step z d hl hu)
  cases hs:b5X (W t) S L with
  | none=>
   have:(doR (W t) S L T).1=S:=by
    cases hW:W t with
    | set n k a b=>rw[hW]at hs;cases hs
    | copy n v=>rw[hW]at hs;cases hs
    | take n=>rw[hW]at hs;cases hs
    | _=>rfl
   rw[this];exact old
  | some mi=>
   obtain⟨m,i⟩:=mi
   rw[b5v hs]
   show a3w (a0x S m i) n=X1 (a0x S m i) v
   rw[hs]at sb
   unfold a9M at sp
   rw[d,sb]at sp
   simp at sp
   rw[a9e,if_neg (fun z=>sp.1 z.symm),b5e sp.2]
   exact old
theorem c2E(hv:a0t N)(hw:∀i,i<N.length->∃H,RwS H (RC i) (W i))(ha:c5k N W)(kF:KnF N RC F):∀(m:Nat) (r:Rs),(r.e=false->a5O N r.p/\Agr N RC r.S (a1k N r.p))->rn N (fun i=>fwW (F i) (W i)) m r=rn N W m r
 | 0,r,_=>rfl
 | m+1,r,h=>by
  unfold rn
  cases he:r.e with
  | true=>rw[if_pos rfl,if_pos rfl]
  | false=>
  rw[if_neg (by decide),if_neg (by decide)]
  obtain⟨is,ag⟩:=h he
  obtain⟨t,ht⟩:∃t,t=a1k N r.p:=⟨_,rfl⟩
  rw[<-ht]at ag
  have htn:t<N.length:=ht ▸ b1p hv is
  obtain⟨nd,fl,mem⟩:=kF t htn
  have rd:=c3j mem nd ag
  have e2:=c6t (w:=W t) (L:=r.L) (T:=r.T) rd
  have e3:a2Y (fwW (F t) (W t)) (doR (W t) r.S r.L r.T).1=a2Y (W t) (doR (W t) r.S r.L r.T).1:=by
   cases hW:W t with
   | ask v=>exact c1N rd
   | _=>rfl
  have e1:st1 N (fun i=>fwW (F i) (W i)) r=st1 N W r:=by
   unfold st1
   rw[<-ht]
   show Rs.mk (doR (fwW (F t) (W t)) r.S r.L r.T).1 (doR (fwW (F t) (W t)) r.S r.L r.T).2.1 (doR (fwW (F t) (W t)) r.S r.L r.T).2.2 _ ((t:Int),a2Y (fwW (F t) (W t)) (doR (fwW (F t) (W t)) r.S r.L r.T).1) _=_
   rw[e2,e3]
  rw[e1]
  refine c2E hv hw ha kF m _ fun he'=>?_
  obtain⟨l,hle⟩:∃l,l=N[t]:=⟨_,rfl⟩
  have hl:=I0 htn
  rw[<-hle]at hl
  have gd:N.getD t []=l:=by rw[a2P,hl];rfl
  have hz:¬l.length=0:=by
   unfold st1 at he'
   rw[<-ht]at he'
   have he':decide ((N.getD t []).length=0)=false:=he'
   rw[gd]at he'
   exact of_decide_eq_false he'
  have l2:=hv.two l (mI hl)
  obtain⟨sd,hsd⟩:∃sd,sd=a2Y (W t) (doR (W t) r.S r.L r.T).1:=⟨_,rfl⟩
  have ep:(st1 N W r).p=((t:Int),sd):=by unfold st1;rw[<-ht,hsd]
  have eS:(st1 N W r).S=(doR (W t) r.S r.L r.T).1:=by unfold st1;rw[<-ht]
  have so:sd=0\/sd=1/\l.length=2:=by
   rcases b0J (w:=W t) (doR (W t) r.S r.L r.T).1 with u | u
   ·exact .inl (hsd.trans u)
   ·exact .inr ⟨hsd.trans u,(ha t l hl).mpr (b2z (doR (W t) r.S r.L r.T).1 (by rw[u];decide))⟩
  obtain⟨j,hj,hjl⟩:∃j:Nat,sd=(j:Int)/\j<l.length:=by
   rcases so with z | ⟨z,y⟩
   ·exact⟨0,z,by omega⟩
   ·exact⟨1,z,by omega⟩
  have ls:l[j]? = some l[j]:=d8 hjl
  rw[ep,eS,hj]
  have is':a5O N ((t:Int),(j:Int)):=.inr ⟨t,j,l,_,rfl,hl,ls⟩
  refine⟨is',?_⟩
  have el:a1k N ((t:Int),(j:Int))=l[j]:=by
   unfold a1k
   rw[if_neg (by intro z;have:=congrArg Prod.fst z;simp[FST]at this)]
   show(N.getD (t:Int).toNat []).getD (j:Int).toNat 0=_
   rw[z9,z9,gd,a2P,ls];rfl
  rw[el]
  obtain⟨H,hw⟩:=hw t htn
  exact b9C hw hl (D6 _) ag
end
theorem b5W(n:Nat){K:Fg}{S:List Stp}(ha:J3 K H a S)(hb:J3 K H b S):Dq K H (n+2) (.ref a) (.ref b):=by
 obtain⟨vs,v1,v2,v3⟩:=ha.ex
 obtain⟨us,u1,u2,u3⟩:=hb.ex
 refine .lst (SqL.of v1) (SqL.of u1) (by simp[v2,u2]) fun j x y f1 f2=>?_
 rw[c9]at f1 f2
 cases e1:vs[j]? with
 | none=>rw[e1]at f1;cases f1
 | some v=>
  cases e2:us[j]? with
  | none=>rw[e2]at f2;cases f2
  | some u=>
   rw[e1]at f1
   rw[e2]at f2
   cases f1
   cases f2
   obtain⟨s,hs⟩:∃s,S[j]? = some s:=⟨_,d8 (by have:=(gI e1);omega)⟩
   refine .tup (v3 j v s e1 hs).sq (u3 j u s e2 hs).sq rfl fun i x y g1 g2=>?_
   rw[g1]at g2
   cases g2
   rcases i with _ | _ | i
   ·cases g1;exact .flat rfl
   ·cases g1;exact .flat rfl
   ·simp at g1
section
variable {K:Fg}{x:Addr}{W:Nat->Rw}{r:Rs}{E:XK}
theorem c3p{l:Addr}{s:Str}(h:H l=some (.lst (ss.map V.str)))(k:Q (.bl (!decide (s∈ss))) H):qIn true (.str s) (.ref l) H Q:=by
 have z:=c3q (Q:=fun v _=>v=.bl (decide (s∈ss))) (s:=s) h rfl
 unfold qIn at z ⊢
 simp only[h]at z ⊢
 refine⟨z.1,z.2.1,?_⟩
 have e:=V.bl.inj z.2.2
 have e:inV (.str s) (ss.map V.str)=decide (s∈ss):=e
 show Q (.bl (!inV (.str s) (ss.map V.str))) H
 rw[e];exact k
theorem a5Y(hB:Bag H b d)(k:∀n H',0<=n->n<1000000000000->Bag H' b d->D4 b H H'->Q (.int n) H'):a2f K [.ref b] H Q E:=by
 refine⟨rfl,?_⟩
 unfold b5h
 nofun
 exists G7 hB (by decide) (by decide) fun n1 H1 a0 a1 B1 k1=>?_
 exists G7 B1 (by decide) (by decide) fun n2 H2 b0 b1 B2 k2=>?_
 exists E3 (by simp) fun p G hp e s=>?_
 refine G7 (B2.same s) (by decide) (by decide) fun n3 H3 c0 c1 B3 k3=>?_
 have hp3:=k3.1 p _ e (B2.nb hp).1
 obtain⟨v,hv,hv2⟩:=a2M (xs:=[V.int 0,.int 1,.int 2,.int 999999999999,.int n1,.int n2]) c0 (by simpa using c1)
 refine L5 hp3 hv ?_
 have kk:=((k1.trans k2).trans (D4.of_same s)).trans k3
 have m:=mI hv2
 simp only[d5,o6,or_false]at m
 rcases m with rfl | rfl | rfl | rfl | rfl | rfl
 ·exact k _ _ (by decide) (by decide) B3 kk
 ·exact k _ _ (by decide) (by decide) B3 kk
 ·exact k _ _ (by decide) (by decide) B3 kk
 ·exact k _ _ (by decide) (by decide) B3 kk
 ·exact k _ _ a0 a1 B3 kk
 ·exact k _ _ b0 (by omega) B3 kk
theorem b7Q{nl:Addr}(hB:Bag H b d)(hn:H nl=some (.lst (ss.map V.str)))(nb:nl≠b)(l4:ss.length<=4)
  (k:∀sd S H',H sd=none->H' sd=some (.dK (SD S))->bdS S->S.length<=100->Bag H' b d->D4 b H H'->Q (.ref sd) H'):a6f K [.ref b,.ref nl] H Q E:=by
 refine⟨rfl,?_⟩
 unfold b5i
 nofun
 exists a8L fun sd H1 hsd e1 s1=>?_
 have B1:=hB.same s1
 have nsd:=(hB.nb hsd).1
 have nsc:=(hB.nb hsd).2
 have put:∀ {Hi Hk:Hp} {S:Sto} {n:Str} {i:Int} {m:Nat} {D:a6E} {σ:St},Hi sd=some (.dK (SD S))->bdS S->S.length<=m->m<=99->Bag Hi b d->D4 b H Hi->(∀H',(∃S,H' sd=some (.dK (SD S))/\bdS S/\S.length<=m+1/\Bag H' b d/\D4 b H H')->D.nx σ H')->0<=i->i<1000000000000->∃a H4,V.ref sd=.ref a/\a4W Hi a (.str n) (.int i) H4/\D.nx σ H4:=fun {Hi Hk S n i m D σ} g1 g2 g3 g4 g5 g6 kk i0 i1=>by
  refine⟨sd,_,rfl,a4W.k (k:=Sum.inr n) g1 (F9 (by unfold SD;rw[b7];omega)),?_⟩
  rw[b9D g2.1]
  exact kk _ ⟨a0x S n i,d6,g2.put i0 i1,by have:=b2M (S:=S) (n:=n) (i:=i);omega,g5.put nsd nsc,g6.put hsd⟩
 exact_mod_cast U4 ?_
 specialize a0c (R8 ?_)
 refine⟨nl,rfl,⟨_,SqL.of (s1 _ _ hn)⟩,a1m (xs:=ss.map V.str) (fun j σ H2=>∃y3 S,σ=[some (.ref b),some (.ref nl),some (.ref sd),y3]/\H2 sd=some (.dK (SD S))/\bdS S/\S.length<=j/\Bag H2 b d/\D4 b H H2) ⟨_,[],rfl,e1,⟨a2O,fun p hp=>nomatch hp⟩,g9 _,B1,D4.of_same s1⟩ ?_ ?_ ?_⟩
 ·rintro j σ H2 _ ⟨_,_,_,_,_,_,_,k2⟩
  exact SqL.of (k2.1 _ _ hn nb)
 ·rintro j v _ H2 hv ⟨y3,S,rfl,g1,g2,g3,B2,k2⟩
  rw[c9]at hv
  obtain⟨s,hs,rfl⟩:=z8.mp hv
  have hj:=(gI hs)
  ext
  refine G7 B2 (by decide) (by decide) fun n3 H3 c0 c1 B3 k3=>?_
  have g13:=k3.1 _ _ g1 nsd
  ext
  refine Y4 (fun _=>?_) (fun _=>?_)
  ·specialize a2i ?_
   exists a5Y B3 fun i H4 i0 i1 B4 k4=>?_
   exact put (Hk:=H4) (k4.1 _ _ g13 nsd) g2 g3 (by omega) B4 ((k2.trans k3).trans k4) (fun H' ⟨S',q⟩=>⟨_,S',rfl,q⟩) i0 i1
  ·ext
   exact⟨_,S,rfl,g13,g2,by omega,B3,k2.trans k3⟩
 rintro _ H2 ⟨y3,S,rfl,g1,g2,g3,B2,k2⟩
 rw[b7]at g3
 ext
 exact_mod_cast a0M (P:=fun σ H3=>∃S,σ=[some (.ref b),some (.ref nl),some (.ref sd),y3]/\H3 sd=some (.dK (SD S))/\bdS S/\S.length<=5/\Bag H3 b d/\D4 b H H3) ?_ ?_
 rotate_left
 ·intro nx hnx
  ext
  refine G7 B2 (by decide) (by decide) fun n3 H3 c0 c1 B3 k3=>?_
  have g13:=k3.1 _ _ g1 nsd
  ext
  refine Y4 (fun _=>?_) (fun _=>?_)
  ·specialize a2i ?_
   exists a5Y B3 fun i H4 i0 i1 B4 k4=>?_
   exact put (Hk:=H4) (m:=4) (k4.1 _ _ g13 nsd) g2 (by omega) (by omega) B4 ((k2.trans k3).trans k4) (fun H' ⟨S',q⟩=>hnx _ _ ⟨S',rfl,q⟩) i0 i1
  ·ext
   exact hnx _ _ ⟨S,rfl,g13,g2,by omega,B3,k2.trans k3⟩
 rintro _ H3 ⟨S,rfl,g1,g2,g3,B3,k3⟩
 exact_mod_cast a0M (P:=fun σ H3=>∃S,σ=[some (.ref b),some (.ref nl),some (.ref sd),y3]/\H3 sd=some (.dK (SD S))/\bdS S/\S.length<=6/\Bag H3 b d/\D4 b H H3) ?_ ?_
 rotate_left
 ·intro nx hnx
  ext
  refine G7 B3 (by decide) (by decide) fun n3 H4 c0 c1 B4 k4=>?_
  have g14:=k4.1 _ _ g1 nsd
  have k04:=k3.trans k4
  have hn4:=k04.1 _ _ hn nb
  have no:nx [some (.ref b),some (.ref nl),some (.ref sd),y3] H4:=hnx _ _ ⟨S,rfl,g14,g2,by omega,B4,k04⟩
  ext
  refine Y4 (fun _=>?_) (fun _=>?_)
  ·ext
   refine c3p hn4 ?_
   refine⟨_,rfl,?_⟩
   refine Y4 (fun _=>?_) (fun _=>?_)
   ·specialize a2i ?_
    exists a5Y B4 fun i H5 i0 i1 B5 k5=>?_
    exact put (Hk:=H5) (m:=5) (k5.1 _ _ g14 nsd) g2 (by omega) (by omega) B5 (k04.trans k5) (fun H' ⟨S',q⟩=>hnx _ _ ⟨S',rfl,q⟩) i0 i1
   ·ext
    exact no
  ·exists v4 (by decide) ?_
   exact no
 rintro _ H4 ⟨S,rfl,g1,g2,g3,B4,k4⟩
 ext
 exact k sd S H4 hsd g1 g2 (by omega) B4 k4
theorem b3w{q:Addr}(h1:b3y K H p r)(h2:b3y K H q r)(k:Q (.bl true) H):a4h K [.ref p,.ref q] H Q E:=by
 obtain⟨t1,w1,s1,a1,a2,a3,a4,a5⟩:=h1
 obtain⟨t2,w2,s2,b1,b2,b3,b4,b5⟩:=h2
 refine⟨rfl,?_⟩
 unfold b5j
 nofun
 refine a1z (s := "tuple") (by simp only[a2d,a1]) (by decide) ?_
 refine⟨_,rfl,?_⟩
 exists v4 (by decide) ?_
 refine a1z (s := "tuple") (by simp only[a2d,b1]) (by decide) ?_
 refine⟨_,rfl,?_⟩
 exists v4 (by decide) ?_
 exists a2J a1 ?_
 exists v4 (show(!decide (V.int ((4:Nat):Int)=V.int 4))=false by decide) ?_
 exists a2J b1 ?_
 exists v4 (show(!decide (V.int ((4:Nat):Int)=V.int 4))=false by decide) ?_
 refine⟨p,q,_,_,rfl,rfl,SqT.of a1,SqT.of b1,rfl,fun j u v e1 e2=>?_,?_⟩
 ·match j with
  | 0=>
   cases e1;cases e2
   refine .inl (.lst (SqL.of a2) (SqL.of b2) rfl fun i x y f1 f2=>?_)
   rw[f1]at f2
   cases f2
   rw[c9]at f1
   obtain⟨z,_,rfl⟩:=z8.mp f1
   exact .flat rfl
  | 1=>
   cases e1;cases e2
   exact .inl (b5W 1 a3 b3)
  | 2=>
   cases e1;cases e2
   refine .inr ⟨s1,s2,_,rfl,rfl,a4,b4,?_,?_⟩
   ·have:=a5.1
    unfold SD
    rw[L8]
    show(List.map (fun p:Str×Int=>(Sum.inr p.1:Key)) r.S).Nodup
    rw[show(fun p:Str×Int=>(Sum.inr p.1:Key))=(fun s=>(Sum.inr s:Key)) ∘ (fun p:Str×Int=>p.1)from rfl,<-L8]
    exact c2h.mpr (List.Pairwise.imp (fun ne e=>ne (Sum.inr.inj e)) this)
   ·rw[M3]
    intro z hz
    obtain⟨u,_,rfl⟩:=A2.mp hz
    rfl
  | 3=>
   cases e1;cases e2
   exact .inl (.flat rfl)
  | j+4=>cases e1
 refine⟨_,rfl,?_⟩
 exists D9 rfl ?_
 exists C3 b1 (c4U _ _ _ _ _) ?_
 exact a1z (s := "bool") rfl (by decide) k
end
structure PlK(K:Fg)(c:Cn)(H:Hp)(x:Addr)(N:Nt)(rs:List Addr)(RC:Nat->List V)(W:Nat->Rw):Prop where
 pz:∃Z:Addr->Prop,a2n K c Z rs H x N
 rc:a3J H rs RC
 rw:∀(i:Nat) p,rs[i]? = some p->RwS H (RC i) (W i)
 ask:c5k N W
section
variable {K:Fg}{x:Addr}{W:Nat->Rw}{E:XK}
theorem PlK.same(h:PlK K c H x N rs RC W)(s:t9 H H'):PlK K c H' x N rs RC W:=let⟨Z,p⟩:=h.pz; ⟨⟨Z,p.same s⟩,h.rc.ts (t9.ts s),fun i p e=>(h.rw i p e).ts (t9.ts s),h.ask⟩
theorem PlK.kept(h:PlK K c H x N rs RC W)(hB:Bag H b d)(hv:a0t N)(k:D4 b H H'):PlK K c H' x N rs RC W:=let⟨Z,p⟩:=h.pz; ⟨⟨Z,p.kept hB hv.two k⟩,h.rc.ts (k.ts hB),fun i p e=>(h.rw i p e).ts (k.ts hB),h.ask⟩
theorem PlK.len(h:PlK K c H x N rs RC W):rs.length=N.length:=by
 obtain⟨Z,p⟩:=h.pz
 obtain⟨_,_,_,_,_,_,_,_,_,q⟩:=p.r.ex
 exact q
theorem c4V{q:Bool}(h:RwS H xs w)(hq:∃k r,xs=.str k::r/\decide ((k:Str) = "ask")=q):q=true↔∃v,w=.ask v:=by
 obtain⟨k,r,e,rfl⟩:=hq
 cases w with
 | set n k0 a0 b0=>
  obtain⟨_,rfl,_⟩:=h
  cases e
  exact⟨fun z=>absurd z (by decide),fun⟨v,z⟩=>nomatch z⟩
 | copy n v=>
  obtain⟨rfl,_⟩:=h
  cases e
  exact⟨fun z=>absurd z (by decide),fun⟨v,z⟩=>nomatch z⟩
 | take n=>
  obtain⟨rfl,_⟩:=h
  cases e
  exact⟨fun z=>absurd z (by decide),fun⟨v,z⟩=>nomatch z⟩
 | tell v=>
  obtain⟨rfl,_⟩:=h
  cases e
  exact⟨fun z=>absurd z (by decide),fun⟨v,z⟩=>nomatch z⟩
 | ask v=>
  obtain⟨rfl,_⟩:=h
  cases e
  exact⟨fun _=>⟨v,rfl⟩,fun _=>by decide⟩
 | skip=>
  cases h
  cases e
  exact⟨fun z=>absurd z (by decide),fun⟨v,z⟩=>nomatch z⟩
theorem c3I(hz:a2n K c Z rs H x N):∃RC W,PlK K c H x N rs RC W:=by
 obtain⟨dx,r,n,e,es,ns,h1,⟨hR,hra⟩,_⟩:=id hz.ex
 obtain⟨RC,hr⟩:=a8M hR hra
 have ex:∀i:Nat,∃w:Rw,∀p,rs[i]? = some p->RwS H (RC i) w:=fun i=>by
  cases e:rs[i]? with
  | none=>exact⟨.skip,fun p z=>nomatch z⟩
  | some p=>
   obtain⟨w,hw⟩:=(hr i p e).2.rw
   exact⟨w,fun _ _=>hw⟩
 obtain⟨W,hW⟩:=Classical.axiomOfChoice ex
 refine⟨RC,W,⟨Z,hz⟩,hr,hW,fun i l hl=>?_⟩
 obtain⟨rs',r1,r2,r3⟩:=hR.ex
 obtain rfl:rs'=rs:=by
  rw[hra]at r1
  exact(T0 (f:=V.ref) (fun a b h=>V.ref.inj h) |>.mp (HO.lst.inj (Option.some.inj r1))).symm
 have hi:=(gI hl)
 obtain⟨p,hp⟩:∃p,rs'[i]? = some p:=⟨_,d8 (by omega)⟩
 obtain⟨p',xs,ep,hx,_,hq⟩:=r3 i p l hp hl
 cases ep
 rw[(hr i p hp).1]at hx
 cases hx
 rw[<-c4V (hW i p hp) hq]
 simp
theorem c4W{A:Al}:(∃v,fwW A w=.ask v)↔∃v,w=.ask v:=by
 cases w with
 | ask v=>exact⟨fun _=>⟨v,rfl⟩,fun _=>⟨_,rfl⟩⟩
 | _=>exact⟨(fun⟨v,z⟩=>nomatch z),(fun⟨v,z⟩=>nomatch z)⟩
theorem b9m(ck:a3D K c)(h:PlK K c H x N rs RC W)(hv:a0t N)
  (k:∀y rs' RC' F H',PlK K c H' y N rs' RC' (fun i=>fwW (F i) (W i))->KnF N RC F->t9 H H'->Q (.ref y) H'):Y9 K c [.ref x] H Q E:=by
 obtain⟨Z,pz⟩:=h.pz
 refine b1z ck pz hv h.rc fun y Z' rs' F H1 pz1 l1 fw1 kF s1=>?_
 obtain⟨dx,r,n,e,es,ns,h1,⟨hR,hra⟩,_⟩:=id pz1.ex
 obtain⟨RC',hr'⟩:=a8M hR hra
 refine k y rs' RC' F H1 ⟨⟨Z',pz1⟩,hr',fun i q hq=>?_,fun i l hl=>(h.ask i l hl).trans c4W.symm⟩ kF s1
 have hi:=(gI hq)
 obtain⟨p,hp⟩:∃p,rs[i]? = some p:=⟨_,d8 (by rw[h.len];omega)⟩
 obtain⟨nd,fl,_⟩:=kF i (by omega)
 exact c4O ((h.rw i p hp).ts (t9.ts s1)) (fw1 i q hq) (hr' i q hq).1 nd fl
theorem c0x{st tk:Addr}{S0:Sto}{L0:List Int}(ck:a3D K c)(h:PlK K c H x N rs RC W)(hv:a0t N)
  (hst:H st=some (.dK (SD S0))) (bd:bdS S0) (l0:S0.length<=100) (htk:H tk=some (.lst (L0.map V.int))) (bl:∀x∈L0,0<=x/\x<1000000000000) (hm:m<=1000)
  (k:∀q H',b3y K H' q (rn N W m ⟨S0,L0.reverse,[],[],FST,false⟩)->t9 H H'->Q (.ref q) H'):a4g K c [.ref x,.ref st,.ref tk,.int (m:Int)] H Q E:=by
 obtain⟨Z,pz⟩:=h.pz
 exact c3f ck pz hv h.rc h.rw h.ask hst bd l0 htk bl hm k
theorem b8n{F:Nat->Al}(h:PlK K c H x N rs RC W)(hv:a0t N)(kF:KnF N RC F){S0:Sto}{L0:List Int}:rn N (fun i=>fwW (F i) (W i)) m ⟨S0,L0,[],[],FST,false⟩=rn N W m ⟨S0,L0,[],[],FST,false⟩:=
 c2E hv (fun i hi=>by
  obtain⟨p,hp⟩:∃p,rs[i]? = some p:=⟨_,d8 (by rw[h.len];omega)⟩
  exact⟨H,h.rw i p hp⟩) h.ask kF m _ fun _=>⟨.inl rfl,b9B⟩
theorem b3y.same{q:Addr}{r:Rs}(h:b3y K H q r)(s:t9 H H'):b3y K H' q r:=by
 obtain⟨tl,wl,sl,h1,h2,h3,h4,h5⟩:=h
 exact⟨tl,wl,sl,s _ _ h1,s _ _ h2,h3.same s,s _ _ h4,h5⟩
end
theorem law_reading(K:Fg)(hl:ns.length<=63)(hO:c2c H)(hS:SqL K H a (ns.map V.int)):a8C K [.ref a] H (fun v _=>v=.bl true) (fun _ _ _=>False):=by
 have p64:(2:Int) ^ 64=18446744073709551616:=by decide
 refine⟨rfl,fun c ck=>?_⟩
 unfold b7N
 nofun
 exists c4T hS hl fun b d H1 B1 s1 _=>?_
 nofun
 refine c0R B1 fun p1 ra na N rs PL H2 e2 R2 hra2 P2 l4 T2 hv l24 B2 k2=>?_
 refine⟨p1,_,rfl,SqT.of e2,rfl,_,_,rfl,_,_,rfl,rfl,?_⟩
 obtain⟨RC0,rc2⟩:=a8M R2 hra2
 nofun
 exists c1z ck hra2 R2 T2 hv fun x Z H3 pz3 s3=>?_
 nofun
 exists b2X (s3 _ _ hra2) (rc2.ts (t9.ts s3)) (fun p hp=>(P2 p hp).ts (t9.ts s3)) l4 fun nl ss H4 hnl e4 lss s4=>?_
 obtain⟨RC,W,pk⟩:=c3I (pz3.same s4)
 nofun
 exists b9m ck pk hv fun y rs1 RC1 F H5 py kF s5=>?_
 nofun
 exists b9m ck py hv fun z rs2 RC2 G H6 pg kG s6=>?_
 have s46:=s5.trans s6
 have s26:=(s3.trans s4).trans s46
 have B6:=B2.same s26
 have px6:=pk.same s46
 have py6:=py.same s6
 have nnl:nl≠b:=((B2.same s3).nb hnl).1
 have nl6:=s46 _ _ e4
 have pz6:=(pz3.same s4).same s46
 have k26:D4 b H2 H6:=D4.of_same s26
 exact_mod_cast U4 ?_
 specialize a0c (a0F ?_)
 refine⟨3,rfl,by omega,by omega,?_⟩
 refine Z1 (fun i σ H7=>∃y8 y9 y10 y11 y12,σ=[some (.ref a),some (.ref b),some (.ref ra),some (.ref na),some (.ref x),some (.ref nl),some (.ref y),some (.ref z),y8,y9,y10,y11,y12]/\Bag H7 b d/\D4 b H6 H7) ⟨_,_,_,_,_,rfl,B6,D4.of_same (t9.refl _)⟩ ?_ ?_
 ·rintro i _ H7 hi ⟨y8,y9,y10,y11,y12,rfl,B7,k7⟩
  ext
  nofun
  refine b7Q B7 (k7.1 _ _ nl6 nnl) nnl lss fun sd S H8 hsd e8 bd lS B8 k8=>?_
  have nsd:=(B7.nb hsd).1
  ext
  exact_mod_cast U4 ?_
  refine a8H ?_
  specialize V8 (a0F ?_)
  refine G7 B8 (by decide) (by decide) fun n9 H9 n0 n1 B9 k9=>?_
  obtain⟨n,rfl⟩:=J2 n0
  ext
  refine⟨(n:Int),rfl,by omega,by omega,fun tl htl=>?_⟩
  obtain⟨ntl,ntc⟩:=B9.nb htl
  rw[z9]
  refine a4y (fun i ys H10=>∃L:List Int,ys=L.map V.int/\L.length=i/\(∀x∈L,0<=x/\x<1000000000000)/\H10 tl=some (.lst ys)/\Bag H10 b d/\D4 b H9 H10) ⟨[],rfl,rfl,by simp,d6,B9.new htl,D4.new htl⟩ ?_ ?_ ?_
  ·rintro i ys H10 ⟨_,_,_,_,h,_⟩
   exact h
  ·rintro i ys H10 hi ⟨L,rfl,rfl,bl,hd,B10,k10⟩ R hR
   ext
   refine a5Y B10 fun v H11 v0 v1 B11 k11=>?_
   refine hR _ _ (k11.1 _ _ hd ntl) (F9 (by rw[b7];omega)) ⟨L++[v],by simp,by simp,fun x hx=>?_,d6,B11.put ntl ntc,(k10.trans k11).put htl⟩
   rcases u8.mp hx with q | q
   ·exact bl x q
   ·rw[g8.mp q];exact⟨v0,v1⟩
  rintro ys H10 ⟨L,rfl,lL,bl,htl10,B10,k10⟩
  ext
  nofun
  refine G7 B10 (by decide) (by decide) fun m0 H11 m1 m2 B11 k11=>?_
  obtain⟨m,rfl⟩:=J2 m1
  have hm:m<=1000:=by omega
  ext
  have k611:D4 b H6 H11:=(((k7.trans k8).trans k9).trans k10).trans k11
  have sd11:H11 sd=some (.dK (SD S)):=((k9.trans k10).trans k11).1 _ _ e8 nsd
  have tl11:=k11.1 _ _ htl10 ntl
  have px:=px6.kept B6 hv k611
  have py:=py6.kept B6 hv k611
  have pg:=pg.kept B6 hv k611
  have go:∀ {σ:St} {x':Addr} {rs':List Addr} {RC':Nat->List V} {W':Nat->Rw} {Hi:Hp} {R:VK},σ[10]? = some (some (.ref tl))->σ[11]? = some (some (.int (m:Int)))->PlK K c H11 x' N rs' RC' W'->t9 H11 Hi->(∀q Hj,b3y K Hj q (rn N W' m ⟨S,L.reverse,[],[],FST,false⟩)->t9 Hi Hj->R (.ref q) Hj)->a5i [.ref sd] Hi fun v1 Ha=>b6 (tCB a0O (b6 (c6 10) i9)) (b6 (c6 11) i9) σ Ha fun vs Hb=>a4g K c (.ref x'::v1::vs++[]) Hb R E0:=fun {σ x' rs' RC' W' Hi R} g10 g11 pl si kk=>by
   unfold a5i
   simp only[si _ _ sd11]
   intro da hda
   have sa:t9 Hi (upd Hi da (.dK (SD S))):=A0 hda
   obtain⟨Ha,hHa⟩:∃Ha,Ha=upd Hi da (.dK (SD S)):=⟨_,rfl⟩
   have ea:Ha da=some (.dK (SD S)):=hHa ▸ d6
   rw[<-hHa]at sa ⊢
   refine a2I (c5L (a2I (a3I g10 (b0e (a4J (sa _ _ (si _ _ tl11)) fun lb Hb hlb eb sb=>?_)))))
   refine a2I (a3I g11 (b0e ?_))
   refine c0x ck (pl.same (si.trans (sa.trans sb))) hv (sb _ _ ea) bd lS eb bl hm fun q Hj rt sj=>kk q Hj rt ((sa.trans sb).trans sj)
  nofun
  exists go rfl rfl px (t9.refl _) fun q1 H12 r1 s12=>?_
  nofun
  refine go rfl rfl py s12 fun q2 H13 r2 s13=>?_
  rw[b8n px hv kF]at r2
  ext
  refine b3w (r1.same s13) r2 ?_
  refine⟨_,rfl,?_⟩
  exists v4 rfl ?_
  have s1113:=s12.trans s13
  refine go rfl rfl pg s1113 fun q3 H14 r3 s14=>?_
  rw[b8n py hv kG,b8n px hv kF]at r3
  ext
  refine b3w (r1.same (s13.trans s14)) r3 ?_
  refine⟨_,rfl,?_⟩
  exists v4 rfl ?_
  have s1114:=s1113.trans s14
  exact⟨_,_,_,_,_,rfl,B11.same s1114,k611.trans (D4.of_same s1114)⟩
 rintro _ H10 ⟨y8,y9,y10,y11,y12,rfl,B10,k10⟩
 have pz10:=pz6.kept B6 hv.two k10
 have k210:=k26.trans k10
 have R10:=R2.kept B2 k210
 have T10:=T2.kept B2 hv.two k210
 have hra10:=k210.1 _ _ hra2 (a1c B2 hra2)
 obtain⟨dx',r',n',e',es,ns',h1,⟨h2,h2r⟩,h3,h4,h5,_⟩:=pz10.ex
 ext
 specialize a1y ?_
 exists ⟨x,_,dx',_,.ref r',rfl,h1,ck.L7,ck.K9,rfl,?_⟩
 refine⟨r',ra,3,rfl,rfl,by omega,c0y R10 hra10 h2r,?_⟩
 refine⟨_,rfl,?_⟩
 refine D9 rfl ?_
 exact_mod_cast c5G ?_
 specialize a1y ?_
 exists ⟨x,_,dx',_,.ref n',rfl,h1,ck.L7,ck.O2,rfl,?_⟩
 exact⟨n',na,2,rfl,rfl,by omega,c4u ⟨ns',h3,h4,h5⟩ T10,rfl⟩
end RD
set_option maxHeartbeats 0
namespace PR
open PySem L2 RD Y
abbrev c7j:Str:="__init__"
abbrev c7k:Str:="_law_script"
abbrev c7l:Str:="_law_bag"
abbrev c7m:Str:="_law_bag_here"
abbrev c7n:Str:="_law_many"
abbrev c7o:Str:="_law_take"
abbrev c7p:Str:="_law_some"
abbrev c7q:Str:="_law_k"
abbrev c7r:Str:="_law_pool"
abbrev c7s:Str:="_law_nexts"
abbrev c7t:Str:="_law_net"
abbrev c7u:Str:="_law_good"
abbrev c7v:Str:="_law_turn"
abbrev c7w:Str:="_law_reached"
abbrev c7x:Str:="_law_one"
abbrev c7y:Str:="_law_order"
abbrev c7z:Str:="_law_mended"
abbrev c7A:Str:="_law_pool_here"
abbrev c7B:Str:="_law_operand"
abbrev c7C:Str:="_law_kinds"
abbrev c7D:Str:="_law_deed"
abbrev c7E:Str:="_law_deeds"
abbrev c7F:Str:="_law_row"
abbrev c7G:Str:="_law_rows"
abbrev c7H:Str:="_law_plan"
abbrev c7I:Str:="check_length"
abbrev c7J:Str:="thing"
abbrev c7K:Str:="is_whole"
abbrev c7L:Str:="is_value"
abbrev c7M:Str:="is_operand"
abbrev c7N:Str:="check_each"
abbrev c7O:Str:="is_below"
abbrev c7P:Str:="following"
abbrev c7Q:Str:="place"
abbrev c7R:Str:="are_nexts"
abbrev c7S:Str:="rows"
abbrev c7T:Str:="nexts"
abbrev c7U:Str:="check_nexts"
abbrev c7V:Str:="stops_of"
abbrev c7W:Str:="check_ways"
abbrev c7X:Str:="steps_of"
abbrev c7Y:Str:="_law_made"
abbrev c7Z:Str:="_law_names_of"
abbrev c8a:Str:="plan"
abbrev c8b:Str:="copies_of"
abbrev c8c:Str:="unready_steps"
abbrev c8d:Str:="copying"
abbrev c8e:Str:="places_without"
abbrev c8f:Str:="operands_known"
abbrev c8g:Str:="forwarded_row"
abbrev c8h:Str:="forwarded"
abbrev c8i:Str:="_law_value"
abbrev c8j:Str:="_law_names"
abbrev c8k:Str:="_law_start_here"
abbrev c8l:Str:="_law_start"
abbrev c8m:Str:="store"
abbrev c8n:Str:="worth_of"
abbrev c8o:Str:="worth_set"
abbrev c8p:Str:="step_behind"
abbrev c8q:Str:="_law_alike"
section
def top(i:Nat):Stmt:=PySem.Challenge.pw_oncedone_k85_whole_forwarded_runs_alike.main.body.getD i (.Pass ⟨0,0,0,0⟩)
abbrev b5n:Stmt:=top 52
abbrev b4h:Stmt:=top 53
abbrev b0T:Stmt:=top 56
abbrev b8b:Stmt:=top 54
abbrev a2Z:Stmt:=top 55
abbrev a6X:Stmt:=top 57
abbrev b4j:Stmt:=top 58
abbrev b7Y:Stmt:=top 59
abbrev a8J:Stmt:=top 60
abbrev a2j:Stmt:=top 26
abbrev a4H:Stmt:=top 9
abbrev a5x:Stmt:=top 7
abbrev a5y:Stmt:=top 8
abbrev a3n:Stmt:=top 10
abbrev a6Y:Stmt:=top 11
abbrev a8K:Stmt:=top 12
abbrev a3p:Stmt:=top 27
abbrev a5z:Stmt:=top 25
abbrev a2y:Stmt:=top 30
abbrev a1b:Stmt:=top 31
abbrev a6V:Stmt:=top 34
abbrev a6i:Stmt:=top 33
abbrev a3l:Stmt:=top 32
abbrev a3o:Stmt:=top 35
abbrev a3m:Stmt:=top 36
abbrev a1t:Stmt:=T6 (top 37) 2
abbrev a0s:Stmt:=T6 (top 37) 0
abbrev b0U:Stmt:=top 61
abbrev a5w:Stmt:=top 62
abbrev a4k:Stmt:=top 42
abbrev a8I:Stmt:=top 16
abbrev a6W:Stmt:=top 39
abbrev a1r:Stmt:=top 40
abbrev V7:Stmt:=top 43
abbrev Z0:Stmt:=top 44
abbrev a1s:Stmt:=top 45
abbrev a2x:Stmt:=top 46
abbrev b0R:Stmt:=top 63
abbrev b0S:Stmt:=top 64
abbrev a5v:Stmt:=top 14
abbrev b0P:Stmt:=top 15
abbrev a4i:Stmt:=top 48
abbrev a2H:Stmt:=top 49
abbrev b7X:Stmt:=top 50
abbrev b0Y:Stmt:=top 65
abbrev b2I:Stmt:=top 66
structure Txt(K:Fg)(mg:Str->Option Value)(c:Cn):Prop where
 c6F:mg "abs" = none
 c2I:mg "all" = none
 c6E:mg "any" = none
 b9X:mg "bool" = none
 b2a:mg "dict" = none
 a0v:mg "enumerate" = none
 c6D:mg "int" = none
 J4:mg "isinstance" = none
 N5:mg "len" = none
 Z7:mg "list" = none
 c6C:mg "min" = none
 X7:mg "range" = none
 b5c:mg "reversed" = none
 b3D:mg "sorted" = none
 b9W:mg "str" = none
 a8k:mg "tuple" = none
 c6B:mg "zip" = none
 a8j:∃u,mg "BOUND" = some u/\E1 (.int 1000000000000) u
 b1Z:∃u,mg "DEED_KINDS" = some u/\E1 (.ref c.a3E) u
 b7b:∃u,mg "FIGURES" = some u/\E1 (.str "0123456789") u
 a1L:∃u,mg "FIRST_STEP" = some u/\E1 (.ref c.Q6) u
 b0v:∃u,mg "LETTERS" = some u/\E1 (.str "abcdefghijklmnopqrstuvwxyz") u
 a9s:∃u,mg "LONGEST_NAME" = some u/\E1 (.int 8) u
 c5p:∃u,mg "MOST" = some u/\E1 (.int 400) u
abbrev scF(ns:List (Str×a5d)):Scope:={ kind:=.function,names:=ns,isGenerator:=false,isCoroutine:=false,more:=[] }
local macro_rules | `(tactic| walk_at "c0") => `(tactic| exact ⟨rfl, by decide +kernel, by decide +kernel, rfl, by decide +kernel, by decide +kernel, rfl, by decide +kernel⟩)
local macro_rules | `(tactic| walk_at "c1") => `(tactic| exact ⟨rfl, by decide +kernel, by decide +kernel, rfl, b5t (by decide +kernel), by decide +kernel, rfl, by decide +kernel⟩)
local macro_rules | `(tactic| walk_at "c2") => `(tactic| exact ⟨rfl, by decide +kernel, by decide +kernel, rfl, rfl, by decide +kernel, by decide +kernel, rfl, rfl, by decide +kernel⟩)
local macro_rules | `(tactic| walk_at "c3") => `(tactic| exact ⟨rfl, by decide +kernel, by decide +kernel, rfl, rfl, b5t (by decide +kernel), by decide +kernel, rfl, rfl, by decide +kernel⟩)
def b9R(f:List Value->Prop):List Str->Prop
 | []=>f []
 | _::r=>∀u,b9R (fun us=>f (u::us)) r
theorem b9R.mp:∀ {ps:List Str} {f:List Value->Prop},b9R f ps->∀us,us.length=ps.length->f us
 | [],_,h,[],_=>h
 | _::_,_,h,u::us,e=>b9R.mp (h u) us (Nat.succ.inj e)
section
variable {P:C2}{w:World}{K:Fg}{mg:Str->Option Value}{base h:Heap}{c:Cn}{f C:Addr}{fd:X9}{x q:Str}{st:Stmt}{N ps:List Str}{k:Nat}{t:TS}{pm cd:Value}{sp:Sp}
open PySem.Spec PyProof.Rows in
theorem fk(F:Fun K x q st f fd)(S:A3 N ps (l6 st))(b:∀cdv A outer s H E,P7 k (A.deeper (b2e q (l6 st) s.heap.objs.size f cdv))->N.Nodup->a9z (b3j CX0 P w K mg base N q (l6 st) f cdv A outer s H E).nox (a0H st) t):K0 P w K mg base CX0 (k+1) f fd ps (spD ps.length N.length t):=
 b2n F S (fun _ _ _ _ h=>h.1) fun cdv A outer s H _ _ E hr h=>⟨t,b cdv A outer s H E hr S.nd,h.2⟩
abbrev fdM(x q:Str)(st:Stmt)(pm cd:Value):X9:=Z6 x q (a2A st) (a0H st) (l6 st) .none .none .none pm none cd .none
structure FnI(K:Fg)(x q:Str)(st:Stmt)(f:Addr)(pm cd:Value):Prop where
 l:K.lookup f=some ⟨.type "function",none,.func (fdM x q st pm cd),#[]⟩
 c:a4Y K cd q=true
 k:R6 K (.ref f)=true
structure FnG(K:Fg)(x:Str)(st:Stmt)(f:Addr)(pm cd:Value):Prop where
 i:FnI K x x st f pm cd
 a:A5 K u9 x=some (some (.ref f))
structure FnM(K:Fg)(C:Addr)(x q:Str)(st:Stmt)(f:Addr)(pm cd:Value):Prop where
 i:FnI K x q st f pm cd
 a:D7 K (.ref C) x=some (some (.ref f))
 n:a7x K (.ref f)=true
theorem FnI.F(h:FnI K x q st f pm cd):Fun K x q st f (fdM x q st pm cd):=c4P h.l h.c h.k
abbrev BdA(x q:Str)(st:Stmt)(ps:List Str):Prop:=∀(kV doc pm:Value) (an:Option Addr) (cdv ct:Value),b9R (fun us=>bindArgs (Z6 x q (a2A st) (a0H st) (l6 st) .none kV doc pm an cdv ct) ⟨us,[]⟩=pure (ps.zip us)) ps
theorem mkC(X:K.In h)(G:h.Ns u9 mg)(g:FnG K x st f pm cd)(O:K0 P w K mg base CX0 k f (fdM x x st pm cd) ps sp)(B:BdA x x st ps):D2 P w K mg base k x ps sp:=b6P g.i.F O (R1 X G g.a) (g.i.F.binds fun _ _ _ _ _ _ us hl=>(B _ _ _ _ _ _).mp us hl)
theorem mkM(g:FnM K C x q st f pm cd)(cl:Cls K C)(O:K0 P w K mg base CX0 k f (fdM x q st pm cd) ps sp)(B:BdA x q st ps):a8g P w K mg base k x C ps sp:=⟨_,_,O,cl,⟨g.a,g.n,g.i.k⟩,g.i.F.binds fun _ _ _ _ _ _ us hl=>(B _ _ _ _ _ _).mp us hl⟩
theorem mkK{y:Str}(X:K.In h)(G:h.Ns u9 mg)(g:FnM K C c7j q st f pm cd)(y1:A5 K u9 y=some (some (.ref C)))(m:a3P K C=true)(kc:R6 K (.ref C)=true)(O:K0 P w K mg base CX0 k f (fdM c7j q st pm cd) ps sp)(B:BdA c7j q st ps):b3A P w K mg base k y C ps sp:=⟨_,_,O,R1 X G y1,⟨m,g.a,g.n,kc⟩,g.i.F.binds fun _ _ _ _ _ _ us hl=>(B _ _ _ _ _ _).mp us hl⟩
end
section
variable {P:C2}{w:World}{K:Fg}{mg:Str->Option Value}{base:Heap}{c:Cn}{f:Addr}{fd:X9}(T:Txt K mg c)
abbrev b8R:List Str:=[c7k]
theorem c2U:A3 [c7k] b8R (l6 b5n):=by walk_at "sc"
theorem b9y:N9 [c7k] (l6 b5n) (scF [ (".0",.local),("_law_cell",.local),("abs",.globalImplicit)]) "_law_cell" := by walk_at "c0"
include T in
theorem c4r(F:Fun K c7l c7l b5n f fd):K0 P w K mg base CX0 1 f fd b8R (b0H K):=fk F c2U fun _ _ _ _ _ _ hr nd=>c8 (o5 (G9 (a5V b9 b9 b9 (O9 b9y rfl (F3 (a1X b5I (c7 0) a2R (a2Q b9))) (fun _ _ _ _ _=>F2) (fun _ _ _ _ _=>l9 b2q rfl T.c6F PyProof.Rows.boot_abs (o9 (c7 0)))))))
variable(b5C:D2 P w K mg base 1 c7l b8R (b0H K))
abbrev b4u:List Str:=[c7m,c7n]
theorem c0r:A3 [c7m,c7n,"_law_more","_law_cell","_law_value_here","_law_first","_law_second"] b4u (l6 b4h):=by walk_at "sc"
include T in
theorem c1r(F:Fun K c7o c7o b4h f fd):K0 P w K mg base CX0 1 f fd b4u (F4 K):=fk F c0r fun _ _ _ _ _ _ hr nd=>c5 (z5 (C5 (A4 hr) (t5 (c7 0) b9) b9) (c5 (v9 2 nd b9) (c5 (z5 (C5 Y0 (t5 (c7 0) b9) (l9 u5 rfl T.N5 o4 (o9 (t5 (c7 0) b9)))) (c5 (v9 3 nd (t5 (t5 (c7 0) b9) (t5 (c7 0) b9))) (c5 (b5K (c7 0) b9 c0e b9 b2m a7T) (c5 (z5 (C5 b7x (c7 3) b9) (c8 (a5U (c7 3) (a8o (c7 0) b9 a7T))) o8) (c8 (v9 2 nd (E2 Q9 (E2 V4 (c7 3) b9) b9)))))) o8) (c8 (a5U (E2 V4 (E2 Q9 (E2 a1O (t5 (c7 0) b9) b9) (c7 2)) b9) (a8o (c7 0) b9 a7T))))) o8) (c5 (z5 (C5 a2b (t5 (c7 0) b9) b9) (c5 (v9 4 nd (E2 V4 (t5 (c7 0) b9) (c7 1))) (c5 (a5U (E2 a9U (t5 (c7 0) b9) (c7 1)) (a8o (c7 0) b9 a7T)) (c8 (o5 (c7 4))))) o8) (c5 (v9 5 nd (E2 V4 (E2 a1O (t5 (c7 0) b9) b9) b9)) (c5 (v9 6 nd (E2 V4 (E2 a1O (c7 5) b9) b9)) (c5 (z5 (C5 a2b (c7 1) b9) (c8 (o5 (E2 V4 (E2 Q9 (E2 a1O (c7 6) b9) (c7 5)) (c7 1)))) o8) (c8 (o5 (E2 V4 (E2 a9U (c7 6) b9) (c7 1))))))))
variable(D5:D2 P w K mg base 1 c7o b4u (F4 K))
abbrev b4v:List Str:=[c7m]
theorem c0s:A3 [c7m,c7p,"_law_at"] b4v (l6 b0T):=by walk_at "sc"
theorem b6L:N9 [c7m,c7p,"_law_at"] (l6 b0T) (scF [ (".0",.local),(c7q,.local),("_law_at",.free),(c7p,.free)]) c7q := by walk_at "c0"
include T D5 in
theorem c1s(F:Fun K c7r c7r b0T f fd):K0 P w K mg base CX0 2 f fd b4v (a7V K):=fk F c0s fun _ _ _ _ _ _ hr nd=>c5 (v9 1 nd (G9 (F5 v8 (F5 v8 (F5 v8 (F5 v8 (F5 v8 (b7w v8 v8 v8 v8 v8)))))))) (c5 (v9 2 nd (p9 D5 hr (A6 (c7 0) b9))) (c8 (o5 (O9 b6L rfl (J8 rfl T.X7 (o9 (E2 Q9 b9 (p9 D5 hr (A6 (c7 0) b9))))) (fun _ _ _ _ _=>F2) (fun _ _ _ _ _=>t5 (c7 2) (E2 V4 (E2 Q9 (c7 3) (E2 a1O b9 (c7 0))) b9))))))
variable(b1L:D2 P w K mg base 2 c7r b4v (a7V K))
abbrev b8Q:List Str:=[c7m,c7n]
theorem c2T:A3 [c7m,c7n,c7s,c7q,"_law_near",c7p,"_law_way"] b8Q (l6 b8b):=by walk_at "sc"
include T D5 in
theorem c4p(F:Fun K c7t c7t b8b f fd):K0 P w K mg base CX0 2 f fd b8Q (b0G K):=fk F c2T fun _ _ _ _ _ _ hr nd=>c5 (v9 2 nd (G9 X0)) (c5 (K5 PassesOwn.never rfl (J8 rfl T.X7 (o9 (c7 1))) (N7 3 nd) (c5 (v9 4 nd (l9 (b2o rfl) rfl T.c6C PyProof.Rows.boot_min (A6 (E2 Q9 (c7 3) b9) (E2 a4D (c7 1) b9)))) (c5 (v9 5 nd (G9 (A6 (c7 4) (p9 D5 hr (A6 (c7 0) (c7 1)))))) (c5 (v9 6 nd (p9 D5 hr (A6 (c7 0) b9))) (c5 (z5 (C5 Y0 (c7 6) b9) (c8 (v9 5 nd (G9 (A6 (t5 (c7 5) b9) (c7 4))))) o8) (c5 (z5 (C5 (A4 hr) (c7 6) b9) (c8 (v9 5 nd (G9 (A6 (t5 (c7 5) b9) (p9 D5 hr (A6 (c7 0) (c7 1))))))) o8) (c5 (z5 (T1 (a0f (T1 (a1V (C5 a2b (c7 6) b9) (a0Q (C5 Y0 (c7 6) b9)))) (Z9 (C5 (A4 hr) (c7 1) b9)))) (c8 (v9 5 nd (G9 (o9 (c7 4))))) o8) (c5 (z5 (T1 (a1V (C5 (A4 hr) (c7 6) b9) (a0Q (C5 a2b (c7 1) b9)))) (c8 (v9 5 nd (G9 (o9 (t5 (c7 5) b9))))) o8) (c5 (z5 (T1 (a0f (C5 (A4 hr) (c7 3) (E2 a4D (c7 1) b9)) (Z9 (T1 (a1V (C5 (A4 hr) (c7 6) b9) (a0Q (C5 (A4 hr) (p9 D5 hr (A6 (c7 0) b9)) b9))))))) (c8 (v9 5 nd (G9 X0))) o8) (c8 (N6 (a1C D0 O7 O6 Y6 (c7 2) (o9 (c7 5)))))))))))))) (c8 (o5 (c7 2))))
variable(b5B:D2 P w K mg base 2 c7t b8Q (b0G K))
abbrev a8T:List Str:=[c7s]
theorem b6b:A3 [c7s,c7u,c7v,c7q,c7w,c7x,c7y] a8T (l6 a2Z):=by walk_at "sc"
theorem b3r:N9 [c7s,c7u,c7v,c7q,c7w,c7x,c7y] (l6 a2Z) (scF [ (".0",.local),(c7x,.local),(c7u,.free)]) c7x := by walk_at "c0"
theorem b3q:N9 [c7s,c7u,c7v,c7q,c7w,c7x,c7y] (l6 a2Z) (scF [ (".0",.local),(c7q,.local),("len",.globalImplicit),(c7u,.free),(c7s,.free)]) c7q := by walk_at "c0"
theorem b3p:N9 [c7s,c7u,c7v,c7q,c7w,c7x,c7y] (l6 a2Z) (scF [ (".0",.local),(c7q,.local),(c7s,.free),(c7y,.free)]) c7q := by walk_at "c0"
theorem b3o(env:Env):N9 [c7q,c7s,c7u,c7v,"._law_k",c7w,c7x,c7y] (a6J (scF [ (".0",.local),(c7q,.local),(c7s,.free),(c7y,.free)]) env) (scF [ (".0",.local),(c7x,.local),(c7y,.free)]) c7x := by walk_at "c1"
include T in
theorem b6r(F:Fun K c7z c7z a2Z f fd):K0 P w K mg base CX0 1 f fd a8T (a4F K):=fk F b6b fun _ _ _ _ _ _ hr nd=>c5 (v9 1 nd a1Y) (c5 (K5 PassesOwn.never rfl (J8 rfl T.X7 (o9 (l9 u5 rfl T.N5 o4 (o9 (c7 0))))) (N7 2 nd) (c8 (K5 PassesOwn.never rfl (J8 rfl T.X7 (o9 (l9 u5 rfl T.N5 o4 (o9 (c7 0))))) (N7 3 nd) (c8 (z5 (T1 (a0f (C5 (A4 hr) (t5 (c7 0) (c7 3)) (G9 X0)) (Z9 (N3 (l9 (b2p rfl) rfl T.c6E PyProof.Rows.boot_any (o9 (O9 b3r rfl (F3 (t5 (c7 0) (c7 3))) (fun _ _ _ _ _=>F2) (fun _ _ _ _ _=>b7v hr (c7 0) (c7 2) rfl)))))))) (c8 (V2 hr (c7 1) (c7 3) X3)) o8))))) (c5 (v9 0 nd (O9 b3q rfl (J8 rfl T.X7 (o9 (l9 u5 rfl T.N5 o4 (o9 (c7 0))))) (fun _ _ _ _ _=>F2) (fun _ _ _ _ _=>a0R (b2f hr (c7 0) (c7 2) rfl) (t5 (c7 1) (c7 0)) (E2 Q9 (G9 (o9 (E2 a4D (l9 u5 rfl T.N5 o4 (o9 (c7 1))) b9))) (a1X b0x (t5 (c7 1) (c7 0)) (a2Q b9) a2R))))) (c5 (v9 4 nd (a9S (a8n b9 X3 a9R))) (c5 (K5 PassesOwn.never rfl (J8 rfl T.X7 (o9 (l9 u5 rfl T.N5 o4 (o9 (c7 0))))) (N7 2 nd) (c8 (K5 PassesOwn.never rfl (J8 rfl T.X7 (o9 (l9 u5 rfl T.N5 o4 (o9 (c7 0))))) (N7 3 nd) (c8 (z5 (b2f hr (c7 3) (c7 4) rfl) (c8 (K5 PassesOwn.never rfl (F3 (t5 (c7 0) (c7 3))) (N7 5 nd) (c8 (V2 hr (c7 4) (c7 5) X3)))) o8))))) (c5 (v9 6 nd (l9 a8q rfl T.b3D a8h (o9 (F7 (a5e rfl) rfl T.Z7 w6 (o9 (c7 4)))))) (c8 (o5 (O9 b3p rfl (F3 (c7 6)) (fun _ _ _ _ _=>F2) (fun _ _ _ _ _=>O9 (b3o _) rfl (F3 (t5 (c7 1) (c7 0))) (fun _ _ _ _ _=>F2) (fun _ _ _ _ _=>a1C D0 b2b PySem.F.type_list_index b2l (c7 8) (o9 (c7 0))))))))))))
variable(a6y:D2 P w K mg base 1 c7z a8T (a4F K))
abbrev a7d:List Str:=[c7m,c7A]
theorem b4d:A3 [c7m,c7A,"_law_values"] a7d (l6 a6X):=by walk_at "sc"
include T D5 in
theorem b4C(F:Fun K c7B c7B a6X f fd):K0 P w K mg base CX0 2 f fd a7d (Y1 K):=fk F b4d fun _ _ _ _ _ _ hr nd=>c5 (z5 (C5 (A4 hr) (p9 D5 hr (A6 (c7 0) b9)) b9) (c5 (v9 2 nd (G9 (a5V b9 b9 b9 (p9 D5 hr (A6 (c7 0) b9))))) (c8 (o5 (t5 (c7 2) (p9 D5 hr (A6 (c7 0) b9)))))) o8) (c8 (o5 (t5 (c7 1) (p9 D5 hr (A6 (c7 0) (l9 u5 rfl T.N5 o4 (o9 (c7 1))))))))
variable(X2:D2 P w K mg base 2 c7B a7d (Y1 K))
abbrev b4y:List Str:=[c7m,c7A]
theorem c0v:A3 [c7m,c7A,c7C] b4y (l6 b4j):=by walk_at "sc"
include T D5 X2 in
theorem c1v(F:Fun K c7D c7D b4j f fd):K0 P w K mg base CX0 3 f fd b4y (a7Y K):=fk F c0v fun _ _ _ _ _ _ hr nd=>c5 (v9 2 nd (G9 (b7w v8 v8 v8 v8 v8))) (c8 (o5 (J5 (a2T (t5 (c7 2) (p9 D5 hr (A6 (c7 0) b9))) (p9 X2 hr (A6 (c7 0) (c7 1))) (p9 X2 hr (A6 (c7 0) (c7 1)))))))
variable(b1O:D2 P w K mg base 3 c7D b4y (a7Y K))
abbrev b8P:List Str:=[c7m,c7A,c7E,"_law_asks"]
theorem c2S:A3 [c7m,c7A,c7E,"_law_asks","_law_way","_law_name"] b8P (l6 b7Y):=by walk_at "sc"
include T D5 X2 in
theorem c4o(F:Fun K c7F c7F b7Y f fd):K0 P w K mg base CX0 3 f fd b8P (b0F K):=fk F c2S fun _ _ _ _ _ _ hr nd=>c5 (z5 (N3 (c7 3)) (c8 (o5 (J5 (A6 v8 (p9 X2 hr (A6 (c7 0) (c7 1))))))) o8) (c5 (v9 4 nd (p9 D5 hr (A6 (c7 0) b9))) (c5 (v9 5 nd (t5 (c7 1) (p9 D5 hr (A6 (c7 0) (l9 u5 rfl T.N5 o4 (o9 (c7 1))))))) (c5 (z5 (C5 Y0 (c7 4) b9) (c8 (o5 (J5 (a2T v8 (c7 5) (t5 (c7 2) (p9 D5 hr (A6 (c7 0) (l9 u5 rfl T.N5 o4 (o9 (c7 2)))))))))) o8) (c5 (z5 (C5 Y0 (c7 4) b9) (c8 (o5 (J5 (a2T v8 (c7 5) (p9 X2 hr (A6 (c7 0) (c7 1))))))) o8) (c5 (z5 (C5 (A4 hr) (c7 4) b9) (c8 (o5 (t5 (G9 (A6 (J5 (A6 v8 (c7 5))) (J5 (A6 v8 (p9 X2 hr (A6 (c7 0) (c7 1))))))) (p9 D5 hr (A6 (c7 0) b9))))) o8) (c8 (o5 (J5 (o9 v8)))))))))
variable(b5A:D2 P w K mg base 3 c7F b8P (b0F K))
abbrev b4w:List Str:=[c7m]
theorem c0t:A3 [c7m,c7A,c7n,c7C,c7s,c7E,c7G] b4w (l6 a8J):=by walk_at "sc"
theorem b6N:N9 [c7m,c7A,c7n,c7C,c7s,c7E,c7G] (l6 a8J) (scF [ (".0",.local),(c7q,.local),(c7D,.globalImplicit),(c7m,.free),(c7A,.free)]) c7q := by walk_at "c0"
theorem b6M:N9 [c7m,c7A,c7n,c7C,c7s,c7E,c7G] (l6 a8J) (scF [ (".0",.local),(c7p,.local),(c7F,.globalImplicit),("len",.globalImplicit),(c7m,.free),(c7E,.free),(c7A,.free)]) c7p := by walk_at "c0"
include T D5 b1L b5B a6y b1O b5A in
theorem c1t(F:Fun K c7H c7H a8J f fd):K0 P w K mg base CX0 4 f fd b4w (a7W K):=fk F c0t fun _ _ _ _ _ _ hr nd=>c5 (v9 1 nd (p9 b1L hr (o9 (c7 0)))) (c5 (v9 2 nd (E2 Q9 b9 (p9 D5 hr (A6 (c7 0) b9)))) (c5 (v9 3 nd (E2 Q9 b9 (p9 D5 hr (A6 (c7 0) b9)))) (c5 (z5 (C5 (A4 hr) (p9 D5 hr (A6 (c7 0) b9)) b9) (c5 (v9 2 nd (E2 Q9 b9 (p9 D5 hr (A6 (c7 0) b9)))) (c8 (v9 3 nd (E2 Q9 b9 (p9 D5 hr (A6 (c7 0) b9)))))) o8) (c5 (v9 4 nd (p9 a6y hr (o9 (p9 b5B hr (A6 (c7 0) (c7 2)))))) (c5 (v9 5 nd (O9 b6N rfl (J8 rfl T.X7 (o9 (c7 3))) (fun _ _ _ _ _=>F2) (fun _ _ _ _ _=>p9 b1O hr (A6 (c7 1) (c7 2))))) (c5 (Y5 (n:=6) nd rfl rfl b6M rfl (F3 (c7 4)) (fun _ _ _ _ _=>F2) (fun _ _ _ _ _=>p9 b5A hr (a5V (c7 1) (c7 2) (c7 6) (a3X (A4 hr) (l9 u5 rfl T.N5 o4 (o9 (c7 0))) b9)))) (c8 (o5 (J5 (A6 (c7 6) (c7 4)))))))))))
variable(b1M:D2 P w K mg base 4 c7H b4w (a7W K))
abbrev a2k:List Str:=["things","at","least"]
theorem a7P:A3 ["things","at","least"] a2k (l6 a2j):=by walk_at "sc"
include T in
theorem a7Q(F:Fun K c7I c7I a2j f fd):K0 P w K mg base CX0 1 f fd a2k (a0g K):=fk F a7P fun _ _ _ _ _ _ hr nd=>c5 (z5 (T1 (a0f (T3 (N3 (l9 L4 rfl T.J4 v6 (A6 (c7 0) (Q8 rfl T.Z7 w6 rfl))))) (Z9 (C5 Y0 (l9 u5 rfl T.N5 o4 (o9 (c7 0))) (c7 2))))) (c8 a1W) o8) (c8 (z5 (C5 a2b (l9 u5 rfl T.N5 o4 (o9 (c7 0))) (M4 T.c5p rfl)) (c8 a1W) o8))
variable(a0I:D2 P w K mg base 1 c7I a2k (a0g K))
abbrev a7e:List Str:=[c7J]
theorem b4e:A3 [c7J] a7e (l6 a4H):=by walk_at "sc"
theorem b1G:N9 [c7J] (l6 a4H) (scF [ (".0",.local),("sign",.local),("LETTERS",.globalImplicit),("FIGURES",.globalImplicit)]) "sign" := by walk_at "c0"
include T in
theorem b4D(F:Fun K "is_name" "is_name" a4H f fd):K0 P w K mg base CX0 1 f fd a7e (W4 K):=fk F b4e fun _ _ _ _ _ _ hr nd=>c5 (z5 (T1 (a0f (T3 (N3 (l9 L4 rfl T.J4 v6 (A6 (c7 0) (Q8 rfl T.b9W a3f rfl))))) (Z9 (T3 (b3N a5W a5W b9 (l9 u5 rfl T.N5 o4 (o9 (c7 0))) (M4 T.a9s rfl)))))) (c8 (o5 X3)) o8) (c8 (o5 (O4 (V3 a2a (t5 (c7 0) b9) (M4 T.b0v rfl) rfl) (R5 (l9 (a7y rfl) rfl T.c2I a9P (o9 (O9 b1G rfl (b7r (c7 0)) (fun _ _ _ _ _=>F2) (fun _ _ _ _ _=>V3 a2a (c7 0) (E2 Q9 (M4 T.b0v rfl) (M4 T.b7b rfl)) rfl))))))))
variable(Z4:D2 P w K mg base 1 "is_name" a7e (W4 K))
abbrev a5F:List Str:=[c7J]
theorem b2F:A3 [c7J] a5F (l6 a5x):=by walk_at "sc"
include T in
theorem b2R(F:Fun K c7K c7K a5x f fd):K0 P w K mg base CX0 1 f fd a5F (a1j K):=fk F b2F fun _ _ _ _ _ _ hr nd=>c8 (o5 (O4 (l9 L4 rfl T.J4 v6 (A6 (c7 0) (Q8 rfl T.c6D PyProof.Rows.boot_int rfl))) (R5 (b7t (l9 L4 rfl T.J4 v6 (A6 (c7 0) (Q8 rfl T.b9X a9v rfl)))))))
variable(a0o:D2 P w K mg base 1 c7K a5F (a1j K))
abbrev a5G:List Str:=[c7J]
theorem b2G:A3 [c7J] a5G (l6 a5y):=by walk_at "sc"
include T a0o in
theorem b2S(F:Fun K c7L c7L a5y f fd):K0 P w K mg base CX0 2 f fd a5G (a2v K):=fk F b2G fun _ _ _ _ _ _ hr nd=>c8 (o5 (O4 (p9 a0o hr (o9 (c7 0))) (R5 (a8p a5W Y0 b9 (c7 0) (M4 T.a8j rfl)))))
variable(a3A:D2 P w K mg base 2 c7L a5G (a2v K))
abbrev a3s:List Str:=[c7J]
theorem a9C:A3 [c7J] a3s (l6 a3n):=by walk_at "sc"
include T Z4 a3A in
theorem a9F(F:Fun K c7M c7M a3n f fd):K0 P w K mg base CX0 3 f fd a3s (U3 K):=fk F a9C fun _ _ _ _ _ _ hr nd=>c8 (o5 (c0b (p9 Z4 hr (o9 (c7 0))) (R5 (p9 a3A hr (o9 (c7 0))))))
variable(Q4:D2 P w K mg base 3 c7M a3s (U3 K))
abbrev a7f:List Str:=[c7J]
theorem b4f:A3 [c7J] a7f (l6 a6Y):=by walk_at "sc"
include T Q4 in
theorem b4E(F:Fun K "is_deed" "is_deed" a6Y f fd):K0 P w K mg base CX0 4 f fd a7f (a3k K c):=fk F b4f fun _ _ _ _ _ _ hr nd=>c5 (z5 (T1 (a0f (T3 (N3 (l9 L4 rfl T.J4 v6 (A6 (c7 0) (Q8 rfl T.a8k a0e rfl))))) (Z9 (C5 (a3Y hr) (l9 u5 rfl T.N5 o4 (o9 (c7 0))) b9)))) (c8 (o5 X3)) o8) (c8 (o5 (O4 (V3 b5N (t5 (c7 0) b9) (M4 T.b1Z rfl) rfl) (O4 (p9 Q4 hr (o9 (t5 (c7 0) b9))) (R5 (p9 Q4 hr (o9 (t5 (c7 0) b9))))))))
variable(a4M:D2 P w K mg base 4 "is_deed" a7f (a3k K c))
abbrev a8U:List Str:=[c7J]
theorem b6c:A3 [c7J,"kind","rest"] a8U (l6 a8K):=by walk_at "sc"
include T Z4 Q4 a4M in
theorem b6s(F:Fun K "is_row" "is_row" a8K f fd):K0 P w K mg base CX0 5 f fd a8U (a4G K c):=fk F b6c fun _ _ _ _ _ _ hr nd=>c5 (z5 (T1 (a0f (T3 (N3 (l9 L4 rfl T.J4 v6 (A6 (c7 0) (Q8 rfl T.a8k a0e rfl))))) (Z9 (C5 (A4 hr) (l9 u5 rfl T.N5 o4 (o9 (c7 0))) b9)))) (c8 (o5 X3)) o8) (c5 (v9 1 nd (t5 (c7 0) b9)) (c5 (v9 2 nd (a1X b0x (c7 0) (a2Q b9) a2R)) (c5 (z5 (C5 (A4 hr) (c7 1) v8) (c8 (o5 (O4 (a3X (A4 hr) (l9 u5 rfl T.N5 o4 (o9 (c7 2))) b9) (O4 (p9 Z4 hr (o9 (t5 (c7 2) b9))) (R5 (p9 a4M hr (o9 (t5 (c7 2) b9)))))))) o8) (c5 (z5 (C5 (A4 hr) (c7 1) v8) (c8 (o5 (O4 (a3X (A4 hr) (l9 u5 rfl T.N5 o4 (o9 (c7 2))) b9) (O4 (p9 Z4 hr (o9 (t5 (c7 2) b9))) (R5 (p9 Q4 hr (o9 (t5 (c7 2) b9)))))))) o8) (c5 (z5 (C5 (A4 hr) (c7 1) v8) (c8 (o5 (O4 (a3X (A4 hr) (l9 u5 rfl T.N5 o4 (o9 (c7 2))) b9) (R5 (p9 Z4 hr (o9 (t5 (c7 2) b9))))))) o8) (c5 (z5 (a1M a2a (c7 1) (J5 (A6 v8 v8)) rfl) (c8 (o5 (O4 (a3X (A4 hr) (l9 u5 rfl T.N5 o4 (o9 (c7 2))) b9) (R5 (p9 Q4 hr (o9 (t5 (c7 2) b9))))))) o8) (c8 (o5 (O4 (a3X (A4 hr) (c7 1) v8) (R5 (a3X (A4 hr) (l9 u5 rfl T.N5 o4 (o9 (c7 2))) b9)))))))))))
variable(a6z:D2 P w K mg base 5 "is_row" a8U (a4G K c))
abbrev a3u:List Str:=["rights"]
theorem a9E:A3 ["rights","k","right"] a3u (l6 a3p):=by walk_at "sc"
include T in
theorem a9H(F:Fun K c7N c7N a3p f fd):K0 P w K mg base CX0 1 f fd a3u (a0b K):=fk F a9E fun _ _ _ _ _ _ hr nd=>c8 (K5 PassesOwn.never rfl (a1N rfl T.a0v (o9 (c7 0))) (a3W rfl (U2 (N7 1 nd) (U2 (N7 2 nd) a2S))) (c8 (z5 (T3 (N3 (c7 2))) (c8 a1W) o8)))
variable(W6:D2 P w K mg base 1 c7N a3u (a0b K))
abbrev a5H:List Str:=[c7J,"many"]
theorem b2H:A3 [c7J,"many"] a5H (l6 a5z):=by walk_at "sc"
include T a0o in
theorem b2T(F:Fun K c7O c7O a5z f fd):K0 P w K mg base CX0 2 f fd a5H (a2w K):=fk F b2H fun _ _ _ _ _ _ hr nd=>c8 (o5 (O4 (p9 a0o hr (o9 (c7 0))) (R5 (a8p a5W Y0 b9 (c7 0) (c7 1)))))
variable(a3B:D2 P w K mg base 2 c7O a5H (a2w K))
abbrev a4q:List Str:=["row",c7P,"many"]
theorem b0N:A3 ["row",c7P,"many","wanted"] a4q (l6 a2y):=by walk_at "sc"
theorem a9k:N9 ["row",c7P,"many","wanted"] (l6 a2y) (scF [ (".0",.local),(c7Q,.local),(c7O,.globalImplicit),("many",.free)]) c7Q := by walk_at "c0"
include T a3B in
theorem b1m(F:Fun K c7R c7R a2y f fd):K0 P w K mg base CX0 3 f fd a4q (a1H K):=fk F b0N fun _ _ _ _ _ _ hr nd=>c5 (z5 (T3 (N3 (l9 L4 rfl T.J4 v6 (A6 (c7 1) (Q8 rfl T.Z7 w6 rfl))))) (c8 (o5 X3)) o8) (c5 (v9 3 nd (a0R (C5 (A4 hr) (t5 (c7 0) b9) v8) (J5 (o9 b9)) (J5 (A6 b9 b9)))) (c8 (o5 (O4 (V3 a2a (l9 u5 rfl T.N5 o4 (o9 (c7 1))) (c7 3) rfl) (R5 (l9 (a7y rfl) rfl T.c2I a9P (o9 (O9 a9k rfl (F3 (c7 1)) (fun _ _ _ _ _=>F2) (fun _ _ _ _ _=>p9 a3B hr (A6 (c7 0) (c7 3)))))))))))
variable(a2D:D2 P w K mg base 3 c7R a4q (a1H K))
abbrev a2L:List Str:=[c7S,c7T]
theorem a8G:A3 [c7S,c7T] a2L (l6 a1b):=by walk_at "sc"
theorem a7p:a2E [c7S,c7T] (l6 a1b) (scF [ (".0",.local),("row",.local),(c7P,.local),(c7R,.globalImplicit),("len",.globalImplicit),(c7S,.free)]) "row" c7P := by walk_at "c2"
include T W6 a2D in
theorem a8W(F:Fun K c7U c7U a1b f fd):K0 P w K mg base CX0 4 f fd a2L (a0D K):=fk F a8G fun _ _ _ _ _ _ hr nd=>c5 (z5 (T1 (a0f (T3 (N3 (l9 L4 rfl T.J4 v6 (A6 (c7 1) (Q8 rfl T.Z7 w6 rfl))))) (Z9 (C5 (a3Y hr) (l9 u5 rfl T.N5 o4 (o9 (c7 1))) (l9 u5 rfl T.N5 o4 (o9 (c7 0))))))) (c8 a1W) o8) (c8 (N6 (p9 W6 hr (o9 (a5s a7p rfl (b7q rfl T.c6B (A6 (c7 0) (c7 1))) (fun _ _ _ _ _=>F2) (fun _ _ _ _ _=>p9 a2D hr (a2T (c7 0) (c7 1) (l9 u5 rfl T.N5 o4 (o9 (c7 2))))))))))
variable(a1e:D2 P w K mg base 4 c7U a2L (a0D K))
abbrev a7b:List Str:=["begins","leads"]
theorem b4b:A3 ["begins","leads","seen","waiting",c7Q] a7b (l6 a6V):=by walk_at "sc"
include T in
theorem b4A(F:Fun K "reached" "reached" a6V f fd):K0 P w K mg base CX0 1 f fd a7b (a2g K):=fk F b4b fun _ _ _ _ _ _ hr nd=>c5 (v9 2 nd a1Y) (c5 (v9 3 nd (F7 Q1 rfl T.Z7 w6 (o9 (c7 0)))) (c5 (a5r PassesOwn.never (C5 a2b (l9 u5 rfl T.N5 o4 (o9 (c7 3))) b9) (c5 (v9 4 nd (b2i D0 b3G b3E a9V (c7 3))) (c8 (z5 (a1h hr (c7 4) (c7 2) rfl) (c5 (V2 hr (c7 2) (c7 4) X3) (c8 (N6 (a1C D0 b1W b1V a5X (c7 3) (o9 (t5 (c7 1) (c7 4))))))) o8)))) (c8 (o5 (c7 2)))))
variable(a3c:D2 P w K mg base 1 "reached" a7b (a2g K))
abbrev a8R:List Str:=[c7T]
theorem b5Z:A3 [c7T,"sources",c7Q,c7P,"target"] a8R (l6 a6i):=by walk_at "sc"
theorem b3n:N9 [c7T,"sources",c7Q,c7P,"target"] (l6 a6i) (scF [(".0",.local),(c7P,.local)]) c7P := by walk_at "c0"
include T in
theorem b6p(F:Fun K "turned" "turned" a6i f fd):K0 P w K mg base CX0 1 f fd a8R (a4E K):=fk F b5Z fun _ _ _ _ _ _ hr nd=>c5 (Y5 (n:=1) nd rfl rfl b3n rfl (F3 (c7 0)) (fun _ _ _ _ _=>F2) (fun _ _ _ _ _=>G9 X0)) (c5 (K5 PassesOwn.never rfl (a1N rfl T.a0v (o9 (c7 0))) (a3W rfl (U2 (N7 2 nd) (U2 (N7 3 nd) a2S))) (c8 (K5 PassesOwn.never rfl (F3 (c7 3)) (N7 4 nd) (c8 (N6 (a1C D0 O7 O6 Y6 (t5 (c7 1) (c7 4)) (o9 (c7 2)))))))) (c8 (o5 (c7 1))))
variable(a6x:D2 P w K mg base 1 "turned" a8R (a4E K))
abbrev a5C:List Str:=[c7T]
theorem b2C:A3 [c7T] a5C (l6 a3l):=by walk_at "sc"
theorem a9K:a2E [c7T] (l6 a3l) (scF [ (".0",.local),(c7Q,.local),(c7P,.local),("len",.globalImplicit)]) c7Q c7P := by walk_at "c2"
include T in
theorem b2O(F:Fun K c7V c7V a3l f fd):K0 P w K mg base CX0 1 f fd a5C (a2s K):=fk F b2C fun _ _ _ _ _ _ hr nd=>c8 (o5 (a5s a9K rfl (a1N rfl T.a0v (o9 (c7 0))) (fun _ _ _ _ _=>b5J (C5 (A4 hr) (l9 u5 rfl T.N5 o4 (o9 (c7 1))) b9)) (fun _ _ _ _ _=>c7 0)))
variable(a3x:D2 P w K mg base 1 c7V a5C (a2s K))
abbrev a3t:List Str:=[c7T]
theorem a9D:A3 [c7T,"begun","ending",c7Q] a3t (l6 a3o):=by walk_at "sc"
include T a3c a6x a3x in
theorem a9G(F:Fun K c7W c7W a3o f fd):K0 P w K mg base CX0 2 f fd a3t (a1a K):=fk F a9D fun _ _ _ _ _ _ hr nd=>c5 (v9 1 nd (p9 a3c hr (A6 (G9 (o9 b9)) (c7 0)))) (c5 (v9 2 nd (p9 a3c hr (A6 (p9 a3x hr (o9 (c7 0))) (p9 a6x hr (o9 (c7 0)))))) (c8 (K5 PassesOwn.never rfl (J8 rfl T.X7 (o9 (l9 u5 rfl T.N5 o4 (o9 (c7 0))))) (N7 3 nd) (c8 (z5 (T1 (a0f (a1h hr (c7 3) (c7 1) rfl) (Z9 (a1h hr (c7 3) (c7 2) rfl)))) (c8 a1W) o8)))))
variable(a1J:D2 P w K mg base 2 c7W a3t (a1a K))
abbrev a5D:List Str:=[c7T]
theorem b2D:A3 [c7T,"steps",c7Q,c7P] a5D (l6 a3m):=by walk_at "sc"
theorem a9L:N9 [c7T,"steps",c7Q,c7P] (l6 a3m) (scF [ (".0",.local),("at",.local),(c7Q,.free)]) "at" := by walk_at "c0"
include T in
theorem b2P(F:Fun K c7X c7X a3m f fd):K0 P w K mg base CX0 1 f fd a5D (a2t K c):=fk F b2D fun _ _ _ _ _ _ hr nd=>c5 (v9 1 nd (G9 (o9 (M4 T.a1L rfl)))) (c5 (K5 PassesOwn.never rfl (a1N rfl T.a0v (o9 (c7 0))) (a3W rfl (U2 (N7 2 nd) (U2 (N7 3 nd) a2S))) (c8 (N6 (a1C D0 b1W b1V a5X (c7 1) (o9 (O9 a9L rfl (J8 rfl T.X7 (o9 (l9 u5 rfl T.N5 o4 (o9 (c7 3))))) (fun _ _ _ _ _=>F2) (fun _ _ _ _ _=>J5 (A6 (c7 3) (c7 0))))))))) (c8 (o5 (c7 1))))
variable(a3y:D2 P w K mg base 1 c7X a5D (a2t K c))
abbrev a1w:List Str:=["self","step"]
theorem a6U:A3 ["self","step"] a1w (l6 a1t):=by walk_at "sc"
include T in
theorem a7i(F:Fun K "leads_to" "Plan.leads_to" a1t f fd):K0 P w K mg base CX0 1 f fd a1w (V6 K c):=fk F a6U fun _ _ _ _ _ _ hr nd=>c5 (z5 (a1M (b5Q hr) (c7 1) (M4 T.a1L rfl) (a4s _)) (c8 (o5 b9)) o8) (c8 (o5 (t5 (t5 (P8 (c7 0)) (t5 (c7 1) b9)) (t5 (c7 1) b9))))
variable(P4:a8g P w K mg base 1 "leads_to" c.M7 a1w (V6 K c))
abbrev a4r:List Str:=["self",c7S,c7T]
theorem b0O:A3 ["self",c7S,c7T,"step"] a4r (l6 a0s):=by walk_at "sc"
theorem a9n:N9 ["self",c7S,c7T,"step"] (l6 a0s) (scF [ (".0",.local),("row",.local),("is_row",.globalImplicit)]) "row" := by walk_at "c0"
theorem a9m:N9 ["self",c7S,c7T,"step"] (l6 a0s) (scF [ (".0",.local),(c7P,.local),("list",.globalImplicit)]) c7P := by walk_at "c0"
theorem a9l:N9 ["self",c7S,c7T,"step"] (l6 a0s) (scF [(".0",.local),("row",.local)]) "row" := by walk_at "c0"
include T a0I a6z W6 a1e a1J a3y P4 in
theorem b1n(F:Fun K c7j "Plan.__init__" a0s f fd):K0 P w K mg base CX0 6 f fd a4r (a0E K c):=fk F b0O fun _ _ _ _ _ _ hr nd=>c5 (N6 (p9 a0I hr (a2T (c7 1) b9 b9))) (c5 (N6 (p9 W6 hr (o9 (O9 a9n rfl (F3 (c7 1)) (fun _ _ _ _ _=>F2) (fun _ _ _ _ _=>p9 a6z hr (o9 (c7 0))))))) (c5 (N6 (p9 a1e hr (A6 (c7 1) (c7 2)))) (c5 (N6 (p9 a1J hr (o9 (c7 2)))) (c5 (a8m (c7 0) (F7 Q1 rfl T.Z7 w6 (o9 (c7 1)))) (c5 (a8m (c7 0) (O9 a9m rfl (F3 (c7 2)) (fun _ _ _ _ _=>F2) (fun _ _ _ _ _=>F7 Q1 rfl T.Z7 w6 (o9 (c7 0))))) (c5 (a8m (c7 0) (O9 a9l rfl (F3 (c7 1)) (fun _ _ _ _ _=>F2) (fun _ _ _ _ _=>G9 X0))) (c8 (K5 PassesOwn.never rfl (F3 (p9 a3y hr (o9 (P8 (c7 0))))) (N7 3 nd) (c8 (N6 (a1C D0 O7 O6 Y6 (t5 (P8 (c7 0)) (b2h P4 hr (by decide) (c7 0) (o9 (c7 3)))) (o9 (c7 3)))))))))))))
variable(a5J:b3A P w K mg base 6 "Plan" c.M7 a4r (a0E K c))
abbrev b4x:List Str:=[c7G,c7s]
theorem c0u:A3 [c7G,c7s] b4x (l6 b0U):=by walk_at "sc"
theorem b6O:N9 [c7G,c7s] (l6 b0U) (scF [ (".0",.local),(c7p,.local),("list",.globalImplicit)]) c7p := by walk_at "c0"
include T a5J in
theorem c1u(F:Fun K c7Y c7Y b0U f fd):K0 P w K mg base CX0 8 f fd b4x (a7X K c):=fk F c0u fun _ _ _ _ _ _ hr nd=>c8 (o5 (b7u a5J hr (A6 (F7 Q1 rfl T.Z7 w6 (o9 (c7 0))) (O9 b6O rfl (F3 (c7 1)) (fun _ _ _ _ _=>F2) (fun _ _ _ _ _=>F7 Q1 rfl T.Z7 w6 (o9 (c7 0)))))))
variable(b1N:D2 P w K mg base 8 c7Y b4x (a7X K c))
abbrev a5E:List Str:=[c7G]
theorem b2E:A3 [c7G,"_law_found","_law_row_here","_law_words","_law_word"] a5E (l6 a5w):=by walk_at "sc"
include T in
theorem b2Q(F:Fun K c7Z c7Z a5w f fd):K0 P w K mg base CX0 1 f fd a5E (a2u K):=fk F b2E fun _ _ _ _ _ _ hr nd=>c5 (v9 1 nd a1Y) (c5 (K5 PassesOwn.never rfl (F3 (c7 0)) (N7 2 nd) (c5 (v9 3 nd (F7 Q1 rfl T.Z7 w6 (o9 (a1X b0x (c7 2) (a2Q b9) a2R)))) (c5 (z5 (C5 (A4 hr) (t5 (c7 2) b9) v8) (c8 (v9 3 nd (G9 (a2T (t5 (c7 2) b9) (t5 (t5 (c7 2) b9) b9) (t5 (t5 (c7 2) b9) b9))))) o8) (c8 (K5 PassesOwn.never rfl (F3 (c7 3)) (N7 4 nd) (c8 (z5 (N3 (l9 L4 rfl T.J4 v6 (A6 (c7 4) (Q8 rfl T.b9W a3f rfl)))) (c8 (V2 hr (c7 1) (c7 4) X3)) o8))))))) (c8 (o5 (l9 a9x rfl T.b3D a8h (o9 (F7 (a5e rfl) rfl T.Z7 w6 (o9 (c7 1))))))))
variable(a3z:D2 P w K mg base 1 c7Z a5E (a2u K))
abbrev a4p:List Str:=[c8a]
theorem b0M:A3 [c8a,"found","row"] a4p (l6 a4k):=by walk_at "sc"
include T in
theorem b1l(F:Fun K c8b c8b a4k f fd):K0 P w K mg base CX0 1 f fd a4p (a1G K):=fk F b0M fun _ _ _ _ _ _ hr nd=>c5 (v9 1 nd b3O) (c5 (K5 PassesOwn.never rfl (F3 (P8 (c7 0))) (N7 2 nd) (c8 (z5 (T1 (a1V (C5 (A4 hr) (t5 (c7 2) b9) v8) (a0Q (C5 (a3Y hr) (t5 (c7 2) b9) (t5 (c7 2) b9))))) (c8 (V2 hr (c7 1) (c7 2) X3)) o8))) (c8 (o5 (F7 (a9y rfl) rfl T.Z7 w6 (o9 (c7 1))))))
variable(a2C:D2 P w K mg base 1 c8b a4p (a1G K))
abbrev a8S:List Str:=["row"]
theorem b6a:A3 ["row"] a8S (l6 a8I):=by walk_at "sc"
include T in
theorem b6q(F:Fun K "set_by" "set_by" a8I f fd):K0 P w K mg base CX0 1 f fd a8S (a1P K):=fk F b6a fun _ _ _ _ _ _ hr nd=>c8 (o5 (a0R (a1M a2a (t5 (c7 0) b9) (J5 (a2T v8 v8 v8)) rfl) (t5 (c7 0) b9) b2g))
variable(a1n:D2 P w K mg base 1 "set_by" a8S (a1P K))
abbrev a7c:List Str:=[c8a,c7Q,"come_by","order"]
theorem b4c:A3 [c8a,c7Q,"come_by","order","at","target"] a7c (l6 a6W):=by walk_at "sc"
include T in
theorem b4B(F:Fun K "pass_on" "pass_on" a6W f fd):K0 P w K mg base CX0 1 f fd a7c (a2h K):=fk F b4c fun _ _ _ _ _ _ hr nd=>c8 (K5 PassesOwn.never rfl (a1N rfl T.a0v (o9 (t5 (P8 (c7 0)) (c7 1)))) (a3W rfl (U2 (N7 4 nd) (U2 (N7 5 nd) a2S))) (c8 (z5 (a1h hr (c7 5) (c7 2) rfl) (c5 (V2 hr (c7 2) (c7 5) (J5 (A6 (c7 1) (c7 4)))) (c8 (N6 (a1C D0 O7 O6 Y6 (c7 3) (o9 (c7 5)))))) o8)))
variable(a3d:D2 P w K mg base 1 "pass_on" a7c (a2h K))
abbrev a1u:List Str:=[c8a,"made","broken"]
theorem a6S:A3 [c8a,"made","broken","come_by","order",c7Q,"done"] a1u (l6 a1r):=by walk_at "sc"
include T a3d in
theorem a7g(F:Fun K c8c c8c a1r f fd):K0 P w K mg base CX0 2 f fd a1u (Y7 K c):=fk F a6S fun _ _ _ _ _ _ hr nd=>c5 (v9 3 nd (a9S (a8n b9 (M4 T.a1L rfl) a9R))) (c5 (v9 4 nd (G9 (o9 b9))) (c5 (K5 PassesOwn.never rfl (J8 rfl T.X7 (o9 (l9 u5 rfl T.N5 o4 (o9 (P8 (c7 0)))))) (N7 5 nd) (c8 (z5 (N3 (t5 (c7 2) (c7 5))) (c8 (N6 (p9 a3d hr (a5V (c7 0) (c7 5) (c7 3) (c7 4))))) o8))) (c5 (v9 6 nd b9) (c5 (a5r PassesOwn.never (C5 Y0 (c7 6) (l9 u5 rfl T.N5 o4 (o9 (c7 4)))) (c5 (v9 5 nd (t5 (c7 4) (c7 6))) (c5 (b7p (n:=6) nd rfl (Or.inl rfl) b9 b2m) (c8 (z5 (T3 (N3 (t5 (c7 1) (c7 5)))) (c8 (N6 (p9 a3d hr (a5V (c7 0) (c7 5) (c7 3) (c7 4))))) o8))))) (c8 (o5 (c7 3)))))))
variable(a0i:D2 P w K mg base 2 c8c a1u (Y7 K c))
abbrev a0U:List Str:=[c8a,c8d]
theorem a6g:A3 [c8a,c8d,"made","broken"] a0U (l6 V7):=by walk_at "sc"
theorem a4R:N9 [c8a,c8d,"made","broken"] (l6 V7) (scF [ (".0",.local),("row",.local),(c8d,.free)]) "row" := by walk_at "c0"
theorem a4Q:N9 [c8a,c8d,"made","broken"] (l6 V7) (scF [ (".0",.local),("row",.local),("set_by",.globalImplicit),(c8d,.free)]) "row" := by walk_at "c0"
include T a1n a0i in
theorem a6p(F:Fun K c8e c8e V7 f fd):K0 P w K mg base CX0 3 f fd a0U (X5 K c):=fk F a6g fun _ _ _ _ _ _ hr nd=>c5 (Y5 (n:=2) nd rfl rfl a4R rfl (F3 (P8 (c7 0))) (fun _ _ _ _ _=>F2) (fun _ _ _ _ _=>V3 (b5P hr) (c7 0) (c7 2) (a4s _))) (c5 (Y5 (n:=3) nd rfl rfl a4Q rfl (F3 (P8 (c7 0))) (fun _ _ _ _ _=>F2) (fun _ _ _ _ _=>O4 (V3 (b5M hr) (c7 0) (c7 2) (a4s _)) (R5 (V3 a2a (p9 a1n hr (o9 (c7 0))) (a1X b0x (c7 2) (a2Q b9) a2R) rfl)))) (c8 (o5 (p9 a0i hr (a2T (c7 0) (c7 2) (c7 3))))))
variable(Z2:D2 P w K mg base 3 c8e a0U (X5 K c))
abbrev a0V:List Str:=[c8a]
theorem a6h:A3 [c8a,"found",c8d,"without",c7Q] a0V (l6 Z0):=by walk_at "sc"
theorem a4S:N9 [c8a,"found",c8d,"without",c7Q] (l6 Z0) (scF [(".0",.local),("row",.local)]) "row" := by walk_at "c0"
include T a2C Z2 in
theorem a6q(F:Fun K c8f c8f Z0 f fd):K0 P w K mg base CX0 4 f fd a0V (X6 K c):=fk F a6h fun _ _ _ _ _ _ hr nd=>c5 (Y5 (n:=1) nd rfl rfl a4S rfl (F3 (P8 (c7 0))) (fun _ _ _ _ _=>F2) (fun _ _ _ _ _=>a1Y)) (c5 (K5 PassesOwn.never rfl (F3 (p9 a2C hr (o9 (c7 0)))) (N7 2 nd) (c5 (v9 3 nd (p9 Z2 hr (A6 (c7 0) (c7 2)))) (c8 (K5 PassesOwn.never rfl (J8 rfl T.X7 (o9 (l9 u5 rfl T.N5 o4 (o9 (P8 (c7 0)))))) (N7 4 nd) (c8 (z5 (a1h hr (c7 4) (c7 3) rfl) (c8 (V2 hr (t5 (c7 1) (c7 4)) (t5 (c7 2) b9) (t5 (c7 2) b9))) o8)))))) (c8 (o5 (c7 1))))
variable(Z3:D2 P w K mg base 4 c8f a0V (X6 K c))
abbrev a1v:List Str:=["row","known"]
theorem a6T:A3 ["row","known","deed"] a1v (l6 a1s):=by walk_at "sc"
include T in
theorem a7h(F:Fun K c8g c8g a1s f fd):K0 P w K mg base CX0 1 f fd a1v (Y8 K):=fk F a6T fun _ _ _ _ _ _ hr nd=>c5 (z5 (C5 (A4 hr) (t5 (c7 0) b9) v8) (c5 (v9 2 nd (t5 (c7 0) b9)) (c8 (o5 (J5 (a2T v8 (t5 (c7 0) b9) (J5 (a2T (t5 (c7 2) b9) (a1Z hr (c7 1) (t5 (c7 2) b9) (t5 (c7 2) b9)) (a1Z hr (c7 1) (t5 (c7 2) b9) (t5 (c7 2) b9))))))))) o8) (c5 (z5 (C5 (A4 hr) (t5 (c7 0) b9) v8) (c8 (o5 (J5 (a2T v8 (t5 (c7 0) b9) (a1Z hr (c7 1) (t5 (c7 0) b9) (t5 (c7 0) b9)))))) o8) (c5 (z5 (a1M a2a (t5 (c7 0) b9) (J5 (A6 v8 v8)) rfl) (c8 (o5 (J5 (A6 (t5 (c7 0) b9) (a1Z hr (c7 1) (t5 (c7 0) b9) (t5 (c7 0) b9)))))) o8) (c8 (o5 (c7 0)))))
variable(a0j:D2 P w K mg base 1 c8g a1v (Y8 K))
abbrev a4o:List Str:=[c8a]
theorem b0L:A3 [c8a,"known"] a4o (l6 a2x):=by walk_at "sc"
theorem a9j:a2E [c8a,"known"] (l6 a2x) (scF [ (".0",.local),(c7Q,.local),("row",.local),(c8g,.globalImplicit),("known",.free)]) c7Q "row" := by walk_at "c2"
include T a5J Z3 a0j in
theorem b1k(F:Fun K c8h c8h a2x f fd):K0 P w K mg base CX0 8 f fd a4o (Y9 K c):=fk F b0L fun _ _ _ _ _ _ hr nd=>c5 (v9 1 nd (p9 Z3 hr (o9 (c7 0)))) (c8 (o5 (b7u a5J hr (A6 (a5s a9j rfl (a1N rfl T.a0v (o9 (P8 (c7 0)))) (fun _ _ _ _ _=>F2) (fun _ _ _ _ _=>p9 a0j hr (A6 (c7 1) (t5 (c7 3) (c7 0))))) (P8 (c7 0))))))
variable(a1o:D2 P w K mg base 8 c8h a4o (Y9 K c))
abbrev b1e:List Str:=[c7m]
theorem b7T:A3 [c7m,"_law_values"] b1e (l6 b0R):=by walk_at "sc"
include T D5 in
theorem b8T(F:Fun K c8i c8i b0R f fd):K0 P w K mg base CX0 2 f fd b1e (a2f K):=fk F b7T fun _ _ _ _ _ _ hr nd=>c5 (v9 1 nd (G9 (F5 b9 (b7w b9 b9 b9 (p9 D5 hr (A6 (c7 0) b9)) (p9 D5 hr (A6 (c7 0) b9)))))) (c8 (o5 (t5 (c7 1) (p9 D5 hr (A6 (c7 0) b9)))))
variable(a1I:D2 P w K mg base 2 c8i b1e (a2f K))
abbrev b1f:List Str:=[c7m,c8j]
theorem b7U:A3 [c7m,c8j,c8k,"_law_name"] b1f (l6 b0S):=by walk_at "sc"
include T D5 a1I in
theorem b8U(F:Fun K c8l c8l b0S f fd):K0 P w K mg base CX0 3 f fd b1f (a6f K):=fk F b7U fun _ _ _ _ _ _ hr nd=>c5 (v9 2 nd a1Y) (c5 (K5 PassesOwn.never rfl (F3 (c7 1)) (N7 3 nd) (c8 (z5 (C5 (A4 hr) (p9 D5 hr (A6 (c7 0) b9)) b9) (c8 (V2 hr (c7 2) (c7 3) (p9 a1I hr (o9 (c7 0))))) o8))) (c5 (z5 (C5 (A4 hr) (p9 D5 hr (A6 (c7 0) b9)) b9) (c8 (V2 hr (c7 2) v8 (p9 a1I hr (o9 (c7 0))))) o8) (c5 (z5 (T1 (a1V (C5 (A4 hr) (p9 D5 hr (A6 (c7 0) b9)) b9) (a0Q (a1M b2j v8 (c7 1) rfl)))) (c8 (V2 hr (c7 2) v8 (p9 a1I hr (o9 (c7 0))))) o8) (c8 (o5 (c7 2))))))
variable(a8f:D2 P w K mg base 3 c8l b1f (a6f K))
abbrev a5B:List Str:=["operand",c8m]
theorem b2B:A3 ["operand",c8m] a5B (l6 a5v):=by walk_at "sc"
include T in
theorem b2N(F:Fun K c8n c8n a5v f fd):K0 P w K mg base CX0 1 f fd a5B (W3 K):=fk F b2B fun _ _ _ _ _ _ hr nd=>c5 (z5 (N3 (l9 L4 rfl T.J4 v6 (A6 (c7 0) (Q8 rfl T.b9W a3f rfl)))) (c8 (o5 (a1Z hr (c7 1) (c7 0) b9))) o8) (c8 (o5 (c7 0)))
variable(M6:D2 P w K mg base 1 c8n a5B (W3 K))
abbrev b1d:List Str:=["deed",c8m]
theorem b7S:A3 ["deed",c8m,"kind","one","other"] b1d (l6 b0P):=by walk_at "sc"
include T M6 in
theorem b8S(F:Fun K "worth" "worth" b0P f fd):K0 P w K mg base CX0 2 f fd b1d (a6e K):=fk F b7S fun _ _ _ _ _ _ hr nd=>c5 (v9 2 nd (t5 (c7 0) b9)) (c5 (v9 3 nd (p9 M6 hr (A6 (t5 (c7 0) b9) (c7 1)))) (c5 (v9 4 nd (p9 M6 hr (A6 (t5 (c7 0) b9) (c7 1)))) (c5 (z5 (C5 (A4 hr) (c7 2) v8) (c8 (o5 (E2 V4 (E2 Q9 (c7 3) (c7 4)) (M4 T.a8j rfl)))) o8) (c5 (z5 (C5 (A4 hr) (c7 2) v8) (c8 (o5 (E2 V4 (E2 a4D (c7 3) (c7 4)) (M4 T.a8j rfl)))) o8) (c5 (z5 (C5 (A4 hr) (c7 2) v8) (c8 (o5 (E2 V4 (E2 a1O (c7 3) (c7 4)) (M4 T.a8j rfl)))) o8) (c5 (z5 (C5 (A4 hr) (c7 2) v8) (c8 (o5 (a0R (C5 Y0 (c7 3) (c7 4)) b9 b9))) o8) (c8 (o5 (a0R (C5 (A4 hr) (c7 3) (c7 4)) b9 b9)))))))))
variable(a8e:D2 P w K mg base 2 "worth" b1d (a6e K))
abbrev a4n:List Str:=["row",c8m,"left"]
theorem b0K:A3 ["row",c8m,"left"] a4n (l6 a4i):=by walk_at "sc"
include T M6 a8e in
theorem b1j(F:Fun K c8o c8o a4i f fd):K0 P w K mg base CX0 3 f fd a4n (a1F K):=fk F b0K fun _ _ _ _ _ _ hr nd=>c5 (z5 (C5 (A4 hr) (t5 (c7 0) b9) v8) (c8 (o5 (p9 a8e hr (A6 (t5 (c7 0) b9) (c7 1))))) o8) (c5 (z5 (C5 (A4 hr) (t5 (c7 0) b9) v8) (c8 (o5 (p9 M6 hr (A6 (t5 (c7 0) b9) (c7 1))))) o8) (c8 (o5 (a0R (C5 a2b (l9 u5 rfl T.N5 o4 (o9 (c7 2))) b9) (b2i D0 b3G b3E a9V (c7 2)) b9))))
variable(a2B:D2 P w K mg base 3 c8o a4n (a1F K))
abbrev a2K:List Str:=[c7Q,"row",c8m]
theorem a8F:A3 [c7Q,"row",c8m] a2K (l6 a2H):=by walk_at "sc"
include T M6 in
theorem a8V(F:Fun K c8p c8p a2H f fd):K0 P w K mg base CX0 2 f fd a2K (a0C K):=fk F a8F fun _ _ _ _ _ _ hr nd=>c5 (z5 (T1 (a1V (C5 (A4 hr) (t5 (c7 1) b9) v8) (a0Q (C5 (A4 hr) (p9 M6 hr (A6 (t5 (c7 1) b9) (c7 2))) b9)))) (c8 (o5 (J5 (A6 (c7 0) b9)))) o8) (c8 (o5 (J5 (A6 (c7 0) b9))))
variable(a1d:D2 P w K mg base 2 c8p a2K (a0C K))
abbrev b8O:List Str:=[c8a,"start","taken","most"]
theorem c2R:A3 [c8a,"start","taken","most",c8m,"left","told","way","step","ended",c7Q,"row"] b8O (l6 b7X):=by walk_at "sc"
include T P4 a1n M6 a2B a1d in
theorem c4n(F:Fun K "run" "run" b7X f fd):K0 P w K mg base CX0 4 f fd b8O (a4g K c):=fk F c2R fun _ _ _ _ _ _ hr nd=>c5 (v9 4 nd (F7 a1D rfl T.b2a a0u (o9 (c7 1)))) (c5 (v9 5 nd (b0y (c7 2) rfl rfl T.Z7 rfl T.b5c w6 PyProof.Rows.boot_reversed)) (c5 (v9 6 nd (G9 X0)) (c5 (v9 7 nd (G9 X0)) (c5 (v9 8 nd (M4 T.a1L rfl)) (c5 (v9 9 nd X3) (c5 (a5r PassesOwn.never (T1 (a1V (C5 Y0 (l9 u5 rfl T.N5 o4 (o9 (c7 7))) (c7 3)) (a0Q (T3 (N3 (c7 9)))))) (c5 (N6 (a1C D0 O7 O6 Y6 (c7 7) (o9 (c7 8)))) (c5 (v9 10 nd (b2h P4 hr (by decide) (c7 0) (o9 (c7 8)))) (c5 (v9 11 nd (t5 (P8 (c7 0)) (c7 10))) (c5 (z5 (C5 b2k (p9 a1n hr (o9 (c7 11))) b2g) (c8 (V2 hr (c7 4) (p9 a1n hr (o9 (c7 11))) (p9 a2B hr (a2T (c7 11) (c7 4) (c7 5))))) (c8 (z5 (C5 (A4 hr) (t5 (c7 11) b9) v8) (c8 (N6 (a1C D0 O7 O6 Y6 (c7 6) (o9 (p9 M6 hr (A6 (t5 (c7 11) b9) (c7 4))))))) o8))) (c5 (v9 9 nd (a3X (A4 hr) (l9 u5 rfl T.N5 o4 (o9 (t5 (P8 (c7 0)) (c7 10)))) b9)) (c8 (v9 8 nd (p9 a1d hr (a2T (c7 10) (c7 11) (c7 4))))))))))) (c8 (o5 (J5 (a5V (c7 6) (c7 7) (c7 4) (c7 9)))))))))))
variable(b0o:D2 P w K mg base 4 "run" b8O (a4g K c))
abbrev b1g:List Str:=[c7x,"_law_other"]
theorem b7W:A3 [c7x,"_law_other"] b1g (l6 b0Y):=by walk_at "sc"
include T in
theorem b8V(F:Fun K c8q c8q b0Y f fd):K0 P w K mg base CX0 1 f fd b1g (a4h K):=fk F b7W fun _ _ _ _ _ _ hr nd=>c5 (z5 (T1 (a0f (T3 (N3 (l9 L4 rfl T.J4 v6 (A6 (c7 0) (Q8 rfl T.a8k a0e rfl))))) (a0f (T3 (N3 (l9 L4 rfl T.J4 v6 (A6 (c7 1) (Q8 rfl T.a8k a0e rfl))))) (a0f (C5 (a3Y hr) (l9 u5 rfl T.N5 o4 (o9 (c7 0))) b9) (Z9 (C5 (a3Y hr) (l9 u5 rfl T.N5 o4 (o9 (c7 1))) b9)))))) (c8 (o5 X3)) o8) (c8 (o5 (O4 (V3 (b5O hr) (c7 0) (c7 1) (a4s _)) (R5 (l9 L4 rfl T.J4 v6 (A6 (t5 (c7 1) b9) (Q8 rfl T.b9X a9v rfl)))))))
variable(a6A:D2 P w K mg base 1 c8q b1g (a4h K))
abbrev c2A:List Str:=[c7k]
theorem b7V:A3 [c7k,c7m,c7G,c7s,"_law_plan_here",c8j,"_law_found","_law_again",c7q,c8k,"_law_taken","_law_most","_law_told"] c2A (l6 b2I):=by walk_at "sc"
theorem b9x:N9 [c7k,c7m,c7G,c7s,"_law_plan_here",c8j,"_law_found","_law_again",c7q,c8k,"_law_taken","_law_most","_law_told"] (l6 b2I) (scF [ (".0",.local),("_law_j",.local),(c8i,.globalImplicit),(c7m,.free)]) "_law_j" := by walk_at "c0"
include T b5C D5 b1M b1N a3z a1o a1I a8f b0o a6A in
theorem c4q(ck:a3D K c)(F:Fun K "law" "law" b2I f fd):K0 P w K mg base CX0 9 f fd c2A (a8C K):=by
 refine b2n F b7V (fun vs H Q E h=>h.1) (fun cdv A outer s H vs Q E hr h=>⟨b7N K c,?_,h.2 c ck⟩)
 have nd:=b7V.nd
 exact c5 (v9 1 nd (p9 b5C hr (o9 (c7 0)))) (c5 (a5U (p9 b1M hr (o9 (c7 1))) (a3W rfl (U2 (N7 2 nd) (U2 (N7 3 nd) a2S)))) (c5 (v9 4 nd (p9 b1N hr (A6 (c7 2) (c7 3)))) (c5 (v9 5 nd (p9 a3z hr (o9 (c7 2)))) (c5 (v9 6 nd (p9 a1o hr (o9 (c7 4)))) (c5 (v9 7 nd (p9 a1o hr (o9 (c7 6)))) (c5 (K5 PassesOwn.never rfl (J8 rfl T.X7 (o9 b9)) (N7 8 nd) (c5 (v9 9 nd (p9 a8f hr (A6 (c7 1) (c7 5)))) (c5 (Y5 (n:=10) nd rfl rfl b9x rfl (J8 rfl T.X7 (o9 (p9 D5 hr (A6 (c7 1) b9)))) (fun _ _ _ _ _=>F2) (fun _ _ _ _ _=>p9 a1I hr (o9 (c7 2)))) (c5 (v9 11 nd (p9 D5 hr (A6 (c7 1) b9))) (c5 (v9 12 nd (p9 b0o hr (a5V (c7 4) (F7 a1D rfl T.b2a a0u (o9 (c7 9))) (F7 Q1 rfl T.Z7 w6 (o9 (c7 10))) (c7 11)))) (c5 (z5 (T3 (N3 (p9 a6A hr (A6 (c7 12) (p9 b0o hr (a5V (c7 6) (F7 a1D rfl T.b2a a0u (o9 (c7 9))) (F7 Q1 rfl T.Z7 w6 (o9 (c7 10))) (c7 11))))))) (c8 (o5 X3)) o8) (c8 (z5 (T3 (N3 (p9 a6A hr (A6 (c7 12) (p9 b0o hr (a5V (c7 7) (F7 a1D rfl T.b2a a0u (o9 (c7 9))) (F7 Q1 rfl T.Z7 w6 (o9 (c7 10))) (c7 11))))))) (c8 (o5 X3)) o8)))))))) (c8 (o5 (O4 (V3 (a9T hr) (P8 (c7 4)) (c7 2) (a4s _)) (R5 (V3 (a9T hr) (P8 (c7 4)) (c7 3) (a4s _))))))))))))
end
end
structure ClF(K:Fg)(y:Str)(C:Addr):Prop where
 y:A5 K u9 y=some (some (.ref C))
 pg:a1p K C Str.empty=true
 hd:a2N K C=true
 po:a7v K C=true
 sa:D7 K (.ref C) "__setattr__" = some (some (.builtin "object.__setattr__"))
 mm:a3P K C=true
 kc:R6 K (.ref C)=true
abbrev pm0:Value:=(.str "law_oncedone_k85_whole_forwarded_runs_alike" 664)
abbrev pm1:Value:=(.str "oncedone.checks" 401)
abbrev pm2:Value:=(.str "oncedone.words" 194)
abbrev pm3:Value:=(.str "oncedone.plans" 431)
abbrev pm4:Value:=(.str "oncedone.copies" 588)
abbrev pm5:Value:=(.str "oncedone.deeds" 253)
abbrev pm6:Value:=(.str "oncedone.ready" 561)
abbrev pm7:Value:=(.str "oncedone.runs" 626)
theorem c4Y{l:PySem.W.OpenLaw}{w:World}{K:Fg}{h:Heap}{mg:Str->Option Value}{fa:Addr}(X:K.In h)(G:h.Ns u9 mg)(hfa:mg "law" = some (.ref fa))
  (y_Plan:ClF K "Plan" 290)
  (a0n:D7 K (.ref 290) "entries" = some none)
  (O2:D7 K (.ref 290) c7T = some none)
  (K9:D7 K (.ref 290) c7S = some none)
  (y_DEED_KINDS:A5 K u9 "DEED_KINDS" = some (some (.ref 22))) (l_DEED_KINDS:K.lookup 22=some ⟨.type "tuple",none,.seq (([(.str "plus" 204),(.str "minus" 205),(.str "times" 206),(.str "less" 207),(.str "same" 208)]:List Value).toArray) 0,#[]⟩)
  (y_FIRST_STEP:A5 K u9 "FIRST_STEP" = some (some (.ref 194))) (l_FIRST_STEP:K.lookup 194=some ⟨.type "tuple",none,.seq (([(.int (-1) 434),(.int (0) 435)]:List Value).toArray) 0,#[]⟩)
  (x0:FnG K c7l b5n 363 pm0 (.ref 362))
  (x1:FnG K c7o b4h 370 pm0 (.ref 369))
  (x2:FnG K c7r b0T 387 pm0 (.ref 386))
  (x3:FnG K c7t b8b 377 pm0 (.ref 376))
  (x4:FnG K c7z a2Z 382 pm0 (.ref 381))
  (x5:FnG K c7B a6X 394 pm0 (.ref 393))
  (x6:FnG K c7D b4j 401 pm0 (.ref 400))
  (x7:FnG K c7F b7Y 408 pm0 (.ref 407))
  (x8:FnG K c7H a8J 413 pm0 (.ref 412))
  (x9:FnG K c7I a2j 186 pm1 (.ref 185))
  (x10:FnG K "is_name" a4H 41 pm2 (.ref 40))
  (x11:FnG K c7K a5x 29 pm2 (.ref 28))
  (x12:FnG K c7L a5y 36 pm2 (.ref 35))
  (x13:FnG K c7M a3n 48 pm2 (.ref 47))
  (x14:FnG K "is_deed" a6Y 55 pm2 (.ref 54))
  (x15:FnG K "is_row" a8K 62 pm2 (.ref 61))
  (x16:FnG K c7N a3p 193 pm1 (.ref 192))
  (x17:FnG K c7O a5z 179 pm1 (.ref 178))
  (x18:FnG K c7R a2y 199 pm3 (.ref 198))
  (x19:FnG K c7U a1b 204 pm3 (.ref 203))
  (x20:FnG K "reached" a6V 221 pm3 (.ref 220))
  (x21:FnG K "turned" a6i 214 pm3 (.ref 213))
  (x22:FnG K c7V a3l 209 pm3 (.ref 208))
  (x23:FnG K c7W a3o 228 pm3 (.ref 227))
  (x24:FnG K c7X a3m 233 pm3 (.ref 232))
  (x25:FnM K 290 "leads_to" "Plan.leads_to" a1t 259 pm3 (.ref 258))
  (x26:FnM K 290 c7j "Plan.__init__" a0s 245 pm3 (.ref 244))
  (x27:FnG K c7Y b0U 418 pm0 (.ref 417))
  (x28:FnG K c7Z a5w 425 pm0 (.ref 424))
  (x29:FnG K c8b a4k 315 pm4 (.ref 314))
  (x30:FnG K "set_by" a8I 83 pm5 (.ref 82))
  (x31:FnG K "pass_on" a6W 301 pm6 (.ref 300))
  (x32:FnG K c8c a1r 308 pm6 (.ref 307))
  (x33:FnG K c8e V7 320 pm4 (.ref 319))
  (x34:FnG K c8f Z0 325 pm4 (.ref 324))
  (x35:FnG K c8g a1s 332 pm4 (.ref 331))
  (x36:FnG K c8h a2x 337 pm4 (.ref 336))
  (x37:FnG K c8i b0R 432 pm0 (.ref 431))
  (x38:FnG K c8l b0S 439 pm0 (.ref 438))
  (x39:FnG K c8n a5v 69 pm5 (.ref 68))
  (x40:FnG K "worth" b0P 76 pm5 (.ref 75))
  (x41:FnG K c8o a4i 344 pm7 (.ref 343))
  (x42:FnG K c8p a2H 351 pm7 (.ref 350))
  (x43:FnG K "run" b7X 358 pm7 (.ref 357))
  (x44:FnG K c8q b0Y 446 pm0 (.ref 445))
  (x45:FnG K "law" b2I 451 pm0 (.ref 450))
  (z_abs:A5 K u9 "abs" = some none)
  (z_all:A5 K u9 "all" = some none)
  (z_any:A5 K u9 "any" = some none)
  (z_bool:A5 K u9 "bool" = some none)
  (z_dict:A5 K u9 "dict" = some none)
  (z_enumerate:A5 K u9 "enumerate" = some none)
  (z_int:A5 K u9 "int" = some none)
  (z_isinstance:A5 K u9 "isinstance" = some none)
  (z_len:A5 K u9 "len" = some none)
  (z_list:A5 K u9 "list" = some none)
  (z_min:A5 K u9 "min" = some none)
  (z_range:A5 K u9 "range" = some none)
  (z_reversed:A5 K u9 "reversed" = some none)
  (z_sorted:A5 K u9 "sorted" = some none)
  (z_str:A5 K u9 "str" = some none)
  (z_tuple:A5 K u9 "tuple" = some none)
  (z_zip:A5 K u9 "zip" = some none)
  (y_BOUND:A5 K u9 "BOUND" = some (some (.int (1000000000000) 196)))
  (y_FIGURES:A5 K u9 "FIGURES" = some (some (.str "0123456789" 200)))
  (y_LETTERS:A5 K u9 "LETTERS" = some (some (.str "abcdefghijklmnopqrstuvwxyz" 198)))
  (y_LONGEST_NAME:A5 K u9 "LONGEST_NAME" = some (some (.int (8) 202)))
  (y_MOST:A5 K u9 "MOST" = some (some (.int (400) 403)))
  : ∃fd:X9,(∀(s:l5) (v:Value),b7n s fd ⟨[v],[]⟩ [(c7k,v)])/\∀base:Heap,K.In base->base.Ns u9 mg->K0 l.prog w K mg base CX0 9 fa fd [c7k] (a8C K):=by
 have e:=hfa.symm.trans (R1 X G x45.a)
 cases e
 let c:Cn:=⟨290,22,194⟩
 have ck:a3D K c:=⟨⟨y_Plan.pg,y_Plan.hd,y_Plan.po,y_Plan.sa⟩,a0n,O2,K9,fun H=>.inr ⟨_,([(.str "plus" 204),(.str "minus" 205),(.str "times" 206),(.str "less" 207),(.str "same" 208)]:List Value).toArray,0,l_DEED_KINDS,rfl,rfl,by decide,.cons ⟨_,rfl⟩ ( .cons ⟨_,rfl⟩ ( .cons ⟨_,rfl⟩ ( .cons ⟨_,rfl⟩ ( .cons ⟨_,rfl⟩ ( .nil)))))⟩,fun H=>.inr ⟨_,([(.int (-1) 434),(.int (0) 435)]:List Value).toArray,0,l_FIRST_STEP,rfl,rfl,by decide,.cons ⟨_,rfl⟩ ( .cons ⟨_,rfl⟩ ( .nil))⟩⟩
 have T:Txt K mg c:=⟨A7 X G z_abs,A7 X G z_all,A7 X G z_any,A7 X G z_bool,A7 X G z_dict,A7 X G z_enumerate,A7 X G z_int,A7 X G z_isinstance,A7 X G z_len,A7 X G z_list,A7 X G z_min,A7 X G z_range,A7 X G z_reversed,A7 X G z_sorted,A7 X G z_str,A7 X G z_tuple,A7 X G z_zip,⟨_,R1 X G y_BOUND,⟨_,rfl⟩⟩,⟨_,R1 X G y_DEED_KINDS,rfl⟩,⟨_,R1 X G y_FIGURES,⟨_,rfl⟩⟩,⟨_,R1 X G y_FIRST_STEP,rfl⟩,⟨_,R1 X G y_LETTERS,⟨_,rfl⟩⟩,⟨_,R1 X G y_LONGEST_NAME,⟨_,rfl⟩⟩,⟨_,R1 X G y_MOST,⟨_,rfl⟩⟩⟩
 refine⟨fdM "law" "law" b2I pm0 (.ref 450),fun s v=>.of_eq rfl,fun base _ _=>?_⟩
 have b5C:=mkC X G x0 (c4r (P:=l.prog) (w:=w) (base:=base) T x0.i.F) fun _ _ _ _ _ _ _=>rfl
 have D5:=mkC X G x1 (c1r (P:=l.prog) (w:=w) (base:=base) T x1.i.F) fun _ _ _ _ _ _ _ _=>rfl
 have b1L:=mkC X G x2 (c1s T D5 x2.i.F) fun _ _ _ _ _ _ _=>rfl
 have b5B:=mkC X G x3 (c4p T D5 x3.i.F) fun _ _ _ _ _ _ _ _=>rfl
 have a6y:=mkC X G x4 (b6r (P:=l.prog) (w:=w) (base:=base) T x4.i.F) fun _ _ _ _ _ _ _=>rfl
 have X2:=mkC X G x5 (b4C T D5 x5.i.F) fun _ _ _ _ _ _ _ _=>rfl
 have b1O:=mkC X G x6 (c1v T D5 X2 x6.i.F) fun _ _ _ _ _ _ _ _=>rfl
 have b5A:=mkC X G x7 (c4o T D5 X2 x7.i.F) fun _ _ _ _ _ _ _ _ _ _=>rfl
 have b1M:=mkC X G x8 (c1t T D5 b1L b5B a6y b1O b5A x8.i.F) fun _ _ _ _ _ _ _=>rfl
 have a0I:=mkC X G x9 (a7Q (P:=l.prog) (w:=w) (base:=base) T x9.i.F) fun _ _ _ _ _ _ _ _ _=>rfl
 have Z4:=mkC X G x10 (b4D (P:=l.prog) (w:=w) (base:=base) T x10.i.F) fun _ _ _ _ _ _ _=>rfl
 have a0o:=mkC X G x11 (b2R (P:=l.prog) (w:=w) (base:=base) T x11.i.F) fun _ _ _ _ _ _ _=>rfl
 have a3A:=mkC X G x12 (b2S T a0o x12.i.F) fun _ _ _ _ _ _ _=>rfl
 have Q4:=mkC X G x13 (a9F T Z4 a3A x13.i.F) fun _ _ _ _ _ _ _=>rfl
 have a4M:=mkC X G x14 (b4E T Q4 x14.i.F) fun _ _ _ _ _ _ _=>rfl
 have a6z:=mkC X G x15 (b6s T Z4 Q4 a4M x15.i.F) fun _ _ _ _ _ _ _=>rfl
 have W6:=mkC X G x16 (a9H (P:=l.prog) (w:=w) (base:=base) T x16.i.F) fun _ _ _ _ _ _ _=>rfl
 have a3B:=mkC X G x17 (b2T T a0o x17.i.F) fun _ _ _ _ _ _ _ _=>rfl
 have a2D:=mkC X G x18 (b1m T a3B x18.i.F) fun _ _ _ _ _ _ _ _ _=>rfl
 have a1e:=mkC X G x19 (a8W T W6 a2D x19.i.F) fun _ _ _ _ _ _ _ _=>rfl
 have a3c:=mkC X G x20 (b4A (P:=l.prog) (w:=w) (base:=base) T x20.i.F) fun _ _ _ _ _ _ _ _=>rfl
 have a6x:=mkC X G x21 (b6p (P:=l.prog) (w:=w) (base:=base) T x21.i.F) fun _ _ _ _ _ _ _=>rfl
 have a3x:=mkC X G x22 (b2O (P:=l.prog) (w:=w) (base:=base) T x22.i.F) fun _ _ _ _ _ _ _=>rfl
 have a1J:=mkC X G x23 (a9G T a3c a6x a3x x23.i.F) fun _ _ _ _ _ _ _=>rfl
 have a3y:=mkC X G x24 (b2P (P:=l.prog) (w:=w) (base:=base) T x24.i.F) fun _ _ _ _ _ _ _=>rfl
 have P4:=mkM x25 ck.L7 (a7i (P:=l.prog) (w:=w) (base:=base) T x25.i.F) fun _ _ _ _ _ _ _ _=>rfl
 have a5J:=mkK X G x26 y_Plan.y y_Plan.mm y_Plan.kc (b1n T a0I a6z W6 a1e a1J a3y P4 x26.i.F) fun _ _ _ _ _ _ _ _ _=>rfl
 have b1N:=mkC X G x27 (c1u T a5J x27.i.F) fun _ _ _ _ _ _ _ _=>rfl
 have a3z:=mkC X G x28 (b2Q (P:=l.prog) (w:=w) (base:=base) T x28.i.F) fun _ _ _ _ _ _ _=>rfl
 have a2C:=mkC X G x29 (b1l (P:=l.prog) (w:=w) (base:=base) T x29.i.F) fun _ _ _ _ _ _ _=>rfl
 have a1n:=mkC X G x30 (b6q (P:=l.prog) (w:=w) (base:=base) T x30.i.F) fun _ _ _ _ _ _ _=>rfl
 have a3d:=mkC X G x31 (b4B (P:=l.prog) (w:=w) (base:=base) T x31.i.F) fun _ _ _ _ _ _ _ _ _ _=>rfl
 have a0i:=mkC X G x32 (a7g T a3d x32.i.F) fun _ _ _ _ _ _ _ _ _=>rfl
 have Z2:=mkC X G x33 (a6p T a1n a0i x33.i.F) fun _ _ _ _ _ _ _ _=>rfl
 have Z3:=mkC X G x34 (a6q T a2C Z2 x34.i.F) fun _ _ _ _ _ _ _=>rfl
 have a0j:=mkC X G x35 (a7h (P:=l.prog) (w:=w) (base:=base) T x35.i.F) fun _ _ _ _ _ _ _ _=>rfl
 have a1o:=mkC X G x36 (b1k T a5J Z3 a0j x36.i.F) fun _ _ _ _ _ _ _=>rfl
 have a1I:=mkC X G x37 (b8T T D5 x37.i.F) fun _ _ _ _ _ _ _=>rfl
 have a8f:=mkC X G x38 (b8U T D5 a1I x38.i.F) fun _ _ _ _ _ _ _ _=>rfl
 have M6:=mkC X G x39 (b2N (P:=l.prog) (w:=w) (base:=base) T x39.i.F) fun _ _ _ _ _ _ _ _=>rfl
 have a8e:=mkC X G x40 (b8S T M6 x40.i.F) fun _ _ _ _ _ _ _ _=>rfl
 have a2B:=mkC X G x41 (b1j T M6 a8e x41.i.F) fun _ _ _ _ _ _ _ _ _=>rfl
 have a1d:=mkC X G x42 (a8V T M6 x42.i.F) fun _ _ _ _ _ _ _ _ _=>rfl
 have b0o:=mkC X G x43 (c4n T P4 a1n M6 a2B a1d x43.i.F) fun _ _ _ _ _ _ _ _ _ _=>rfl
 have a6A:=mkC X G x44 (b8V (P:=l.prog) (w:=w) (base:=base) T x44.i.F) fun _ _ _ _ _ _ _ _=>rfl
 exact c4q T b5C D5 b1M b1N a3z a1o a1I a8f b0o a6A ck x45.i.F
theorem walk{l:PySem.W.OpenLaw}{q:C2}{loose:List Str}{XP:(Str->Option Value)->Heap->Prop}{YP:World->Heap->Prop}{d:DefRec}{K:Params->Fg}(hn:l.most=some 63)(hdf:d.params.defaults=[])
  (hY:∀(w:World) (h:Heap),YP w h->(K w.params).In h)
  (F:∀(w:World) (mg:Str->Option Value) (fa:Addr) (h:Heap),(K w.params).In h->h.Ns u9 mg->mg d.name=some (.ref fa) ->
   ∃fd:X9,(∀(s:l5) (u:Value),b7n s fd ⟨[u],[]⟩ [(c7k,u)])/\∀base:Heap,(K w.params).In base->base.Ns u9 mg->K0 l.prog w (K w.params) mg base CX0 9 fa fd [c7k] (a8C (K w.params))) :
  PySem.W.WalkO q loose XP YP l.row.toRowW d [] (fun f vs=>b1U f vs):=
 L2.c0h (n:=63) (k:=9) (x := c7k) (CX:=fun _=>CX0) (sp:=fun w=>a8C (K w.params)) hn (by decide) hdf ⟨rfl,by decide,by decide⟩ hY F (fun _ _ a ns hl hO hS=>RD.law_reading _ hl hO hS) fun _ _ _ _ _ z=>z
end PR
open PySem PySem.W PyProof.Rows
set_option maxRecDepth 100000 in
set_option maxHeartbeats 0 in
theorem PySem.Challenge.cw_oncedone_k85_whole_forwarded_runs_alike_holds : PySem.Challenge.rw_oncedone_k85_whole_forwarded_runs_alike.Holds := by
 refine HD.fin fun d hd hdf=>PR.walk (l:=HD.row) (K:=HD.K) rfl hdf (fun w h Y=>PySem.W.kIn_of Y) ?F
 intro w mg fa h KX G hmg
 rw[hd]at hmg
 apply PR.c4Y KX G hmg <;> first | kernel_rfl | exact⟨⟨by kernel_rfl,by kernel_rfl,by kernel_rfl⟩,by kernel_rfl⟩ | exact⟨⟨by kernel_rfl,by kernel_rfl,by kernel_rfl⟩,by kernel_rfl,by kernel_rfl⟩ | exact⟨by kernel_rfl,by kernel_rfl,by kernel_rfl,by kernel_rfl,by kernel_rfl,by kernel_rfl,by kernel_rfl⟩
