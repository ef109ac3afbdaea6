import PyProof.Rows.All
import KE.KEqDict
import KE.KDictList
import KE.KIsAll
import KE.KDictOf
import KE.KItem
import KE.KIntText
import KE.KDictSum
import Lean
import PySem.Challenge.RW_oncedone_k61_shelves
open Array renaming getElem?_eq_getElem->u7,length_toList->z9,getElem?_toList->C2,getElem?_eq_none->X6,getD_eq_getD_getElem?->a2h,toList_push->c0H
open Bool renaming false_ne_true->j5,eq_iff_iff->Q9,and_eq_true->T4,false_eq_true->U1,and_true->b3K,and_eq_true_iff->b7V,eq_false_iff->c2O,true_and->c7d,or_false->c7e
open Int renaming toNat_natCast->i9,eq_ofNat_of_zero_le->L4,emod_lt_of_pos->U6,emod_nonneg->V6,zero_add->X9,toNat->b5Z
open List renaming length_map->a9,getElem?_map->b7,mem_singleton->c7,getElem?_eq_getElem->c8,mem_cons->d8,size_toArray->g7,mem_append->h9,length_append->j3,getElem?_eq_some_iff->j6,not_mem_nil->j7,mem_append_right->o7,mem_map->q9,map_append->t9,length_cons->y8,getElem_mem->y9,range->z5,replicate->z8,mem_iff_getElem?->C3,length_take->C9,mem_cons_of_mem->D0,mem_cons_self->D4,length_replicate->E1,lookup_cons->E3,all_eq_true->E4,mem_append_left->E8,take_length->F5,map_cons->F6,take_add_one->G5,length_range->G6,getElem?_set_self->I0,getElem?_set_ne->K7,getElem?_replicate->K8,getElem?_append_right->M4,getD->M9,getElem?_append_left->O2,length_singleton->O3,mem_of_getElem?->P4,nodup_cons->Q8,map_map->S9,any_eq_true->T1,map_inj_right->T9,getD_eq_getElem?_getD->U0,mem_range->a0d,getElem?_range->a0v,any_cons->a0x,range_succ->a0J,length_set->a0K,find?_cons->a0L,take_of_length_le->a1g,nodup_append->a1h,getElem?_eq_none->a1x,lookup->a1H,nodup_nil->a2K,length_erase_of_mem->a3M,length_eq_zero_iff->a3R,getElem?_cons_zero->a3S,length_pos_of_mem->a4M,of_mem_zip->a4S,mem_filter->a4T,length_nil->a4U,length_filter_le->a5h,replicate_succ'->a5O,map_congr_left->a6D,filterMap_cons->a6E,filter_append->a7v,length_tail->a9v,length_drop->a9w,append_nil->b0z,idxOf_lt_length_iff->b3H,getElem?_take_of_lt->b3I,all_cons->b3J,map_nil->b5X,any_map->b5Y,mem_iff_getElem->b7Q,mem_erase_of_ne->b7R,map_id->b7S,length_eraseIdx->b7T,length->b7U,length_pos_iff->c0z,pairwise_cons->c0E,mem_filterMap->c0F,getElem?_tail->c0G,foldl_append->c2M,ext_getElem?->c2N,length_zip->c5K,idxOf_cons->c5L,forIn_cons->c5M,all_nil->c7n
open List.Pairwise renaming nil->b1T
open List.Perm renaming refl->a0M,cons->c0A
open Nat renaming le_refl->d3,ne_of_lt->j8,lt_of_lt_of_le->w4,le_trans->A1,zero_le->E9,lt_irrefl->F7,le_succ->W4,not_lt_zero->a0P,le_of_lt->a1q,lt_succ_of_lt->a3L,lt_succ_self->a4u,le_add_right->a4v,ne_of_gt->a9q,min_self->a9r,lt_trans->b7I,lt_of_succ_lt_succ->b7J,le_of_eq->b7K
open Option renaming map_eq_some_iff->j4,isSome_iff_exists->V5,map_some->a1G,getD_some->a3K,isSome_map->a7u,getD_none->c0D
open PyProof.Rows renaming boot_isinstance->p9,boot_list->w6,callWith_type1->P3,boot_str->R0,boot_sorted->T8,sortedS->X8,slot_tuple_getitem->a0w,callWith_builtin1->a5N,boot_tuple->a9p,boot_dict->a9u,boot_all->a9R,risingS->b0y,AllBare->b0E,envOfC->b1U,subscriptTail->c3t,IntsAre->c3v,subscriptTail_builtinR->c5Q
open PyProof.Rows.F renaming plain_set_update_loop->Y2,entry_set_update_loop->a3J
open PySem renaming wpAny_bind->a8,wpAny_pure->b6,Shared->d4,starEach->d9,sizeLine->i8,boot_len->l7,mainGlobals->o8,compareOp->o9,Program->u4,wpAny_newObj_type->v0,mem_of_lookup->y7,wpAny_callSpecial?_slot->D6,wpAny_call_entry->E7,Around->F2,wpAny_truthy_bool->J8,wpAny_holding->L5,foldedSetIterable->M5,behindInMarks->O4,bootBuiltins->R4,wpAny_mono->V2,wpAny_dictEntries->V3,sysModules->V4,backTo->W7,binaryOp->Y0,FuncData->Y1,codeAny_builtin->Y3,DictEntry->Y4,attributeBase->a0a,Builtin->a0b,wpAny_typeNameOfWhole_keyiter->a0e,wpAny_Call_Name_kw->a0p,wpAny_passesOwn->a0y,keywordEach->a0z,holding->a0A,assignEach->a0Q,lookup_relabel_local->a0S,pyNext->a1j,codeAny->a1r,wpAny_dictEpoch->a1I,swapsWith->a1J,plainId_quiet->a1K,importedModules->a1L,wpAny_pyIter_list->a2A,strIterType->a2B,wpAny_notOrdered_dict->a2L,codeAny_mono->a2M,builtinLookup_eq_fast->a2N,sizeLine_eq->a3e,sliceBounds->a3T,letOwnedTupleGo->a3U,tupleKind_room_in1->a4V,backToKw->a4W,NameKind->a4X,wpAny_comprehension_free->a5P,getMethod->a5Q,relabel->a6F,wpAny_typeOf->a7R,wpAny_execs_nil->a7S,standAt->a7T,Operator->a9t,assign->a9S,getItem->b0C,Keyword->b0D,call->b1L,Result->b1V,PassesOwn->b1W,wpAny_assign_Name->b3L,compEnvC->b7M,callWith->b7N,wpAny_field->b7W,valueAt->b7X,tupleKind->b7Y,subscripted->b7Z,callerA->b8a,BindsTo->b8b,typeLookup->c2Q,call_meets->c2R,PlainAttrs->c2S,IsPart->c2T,wpAny_standAt->c3s,setItem->c3u,intText?->c5J,wpAny_pyNext_list_item->c5P,codeAny_compStart_list->c5R,wpAny_pyNext_list_end->c5S,wpAny_isTrue_Compare1->c5T,wpAny_isOneOf_keyiter->c5U,stored->c5V,seqIndex_neg->c5W,lastMarks->c5X,wpAny_newFunctionEnv->c7l,wpAny_loadName_local->c7m,wpAny_loadName_cell->c7o,seqIndex_of->c7p
open PySem.F renaming plainAttrs_list->v9,type_list_append->F0,slot_list_append->F1,called_set->O1,type_list_extend->a3c,slot_list_extend->a3d,plain_extend_loop->b0x,slot_dict_values->b1M,slot_list_index->b1P,slot_dict_clear->b1Q,plain_list_iadd->b1R,plainAttrs_dict->b1S,slot_set_iter->b3E,slot_dict_len->b3F,plain_set_new->b3G
open PySem.Heap renaming get?_push_of_some->b8,lt_size->d6,get?_push_size->d7,get?_update_self->G0,size_push->X3,get?_update_other->a1i
open PySem.Heap.DictOf renaming new->b6a
open PySem.Heap.SameBut renaming update->z7
open PySem.W renaming nsIn->u9,mg_none_of->v6,findIn->C0,kia_one->J9,emptyDict->L6,mg_of->R1,keepIn->T0,instObj->U7,fnOf->a0c,plainGet->a1p,hasDictIn->a2J,makesIn->a3Q,lookIn->a4Q,codeIn->a4R,plainGet_of->a5M,callWith_K->a6A,specialIn->a7g,plainOver->a7h,methodObj->a7i,isFn->a7j,takerIn->a9o,cellsFrom_some->b3B,methodCall_KW->b3C,kitx_list->b7O,kitx_dict->b7P,kdl_call->c0x,handedIn->c0y,takesIn->c0C,kitOne->c2L,mroIn->c3q
open PySem.W.KT renaming len_num->b3D
set_option Elab.async false
set_option linter.all false
set_option maxRecDepth 100000
set_option maxHeartbeats 0
abbrev Fg:=PySem.W.Frag
abbrev Nt:=List (List Nat)
theorem gI{α:Type}{l:List α}{i:Nat}{a:α}(h:l[i]?=some a):i<l.length:=(j6.mp h).1
theorem mI{α:Type}{l:List α}{i:Nat}{a:α}(h:l[i]?=some a):a∈l:=P4 h
theorem c8T{p:Prop}[Decidable p](h:¬p):decide p=false:=decide_eq_false h
theorem c8U{p:Prop}[Decidable p](h:p):decide p=true:=decide_eq_true h
namespace L2
open PySem
def S8(s:Stmt)(j:Nat):Stmt:=match s with
 | .ClassDef _ _ _ body _ _ _ _ _ _ _=>body.getD j (.Pass ⟨0,0,0,0⟩)
 | _=>.Pass ⟨0,0,0,0⟩
def a2w(s:Stmt):Arguments:=match s with
 | .FunctionDef _ a _ _ _ _ _ _ _ _=>a
 | _=>{ posonlyargs:=[],args:=[],vararg:=none,kwonlyargs:=[],kw_defaults:=[],kwarg:=none,defaults:=[] }
def a0G(s:Stmt):List Stmt:=match s with
 | .FunctionDef _ _ b _ _ _ _ _ _ _=>b
 | _=>[]
def g8(s:Stmt):Scope:=match s with
 | .FunctionDef _ _ _ _ _ _ sc _ _ _=>sc
 | _=>{ kind:=.function,names:=[],isGenerator:=false,isCoroutine:=false }
end L2
namespace HD
open PySem PySem.W L2
abbrev P:u4:=PySem.Challenge.pw_oncedone_k61_shelves
def top(i:Nat):Stmt:=P.main.body.getD i (.Pass ⟨0,0,0,0⟩)
def kE(Q:Params)(n:Str)(t:Nat)(v:Value):Y4:=⟨PyData.keyHash Q n,.str n t,v⟩
def kD(es:List Y4)(n:Nat):Obj:=⟨.type "dict",none,.dict es.toArray n,#[]⟩
def kF(x qual:Str)(st:Stmt)(pm cd:Value):Obj:=⟨.type "function",none,.func (fnOf x qual (a2w st) (a0G st) (g8 st) .none .none .none pm none cd .none),#[]⟩
def kC(n q:Str)(a b c:Nat)(i3 i4 i5 i6 i7:Int)(r8:Nat)(i10:Int)(r11 r13 r14 r15:Nat)(i16 i17:Int)(d:Nat):Obj:=⟨.type "code",none,.fields ([.str n a,.str q b,.str "/claim/cut.py" c,.int i3 0,.int i4 0,.int i5 0,.int i6 0,.int i7 0,.ref r8,.bool true,.int i10 0,.ref r11,.none,.ref r13,.ref r14,.ref r15,.int i16 0,.int i17 0,.str "/claim/cut.py" d]:List Value).toArray,([]:List (Option Value)).toArray⟩
def kN(n q:Str)(a b c:Nat)(i3 i4 i5 i6 i7:Int)(r8:Nat)(i10:Int)(r11 r15:Nat)(i16 i17:Int)(d:Nat):Obj:=⟨.type "code",none,.fields ([.str n a,.str q b,.str "/claim/cut.py" c,.int i3 0,.int i4 0,.int i5 0,.int i6 0,.int i7 0,.ref r8,.bool true,.int i10 0,.ref r11,.none,.none,.none,.ref r15,.int i16 0,.int i17 0,.str "/claim/cut.py" d]:List Value).toArray,([]:List (Option Value)).toArray⟩
abbrev m0:Value:=(.str "__main__" 164)
abbrev m1:Value:=(.str "oncedone.shelves" 194)
abbrev m2:Value:=(.str "oncedone.errors" 202)
abbrev m3:Value:=(.str "oncedone.words" 322)
abbrev m4:Value:=(.str "oncedone.checks" 381)
abbrev m5:Value:=(.str "oncedone.deeds" 411)
abbrev m6:Value:=(.str "oncedone.plans" 444)
abbrev m7:Value:=(.str "law_oncedone_k61_shelves" 579)
def K1(Q:Params):Frag:=[
 (3,kD [kE Q "__name__" 165 (.str "law_oncedone_k61_shelves" 579),kE Q "__doc__" 166 .none,kE Q "__package__" 167 .none,kE Q "__loader__" 168 (.builtin "__main__.__loader__#opaque"),kE Q "__spec__" 169 .none,kE Q "__annotations__" 170 (.ref 6),kE Q "__builtins__" 171 (.ref 4),kE Q "__file__" 173 (.str "/claim/cut.py" 172),kE Q "__cached__" 174 .none,kE Q "_wall" 193 (.ref 21),kE Q "shelves_for" 201 (.ref 26),kE Q "OnceError" 221 (.ref 36),kE Q "Wrong" 246 (.ref 56),kE Q "NoThing" 271 (.ref 75),kE Q "TooMany" 296 (.ref 94),kE Q "NoWay" 321 (.ref 113),kE Q "BOUND" 325 (.int (1000000000000) 324),kE Q "LETTERS" 327 (.str "abcdefghijklmnopqrstuvwxyz" 326),kE Q "FIGURES" 329 (.str "0123456789" 328),kE Q "LONGEST_NAME" 331 (.int (8) 330),kE Q "DEED_KINDS" 337 (.ref 116),kE Q "is_whole" 344 (.ref 123),kE Q "is_value" 351 (.ref 130),kE Q "is_name" 357 (.ref 135),kE Q "is_operand" 364 (.ref 142),kE Q "is_deed" 371 (.ref 149),kE Q "is_row" 380 (.ref 156),kE Q "MOST" 384 (.int (400) 383),kE Q "is_below" 392 (.ref 163),kE Q "check_length" 401 (.ref 170),kE Q "check_each" 410 (.ref 177),kE Q "deed_of" 419 (.ref 184),kE Q "set_by" 426 (.ref 191),kE Q "operands_of" 434 (.ref 198),kE Q "reads_of" 443 (.ref 205),kE Q "FIRST_STEP" 449 (.ref 206),kE Q "are_nexts" 455 (.ref 211),kE Q "check_nexts" 461 (.ref 216),kE Q "stops_of" 467 (.ref 221),kE Q "turned" 473 (.ref 226),kE Q "reached" 484 (.ref 233),kE Q "check_ways" 494 (.ref 240),kE Q "steps_of" 500 (.ref 245),kE Q "Plan" 578 (.ref 302),kE Q "_law_bag" 586 (.ref 311),kE Q "_law_take" 599 (.ref 318),kE Q "_law_net" 612 (.ref 325),kE Q "_law_mended" 618 (.ref 330),kE Q "_law_pool" 624 (.ref 335),kE Q "_law_operand" 633 (.ref 342),kE Q "_law_deed" 642 (.ref 349),kE Q "_law_row" 654 (.ref 356),kE Q "_law_plan" 660 (.ref 361),kE Q "_law_made" 666 (.ref 366),kE Q "_law_names_of" 677 (.ref 373),kE Q "_law_deeds_of" 686 (.ref 380),kE Q "_law_steps_of" 696 (.ref 387),kE Q "_law_to" 704 (.ref 394),kE Q "_law_due" 716 (.ref 401),kE Q "_law_some" 722 (.ref 406),kE Q "_law_good" 728 (.ref 411),kE Q "_law_broad" 734 (.ref 416),kE Q "law" 750 (.ref 423)] 63),
 (20,kC "_wall" "_wall" 187 188 189 1 1 0 0 3 15 181 16 17 18 19 191 1 192),
 (21,kF "_wall" "_wall" (top 0) m0 (.ref 20)),
 (25,kN "shelves_for" "shelves_for" 196 197 198 5 2 0 0 3 22 181 23 24 199 5 200),
 (26,kF "shelves_for" "shelves_for" (top 2) m1 (.ref 25)),
 (35,kD [kE Q "__module__" 211 (.str "oncedone.errors" 202),kE Q "__firstlineno__" 215 (.int (16) 214),kE Q "__static_attributes__" 216 (.ref 34),kE Q "__weakref__" 218 (.ref 37),kE Q "__doc__" 219 .none] 3),
 (36,⟨(.type "type"),none,.cls { name := "OnceError",bases:=[(.type "ValueError")],mro:=[(.ref 36),(.type "ValueError"),(.type "Exception"),(.type "BaseException"),(.type "object")],ns:=35,qualname := "OnceError",hasDict:=true,subclasses:=[(.ref 56),(.ref 75),(.ref 94),(.ref 113)] },([some (.ref 27),none,some (.str "OnceError" 204),some (.str "OnceError" 212),some (.builtin "ValueError.__new__"),some (.bool true)]:List (Option Value)).toArray⟩),
 (52,kC "__init__" "Wrong.__init__" 234 235 236 20 2 0 0 3 47 181 48 49 50 51 239 20 240),
 (53,kF "__init__" "Wrong.__init__" (S8 (top 5) 0) m2 (.ref 52)),
 (55,kD [kE Q "__module__" 229 (.str "oncedone.errors" 202),kE Q "__firstlineno__" 233 (.int (18) 232),kE Q "__init__" 241 (.ref 53),kE Q "__static_attributes__" 243 (.ref 54),kE Q "__doc__" 244 .none] 2),
 (56,⟨(.type "type"),none,.cls { name := "Wrong",bases:=[(.ref 36)],mro:=[(.ref 56),(.ref 36),(.type "ValueError"),(.type "Exception"),(.type "BaseException"),(.type "object")],ns:=55,qualname := "Wrong",hasDict:=true,subclasses:=[] },([some (.ref 40),none,some (.str "Wrong" 222),some (.str "Wrong" 230),some (.builtin "ValueError.__new__"),some (.bool true)]:List (Option Value)).toArray⟩),
 (71,kC "__init__" "NoThing.__init__" 259 260 261 24 2 0 0 3 66 181 67 68 69 70 264 24 265),
 (72,kF "__init__" "NoThing.__init__" (S8 (top 6) 0) m2 (.ref 71)),
 (74,kD [kE Q "__module__" 254 (.str "oncedone.errors" 202),kE Q "__firstlineno__" 258 (.int (22) 257),kE Q "__init__" 266 (.ref 72),kE Q "__static_attributes__" 268 (.ref 73),kE Q "__doc__" 269 .none] 2),
 (75,⟨(.type "type"),none,.cls { name := "NoThing",bases:=[(.ref 36)],mro:=[(.ref 75),(.ref 36),(.type "ValueError"),(.type "Exception"),(.type "BaseException"),(.type "object")],ns:=74,qualname := "NoThing",hasDict:=true,subclasses:=[] },([some (.ref 59),none,some (.str "NoThing" 247),some (.str "NoThing" 255),some (.builtin "ValueError.__new__"),some (.bool true)]:List (Option Value)).toArray⟩),
 (90,kC "__init__" "TooMany.__init__" 284 285 286 28 2 0 0 3 85 181 86 87 88 89 289 28 290),
 (91,kF "__init__" "TooMany.__init__" (S8 (top 7) 0) m2 (.ref 90)),
 (93,kD [kE Q "__module__" 279 (.str "oncedone.errors" 202),kE Q "__firstlineno__" 283 (.int (26) 282),kE Q "__init__" 291 (.ref 91),kE Q "__static_attributes__" 293 (.ref 92),kE Q "__doc__" 294 .none] 2),
 (94,⟨(.type "type"),none,.cls { name := "TooMany",bases:=[(.ref 36)],mro:=[(.ref 94),(.ref 36),(.type "ValueError"),(.type "Exception"),(.type "BaseException"),(.type "object")],ns:=93,qualname := "TooMany",hasDict:=true,subclasses:=[] },([some (.ref 78),none,some (.str "TooMany" 272),some (.str "TooMany" 280),some (.builtin "ValueError.__new__"),some (.bool true)]:List (Option Value)).toArray⟩),
 (109,kC "__init__" "NoWay.__init__" 309 310 311 32 2 0 0 3 104 181 105 106 107 108 314 32 315),
 (110,kF "__init__" "NoWay.__init__" (S8 (top 8) 0) m2 (.ref 109)),
 (112,kD [kE Q "__module__" 304 (.str "oncedone.errors" 202),kE Q "__firstlineno__" 308 (.int (30) 307),kE Q "__init__" 316 (.ref 110),kE Q "__static_attributes__" 318 (.ref 111),kE Q "__doc__" 319 .none] 2),
 (113,⟨(.type "type"),none,.cls { name := "NoWay",bases:=[(.ref 36)],mro:=[(.ref 113),(.ref 36),(.type "ValueError"),(.type "Exception"),(.type "BaseException"),(.type "object")],ns:=112,qualname := "NoWay",hasDict:=true,subclasses:=[] },([some (.ref 97),none,some (.str "NoWay" 297),some (.str "NoWay" 305),some (.builtin "ValueError.__new__"),some (.bool true)]:List (Option Value)).toArray⟩),
 (116,⟨(.type "tuple"),none,.seq ([(.str "plus" 332),(.str "minus" 333),(.str "times" 334),(.str "less" 335),(.str "same" 336)]:List Value).toArray 0,([]:List (Option Value)).toArray⟩),
 (122,kC "is_whole" "is_whole" 338 339 340 40 1 0 0 3 117 181 118 119 120 121 342 40 343),
 (123,kF "is_whole" "is_whole" (top 15) m3 (.ref 122)),
 (129,kC "is_value" "is_value" 345 346 347 42 1 0 0 3 124 181 125 126 127 128 349 42 350),
 (130,kF "is_value" "is_value" (top 16) m3 (.ref 129)),
 (134,kN "is_name" "is_name" 352 353 354 44 1 0 0 3 131 181 132 133 355 44 356),
 (135,kF "is_name" "is_name" (top 17) m3 (.ref 134))]
def c5D:List Addr:=[3,20,21,25,26,35,36,52,53,55,56,71,72,74,75,90,91,93,94,109,110,112,113,116,122,123,129,130,134,135]
def K2(Q:Params):Frag:=[
 (141,kC "is_operand" "is_operand" 358 359 360 48 1 0 0 3 136 181 137 138 139 140 362 48 363),
 (142,kF "is_operand" "is_operand" (top 18) m3 (.ref 141)),
 (148,kC "is_deed" "is_deed" 365 366 367 50 1 0 0 3 143 181 144 145 146 147 369 50 370),
 (149,kF "is_deed" "is_deed" (top 19) m3 (.ref 148)),
 (155,kC "is_row" "is_row" 372 373 374 54 1 0 0 3 150 181 151 152 153 154 378 54 379),
 (156,kF "is_row" "is_row" (top 20) m3 (.ref 155)),
 (162,kC "is_below" "is_below" 385 386 387 70 2 0 0 3 157 181 158 159 160 161 390 70 391),
 (163,kF "is_below" "is_below" (top 23) m4 (.ref 162)),
 (169,kC "check_length" "check_length" 393 394 395 72 3 0 0 3 164 181 165 166 167 168 399 72 400),
 (170,kF "check_length" "check_length" (top 24) m4 (.ref 169)),
 (176,kC "check_each" "check_each" 402 403 404 77 1 0 0 3 171 181 172 173 174 175 408 77 409),
 (177,kF "check_each" "check_each" (top 25) m4 (.ref 176)),
 (183,kC "deed_of" "deed_of" 413 414 415 82 1 0 0 3 178 181 179 180 181 182 417 82 418),
 (184,kF "deed_of" "deed_of" (top 27) m5 (.ref 183)),
 (190,kC "set_by" "set_by" 420 421 422 84 1 0 0 3 185 181 186 187 188 189 424 84 425),
 (191,kF "set_by" "set_by" (top 28) m5 (.ref 190)),
 (197,kC "operands_of" "operands_of" 427 428 429 86 1 0 0 3 192 181 193 194 195 196 432 86 433),
 (198,kF "operands_of" "operands_of" (top 29) m5 (.ref 197)),
 (204,kC "reads_of" "reads_of" 435 436 437 95 1 0 0 3 199 181 200 201 202 203 441 95 442),
 (205,kF "reads_of" "reads_of" (top 30) m5 (.ref 204)),
 (206,⟨(.type "tuple"),none,.seq ([(.int (-1) 447),(.int (0) 448)]:List Value).toArray 0,([]:List (Option Value)).toArray⟩),
 (210,kN "are_nexts" "are_nexts" 450 451 452 103 3 0 0 3 207 181 208 209 453 103 454),
 (211,kF "are_nexts" "are_nexts" (top 33) m6 (.ref 210)),
 (215,kN "check_nexts" "check_nexts" 456 457 458 108 2 0 0 3 212 181 213 214 459 108 460),
 (216,kF "check_nexts" "check_nexts" (top 34) m6 (.ref 215)),
 (220,kN "stops_of" "stops_of" 462 463 464 112 1 0 0 3 217 181 218 219 465 112 466),
 (221,kF "stops_of" "stops_of" (top 35) m6 (.ref 220)),
 (225,kN "turned" "turned" 468 469 470 114 1 0 0 3 222 181 223 224 471 114 472),
 (226,kF "turned" "turned" (top 36) m6 (.ref 225)),
 (232,kC "reached" "reached" 474 475 476 120 2 0 0 3 227 181 228 229 230 231 482 120 483)]
def c2E:List Addr:=[141,142,148,149,155,156,162,163,169,170,176,177,183,184,190,191,197,198,204,205,206,210,211,215,216,220,221,225,226,232]
def K3(Q:Params):Frag:=[
 (233,kF "reached" "reached" (top 37) m6 (.ref 232)),
 (239,kC "check_ways" "check_ways" 485 486 487 129 1 0 0 3 234 181 235 236 237 238 492 129 493),
 (240,kF "check_ways" "check_ways" (top 38) m6 (.ref 239)),
 (244,kN "steps_of" "steps_of" 495 496 497 135 1 0 0 3 241 181 242 243 498 135 499),
 (245,kF "steps_of" "steps_of" (top 39) m6 (.ref 244)),
 (256,kN "__init__" "Plan.__init__" 513 514 515 142 3 0 0 3 253 181 254 255 516 142 517),
 (257,kF "__init__" "Plan.__init__" (S8 (top 40) 0) m6 (.ref 256)),
 (263,kC "steps" "Plan.steps" 519 520 521 153 1 0 0 3 258 181 259 260 261 262 523 153 524),
 (264,kF "steps" "Plan.steps" (S8 (top 40) 1) m6 (.ref 263)),
 (270,kC "leads_to" "Plan.leads_to" 526 527 528 156 2 0 0 3 265 181 266 267 268 269 531 156 532),
 (271,kF "leads_to" "Plan.leads_to" (S8 (top 40) 2) m6 (.ref 270)),
 (277,kC "steps_into" "Plan.steps_into" 534 535 536 161 2 0 0 3 272 181 273 274 275 276 539 161 540),
 (278,kF "steps_into" "Plan.steps_into" (S8 (top 40) 3) m6 (.ref 277)),
 (284,kC "stops" "Plan.stops" 542 543 544 164 1 0 0 3 279 181 280 281 282 283 546 164 547),
 (285,kF "stops" "Plan.stops" (S8 (top 40) 4) m6 (.ref 284)),
 (291,kC "deeds" "Plan.deeds" 549 550 551 167 1 0 0 3 286 181 287 288 289 290 556 167 557),
 (292,kF "deeds" "Plan.deeds" (S8 (top 40) 5) m6 (.ref 291)),
 (298,kC "names" "Plan.names" 559 560 561 175 1 0 0 3 293 181 294 295 296 297 565 175 566),
 (299,kF "names" "Plan.names" (S8 (top 40) 6) m6 (.ref 298)),
 (301,kD [kE Q "__module__" 508 (.str "oncedone.plans" 444),kE Q "__firstlineno__" 512 (.int (140) 511),kE Q "__init__" 518 (.ref 257),kE Q "steps" 525 (.ref 264),kE Q "leads_to" 533 (.ref 271),kE Q "steps_into" 541 (.ref 278),kE Q "stops" 548 (.ref 285),kE Q "deeds" 558 (.ref 292),kE Q "names" 567 (.ref 299),kE Q "__static_attributes__" 571 (.ref 300),kE Q "__dict__" 573 (.ref 303),kE Q "__weakref__" 575 (.ref 304),kE Q "__doc__" 576 .none] 4),
 (302,⟨(.type "type"),none,.cls { name := "Plan",bases:=[(.type "object")],mro:=[(.ref 302),(.type "object")],ns:=301,qualname := "Plan",hasDict:=true,subclasses:=[] },([none,none,some (.str "Plan" 501),some (.str "Plan" 509),some (.builtin "object.__new__"),some (.bool true)]:List (Option Value)).toArray⟩),
 (310,kN "_law_bag" "_law_bag" 581 582 583 183 1 0 0 3 307 181 308 309 584 183 585),
 (311,kF "_law_bag" "_law_bag" (top 42) m7 (.ref 310)),
 (317,kC "_law_take" "_law_take" 587 588 589 185 2 0 0 3 312 181 313 314 315 316 597 185 598),
 (318,kF "_law_take" "_law_take" (top 43) m7 (.ref 317)),
 (324,kC "_law_net" "_law_net" 600 601 602 204 2 0 0 3 319 181 320 321 322 323 610 204 611),
 (325,kF "_law_net" "_law_net" (top 44) m7 (.ref 324)),
 (329,kN "_law_mended" "_law_mended" 613 614 615 222 1 0 0 3 326 181 327 328 616 222 617),
 (330,kF "_law_mended" "_law_mended" (top 45) m7 (.ref 329)),
 (334,kN "_law_pool" "_law_pool" 619 620 621 237 1 0 0 3 331 181 332 333 622 237 623)]
def c2D:List Addr:=[233,239,240,244,245,256,257,263,264,270,271,277,278,284,285,291,292,298,299,301,302,310,311,317,318,324,325,329,330,334]
def K4(Q:Params):Frag:=[
 (335,kF "_law_pool" "_law_pool" (top 46) m7 (.ref 334)),
 (341,kC "_law_operand" "_law_operand" 625 626 627 241 2 0 0 3 336 181 337 338 339 340 631 241 632),
 (342,kF "_law_operand" "_law_operand" (top 47) m7 (.ref 341)),
 (348,kC "_law_deed" "_law_deed" 634 635 636 246 2 0 0 3 343 181 344 345 346 347 640 246 641),
 (349,kF "_law_deed" "_law_deed" (top 48) m7 (.ref 348)),
 (355,kC "_law_row" "_law_row" 643 644 645 249 4 0 0 3 350 181 351 352 353 354 652 249 653),
 (356,kF "_law_row" "_law_row" (top 49) m7 (.ref 355)),
 (360,kN "_law_plan" "_law_plan" 655 656 657 261 1 0 0 3 357 181 358 359 658 261 659),
 (361,kF "_law_plan" "_law_plan" (top 50) m7 (.ref 360)),
 (365,kN "_law_made" "_law_made" 661 662 663 272 2 0 0 3 362 181 363 364 664 272 665),
 (366,kF "_law_made" "_law_made" (top 51) m7 (.ref 365)),
 (372,kC "_law_names_of" "_law_names_of" 667 668 669 274 1 0 0 3 367 181 368 369 370 371 675 274 676),
 (373,kF "_law_names_of" "_law_names_of" (top 52) m7 (.ref 372)),
 (379,kC "_law_deeds_of" "_law_deeds_of" 678 679 680 284 1 0 0 3 374 181 375 376 377 378 684 284 685),
 (380,kF "_law_deeds_of" "_law_deeds_of" (top 53) m7 (.ref 379)),
 (386,kC "_law_steps_of" "_law_steps_of" 687 688 689 290 1 0 0 3 381 181 382 383 384 385 694 290 695),
 (387,kF "_law_steps_of" "_law_steps_of" (top 54) m7 (.ref 386)),
 (393,kC "_law_to" "_law_to" 697 698 699 296 2 0 0 3 388 181 389 390 391 392 702 296 703),
 (394,kF "_law_to" "_law_to" (top 55) m7 (.ref 393)),
 (400,kC "_law_due" "_law_due" 705 706 707 300 2 0 0 3 395 181 396 397 398 399 714 300 715),
 (401,kF "_law_due" "_law_due" (top 56) m7 (.ref 400)),
 (405,kN "_law_some" "_law_some" 717 718 719 310 2 0 0 3 402 181 403 404 720 310 721),
 (406,kF "_law_some" "_law_some" (top 57) m7 (.ref 405)),
 (410,kN "_law_good" "_law_good" 723 724 725 312 3 0 0 3 407 181 408 409 726 312 727),
 (411,kF "_law_good" "_law_good" (top 58) m7 (.ref 410)),
 (415,kN "_law_broad" "_law_broad" 729 730 731 329 1 0 0 3 412 181 413 414 732 329 733),
 (416,kF "_law_broad" "_law_broad" (top 59) m7 (.ref 415)),
 (422,kC "law" "law" 735 736 737 337 1 0 0 3 417 181 418 419 420 421 748 337 749),
 (423,kF "law" "law" (top 60) m7 (.ref 422))]
def c2C:List Addr:=[335,341,342,348,349,355,356,360,361,365,366,372,373,379,380,386,387,393,394,400,401,405,406,410,411,415,416,422,423]
def K(Q:Params):Frag:=K1 Q++(K2 Q++(K3 Q++K4 Q))
def adr:List Addr:=c5D++(c2E++(c2D++c2C))
def q:u4:=view P [60]
def loose:List Str:=(["_wall","shelves_for","OnceError","Wrong","NoThing","TooMany","NoWay","BOUND","LETTERS","FIGURES","LONGEST_NAME","DEED_KINDS","is_whole","is_value","is_name","is_operand","is_deed","is_row","MOST","is_below","check_length","check_each","deed_of","set_by","operands_of","reads_of","FIRST_STEP","are_nexts","check_nexts","stops_of","turned","reached","check_ways","steps_of","Plan","_law_bag","_law_take","_law_net","_law_mended","_law_pool","_law_operand","_law_deed","_law_row","_law_plan","_law_made","_law_names_of","_law_deeds_of","_law_steps_of","_law_to","_law_due","_law_some","_law_good","_law_broad"]:List String).map Str.ofString
theorem b9Q{p q:u4}{loose:List Str}{Xt:d4->Bool}{α:Type}{Yf:d4->α}{Ya:World->α}{N m₀:Nat}{ann:Option Value}(e:opening p=plainProg p.main.scope.names)(hN:Nat.ble 600 N=true)(f:∀s,fenceModules? p s=some s)
  (size:∀w:World,((boot_heap w.params).isNs o8,(boot_heap w.params).objs.size,(boot_heap w.params).nsMap o8 "__annotations__")=(true,m₀,ann))
  {r:World->OsState->Option d4} (hr:∀w os x,r w os=some x->topRun treeTable p w m₀ ann N ⟨boot_heap w.params,Array.mk [],boot_drawn,boot_toks,os⟩ (topStub p)=some x)
  (ra:∀w os,(r w os).map (fun s₁=>staticsOk (a1L p.main.body) (boot_heap w.params) s₁.heap&&namesBound p s₁.heap&&gensDone s₁&&laidKept (boot_heap w.params) s₁.heap)=some true)
  (rb:∀w os,(r w os).map (openSeen q loose (a1L p.main.body) Xt true)=some (openGood q loose))
  (rc:∀w os,(r w os).map Yf=some (Ya w)) :
  LeftO p q loose Xt Yf Ya N:=fun w=>by
 obtain⟨⟨h,gs,d,k,os⟩,e1,e2⟩:=j4.mp (boot_open e hN f w)
 obtain⟨rfl,rfl,rfl,rfl⟩:h=boot_heap w.params/\gs=Array.mk []/\d=boot_drawn/\k=boot_toks:=by simpa using e2
 obtain⟨z1,z2,z3⟩:_/\_/\_:=by simpa only[Prod.mk.injEq]using size w
 obtain⟨s₁,r1,r3⟩:=j4.mp (ra w os)
 have rb:=rb w os
 have rc:=rc w os
 rw[r1]at rb rc
 have r1:=hr w os _ r1
 have r4:(openSeen q loose (a1L p.main.body) Xt true s₁,Yf s₁)=(openGood q loose,Ya w):=Prod.ext (Option.some.inj rb) (Option.some.inj rc)
 have t:topFrom treeTable p w N ⟨boot_heap w.params,Array.mk [],boot_drawn,boot_toks,os⟩=some s₁:=by
  unfold topFrom
  dsimp only
  rw[z1,z2,z3,r1]
  show(match staticsOk (a1L p.main.body) (boot_heap w.params) s₁.heap&&namesBound p s₁.heap&&gensDone s₁&&laidKept (boot_heap w.params) s₁.heap with | true=>some s₁ | false=>none)=_
  rw[r3]
 unfold openEnds
 rw[e1]
 show(topFrom treeTable p w N _).map _=_
 rw[t]
 exact congrArg some r4
abbrev a9L:Hook:=kHook K adr (fun _=>by kernel_rfl)
abbrev row:OpenLaw:=PySem.Challenge.rw_oncedone_k61_shelves
def kZ(x q:Str)(st:Stmt):Obj:=⟨.none,none,.func { fnOf x q (a2w st) (a0G st) (g8 st) .none .none .none .none none .none .none with globals:=0 },#[]⟩
def kS(xs:List Value)(n:Nat):Obj:=⟨.type "tuple",none,.seq xs.toArray n,([]:List (Option Value)).toArray⟩
noncomputable section
def kk(a:Addr)(Q:Params):Obj:=((K Q).lookup a).getD (boot_o_4 Q)
def h1(Q:Params):List Obj:=[
boot_o_0 Q,
boot_o_1 Q,
boot_o_2 Q,
kD [kE Q "__name__" 165 (.str "oncedone.words" 322),kE Q "__doc__" 166 .none,kE Q "__package__" 167 .none,kE Q "__loader__" 168 (.builtin "__main__.__loader__#opaque"),kE Q "__spec__" 169 .none,kE Q "__annotations__" 170 (.ref 6),kE Q "__builtins__" 171 (.ref 4),kE Q "__file__" 173 (.str "/claim/cut.py" 172),kE Q "__cached__" 174 .none,kE Q "_wall" 193 (.ref 21),kE Q "shelves_for" 201 (.ref 26),kE Q "OnceError" 221 (.ref 36),kE Q "Wrong" 246 (.ref 56),kE Q "NoThing" 271 (.ref 75),kE Q "TooMany" 296 (.ref 94),kE Q "NoWay" 321 (.ref 113),kE Q "BOUND" 325 (.int (1000000000000) 324),kE Q "LETTERS" 327 (.str "abcdefghijklmnopqrstuvwxyz" 326),kE Q "FIGURES" 329 (.str "0123456789" 328),kE Q "LONGEST_NAME" 331 (.int (8) 330),kE Q "DEED_KINDS" 337 (.ref 116),kE Q "is_whole" 344 (.ref 123),kE Q "is_value" 351 (.ref 130)] 23,
boot_o_4 Q,
boot_o_5 Q,
boot_o_6 Q,
boot_o_7 Q,
boot_o_8 Q,
boot_o_9 Q,
boot_o_10 Q,
kS [] 0,
⟨.none,none,.fields ([(.int (1) 0),(.int (0) 0),(.ref 20),(.int (5) 0),(.int (0) 0),(.ref 25),(.int (16) 0),(.int (0) 0),(.ref 32),(.int (18) 0),(.int (0) 0),(.ref 45),(.int (22) 0),(.int (0) 0),(.ref 64),(.int (26) 0),(.int (0) 0),(.ref 83),(.int (30) 0),(.int (0) 0),(.ref 102),(.int (40) 0),(.int (0) 0),(.ref 122),(.int (42) 0),(.int (0) 0),(.ref 129)]:List Value).toArray,([]:List (Option Value)).toArray⟩,
⟨(.type "code"),none,.fields ([(.str "<module>" 182),(.str "<module>" 183),(.str "/claim/cut.py" 184),(.int (1) 0),(.int (0) 0),(.int (0) 0),(.int (0) 0),(.int (0) 0),(.ref 11),(.bool false),(.int (181) 0),(.ref 12),.none,.none,.none,.none,(.int (185) 0),(.int (1) 0),(.str "/claim/cut.py" 186)]:List Value).toArray,([]:List (Option Value)).toArray⟩,
⟨(.type "frame"),none,.plain,([some (.ref 13),some (.ref 3),some (.ref 3),none,some (.str "__main__" 164),none,some (.ref 0)]:List (Option Value)).toArray⟩,
kS [] 0,
⟨.none,none,.fields ([]:List Value).toArray,([]:List (Option Value)).toArray⟩,
kS [(.str "k" 190)] 0,
kS [] 0,
kZ "_wall" "_wall" (top 0),
kk 20 Q,
kk 21 Q,
kS [] 0,
⟨.none,none,.fields ([]:List Value).toArray,([]:List (Option Value)).toArray⟩,
kZ "shelves_for" "shelves_for" (top 2),
kk 25 Q,
kk 26 Q,
kS [(.type "ValueError")] 0,
⟨(.type "builtin_function_or_method"),none,.fields ([(.builtin "type.__prepare__"),(.type "type")]:List Value).toArray,([]:List (Option Value)).toArray⟩,
kD [kE Q "__module__" 211 (.str "oncedone.errors" 202),kE Q "__qualname__" 213 (.str "OnceError" 212),kE Q "__firstlineno__" 215 (.int (16) 214),kE Q "__static_attributes__" 216 (.ref 34)] 4,
kS [] 0,
⟨.none,none,.fields ([]:List Value).toArray,([]:List (Option Value)).toArray⟩,
⟨(.type "code"),none,.fields ([(.str "OnceError" 206),(.str "OnceError" 207),(.str "/claim/cut.py" 208),(.int (16) 0),(.int (0) 0),(.int (0) 0),(.int (0) 0),(.int (0) 0),(.ref 30),(.bool false),(.int (181) 0),(.ref 31),.none,.none,.none,.none,(.int (209) 0),(.int (16) 0),(.str "/claim/cut.py" 210)]:List Value).toArray,([]:List (Option Value)).toArray⟩,
⟨(.type "frame"),none,.plain,([some (.ref 32),some (.ref 3),some (.ref 29),none,some (.str "oncedone.errors" 202),none,some (.ref 0)]:List (Option Value)).toArray⟩,
kS [] 0,
kk 35 Q,
kk 36 Q,
⟨(.type "getset_descriptor"),none,.fields ([(.str "__weakref__" 217),(.ref 36),(.builtin "ExceptionGroup.__weakref__"),.none]:List Value).toArray,([]:List (Option Value)).toArray⟩,
⟨(.type "super"),none,.fields ([(.ref 36),(.ref 36),(.ref 36)]:List Value).toArray,([]:List (Option Value)).toArray⟩,
⟨(.type "builtin_function_or_method"),none,.fields ([(.builtin "object.__init_subclass__"),(.ref 36)]:List Value).toArray,([]:List (Option Value)).toArray⟩,
kS [(.ref 36)] 0,
⟨(.type "builtin_function_or_method"),none,.fields ([(.builtin "type.__prepare__"),(.type "type")]:List Value).toArray,([]:List (Option Value)).toArray⟩,
kD [kE Q "__module__" 229 (.str "oncedone.errors" 202),kE Q "__qualname__" 231 (.str "Wrong" 230),kE Q "__firstlineno__" 233 (.int (18) 232),kE Q "__init__" 241 (.ref 53),kE Q "__static_attributes__" 243 (.ref 54)] 5,
kS [] 0,
⟨.none,none,.fields ([(.int (20) 0),(.int (4) 0),(.ref 52)]:List Value).toArray,([]:List (Option Value)).toArray⟩,
⟨(.type "code"),none,.fields ([(.str "Wrong" 224),(.str "Wrong" 225),(.str "/claim/cut.py" 226),(.int (18) 0),(.int (0) 0),(.int (0) 0),(.int (0) 0),(.int (0) 0),(.ref 43),(.bool false),(.int (181) 0),(.ref 44),.none,.none,.none,.none,(.int (227) 0),(.int (18) 0),(.str "/claim/cut.py" 228)]:List Value).toArray,([]:List (Option Value)).toArray⟩,
⟨(.type "frame"),none,.plain,([some (.ref 45),some (.ref 3),some (.ref 42),none,some (.str "oncedone.errors" 202),none,some (.ref 0)]:List (Option Value)).toArray⟩,
kS [] 0,
⟨.none,none,.fields ([]:List Value).toArray,([]:List (Option Value)).toArray⟩,
kS [(.str "self" 237),(.str "at" 238)] 0,
kS [] 0,
kZ "__init__" "Wrong.__init__" (S8 (top 5) 0),
kk 52 Q,
kk 53 Q,
kS [(.str "at" 242)] 0,
kk 55 Q,
kk 56 Q,
⟨(.type "super"),none,.fields ([(.ref 56),(.ref 56),(.ref 56)]:List Value).toArray,([]:List (Option Value)).toArray⟩,
⟨(.type "builtin_function_or_method"),none,.fields ([(.builtin "object.__init_subclass__"),(.ref 56)]:List Value).toArray,([]:List (Option Value)).toArray⟩,
kS [(.ref 36)] 0,
⟨(.type "builtin_function_or_method"),none,.fields ([(.builtin "type.__prepare__"),(.type "type")]:List Value).toArray,([]:List (Option Value)).toArray⟩,
kD [kE Q "__module__" 254 (.str "oncedone.errors" 202),kE Q "__qualname__" 256 (.str "NoThing" 255),kE Q "__firstlineno__" 258 (.int (22) 257),kE Q "__init__" 266 (.ref 72),kE Q "__static_attributes__" 268 (.ref 73)] 5,
kS [] 0,
⟨.none,none,.fields ([(.int (24) 0),(.int (4) 0),(.ref 71)]:List Value).toArray,([]:List (Option Value)).toArray⟩,
⟨(.type "code"),none,.fields ([(.str "NoThing" 249),(.str "NoThing" 250),(.str "/claim/cut.py" 251),(.int (22) 0),(.int (0) 0),(.int (0) 0),(.int (0) 0),(.int (0) 0),(.ref 62),(.bool false),(.int (181) 0),(.ref 63),.none,.none,.none,.none,(.int (252) 0),(.int (22) 0),(.str "/claim/cut.py" 253)]:List Value).toArray,([]:List (Option Value)).toArray⟩,
⟨(.type "frame"),none,.plain,([some (.ref 64),some (.ref 3),some (.ref 61),none,some (.str "oncedone.errors" 202),none,some (.ref 0)]:List (Option Value)).toArray⟩,
kS [] 0,
⟨.none,none,.fields ([]:List Value).toArray,([]:List (Option Value)).toArray⟩,
kS [(.str "self" 262),(.str "at" 263)] 0,
kS [] 0,
kZ "__init__" "NoThing.__init__" (S8 (top 6) 0),
kk 71 Q,
kk 72 Q,
kS [(.str "at" 267)] 0,
kk 74 Q,
kk 75 Q,
⟨(.type "super"),none,.fields ([(.ref 75),(.ref 75),(.ref 75)]:List Value).toArray,([]:List (Option Value)).toArray⟩,
⟨(.type "builtin_function_or_method"),none,.fields ([(.builtin "object.__init_subclass__"),(.ref 75)]:List Value).toArray,([]:List (Option Value)).toArray⟩,
kS [(.ref 36)] 0,
⟨(.type "builtin_function_or_method"),none,.fields ([(.builtin "type.__prepare__"),(.type "type")]:List Value).toArray,([]:List (Option Value)).toArray⟩,
kD [kE Q "__module__" 279 (.str "oncedone.errors" 202),kE Q "__qualname__" 281 (.str "TooMany" 280),kE Q "__firstlineno__" 283 (.int (26) 282),kE Q "__init__" 291 (.ref 91),kE Q "__static_attributes__" 293 (.ref 92)] 5,
kS [] 0,
⟨.none,none,.fields ([(.int (28) 0),(.int (4) 0),(.ref 90)]:List Value).toArray,([]:List (Option Value)).toArray⟩,
⟨(.type "code"),none,.fields ([(.str "TooMany" 274),(.str "TooMany" 275),(.str "/claim/cut.py" 276),(.int (26) 0),(.int (0) 0),(.int (0) 0),(.int (0) 0),(.int (0) 0),(.ref 81),(.bool false),(.int (181) 0),(.ref 82),.none,.none,.none,.none,(.int (277) 0),(.int (26) 0),(.str "/claim/cut.py" 278)]:List Value).toArray,([]:List (Option Value)).toArray⟩,
⟨(.type "frame"),none,.plain,([some (.ref 83),some (.ref 3),some (.ref 80),none,some (.str "oncedone.errors" 202),none,some (.ref 0)]:List (Option Value)).toArray⟩,
kS [] 0,
⟨.none,none,.fields ([]:List Value).toArray,([]:List (Option Value)).toArray⟩,
kS [(.str "self" 287),(.str "most" 288)] 0,
kS [] 0,
kZ "__init__" "TooMany.__init__" (S8 (top 7) 0),
kk 90 Q,
kk 91 Q,
kS [(.str "most" 292)] 0,
kk 93 Q,
kk 94 Q,
⟨(.type "super"),none,.fields ([(.ref 94),(.ref 94),(.ref 94)]:List Value).toArray,([]:List (Option Value)).toArray⟩,
⟨(.type "builtin_function_or_method"),none,.fields ([(.builtin "object.__init_subclass__"),(.ref 94)]:List Value).toArray,([]:List (Option Value)).toArray⟩,
kS [(.ref 36)] 0,
⟨(.type "builtin_function_or_method"),none,.fields ([(.builtin "type.__prepare__"),(.type "type")]:List Value).toArray,([]:List (Option Value)).toArray⟩,
kD [kE Q "__module__" 304 (.str "oncedone.errors" 202),kE Q "__qualname__" 306 (.str "NoWay" 305),kE Q "__firstlineno__" 308 (.int (30) 307),kE Q "__init__" 316 (.ref 110),kE Q "__static_attributes__" 318 (.ref 111)] 5,
kS [] 0,
⟨.none,none,.fields ([(.int (32) 0),(.int (4) 0),(.ref 109)]:List Value).toArray,([]:List (Option Value)).toArray⟩,
⟨(.type "code"),none,.fields ([(.str "NoWay" 299),(.str "NoWay" 300),(.str "/claim/cut.py" 301),(.int (30) 0),(.int (0) 0),(.int (0) 0),(.int (0) 0),(.int (0) 0),(.ref 100),(.bool false),(.int (181) 0),(.ref 101),.none,.none,.none,.none,(.int (302) 0),(.int (30) 0),(.str "/claim/cut.py" 303)]:List Value).toArray,([]:List (Option Value)).toArray⟩,
⟨(.type "frame"),none,.plain,([some (.ref 102),some (.ref 3),some (.ref 99),none,some (.str "oncedone.errors" 202),none,some (.ref 0)]:List (Option Value)).toArray⟩,
kS [] 0,
⟨.none,none,.fields ([]:List Value).toArray,([]:List (Option Value)).toArray⟩,
kS [(.str "self" 312),(.str "at" 313)] 0,
kS [] 0,
kZ "__init__" "NoWay.__init__" (S8 (top 8) 0),
kk 109 Q,
kk 110 Q,
kS [(.str "at" 317)] 0,
kk 112 Q,
kk 113 Q,
⟨(.type "super"),none,.fields ([(.ref 113),(.ref 113),(.ref 113)]:List Value).toArray,([]:List (Option Value)).toArray⟩,
⟨(.type "builtin_function_or_method"),none,.fields ([(.builtin "object.__init_subclass__"),(.ref 113)]:List Value).toArray,([]:List (Option Value)).toArray⟩,
kk 116 Q,
kS [] 0,
⟨.none,none,.fields ([]:List Value).toArray,([]:List (Option Value)).toArray⟩,
kS [(.str "thing" 341)] 0,
kS [] 0,
kZ "is_whole" "is_whole" (top 15),
kk 122 Q,
kk 123 Q,
kS [] 0,
⟨.none,none,.fields ([]:List Value).toArray,([]:List (Option Value)).toArray⟩,
kS [(.str "thing" 348)] 0,
kS [] 0,
kZ "is_value" "is_value" (top 16),
kk 129 Q,
kk 130 Q]
abbrev bd:List Stmt:=behindTheImports P
abbrev en:Env:={ scope:=P.main.scope,locals:=mainNs,globals:=mainNs,cells:=[],code:=(.ref 13),frame:=some 14 }
abbrev cE:Code:=.body bd en
abbrev fB:List Frame:=[topFrame ⟨0,0,0,0⟩]
abbrev s0(w:World)(os:OsState):d4:=⟨boot_heap w.params,Array.mk [],boot_drawn,boot_toks,os⟩
def sa(w:World)(os:OsState):d4:=((topGo treeTable P w 11 (some (.ref 6)) 12 (s0 w os) (topStub P)).map (·.1)).getD (s0 w os)
abbrev s1(w:World)(os:OsState):d4:=⟨⟨Array.mk (h1 w.params),(boot_heap w.params).life⟩,Array.mk [],boot_drawn,352,os⟩
abbrev rn(w:World)(os:OsState):Option d4:=PySem.W.Fast.tw14082659384304107361 PySem.W.Fast.tw14364793385576792824 P w 11 (some (.ref 6)) 5205 (s1 w os) (restOf (bd.drop 17) en cE ⟨42,0,43,49⟩ fB)
end
theorem c7I(w:World)(os:OsState):topGo treeTable P w 11 (some (.ref 6)) 12 (s0 w os) (topStub P)=some (sa w os,⟨denote treeTable cE,cE,⟨0,0,0,0⟩,fB⟩):=by kernel_rfl
theorem c7H(w:World)(os:OsState):segRun treeTable P w 11 (some (.ref 6)) 1 1 (sa w os) (blockOf bd en cE ⟨0,0,0,0⟩ fB)=some (.next,sa w os,cE,⟨0,0,0,0⟩):=by kernel_rfl
theorem c7G(w:World)(os:OsState):segRun treeTable P w 11 (some (.ref 6)) 1 1358 (sa w os) (piecesOf (bd.take 17) en cE ⟨0,0,0,0⟩ fB)=some (.next,s1 w os,cE,⟨42,0,43,49⟩):=by kernel_rfl
theorem c7F(w:World)(os:OsState)(x:d4)(h:rn w os=some x):topRun treeTable P w 11 (some (.ref 6)) 6576 (s0 w os) (topStub P)=some x:=by
 have h:topRun treeTable P w 11 (some (.ref 6)) 5205 (s1 w os) (restOf (bd.drop 17) en cE ⟨42,0,43,49⟩ fB)=some x:=by rw[PySem.W.Fast.te14082659384304107361,PySem.W.Fast.te14364793385576792824];exact h
 have h:=piece_app (c7G w os) h
 rw[List.take_append_drop]at h
 exact go_top (c7I w os) (piece_block (c7H w os) h)
theorem c5h(w:World)(os:OsState):(rn w os).map (fun s₁=>staticsOk (a1L P.main.body) (boot_heap w.params) s₁.heap&&namesBound P s₁.heap&&gensDone s₁&&laidKept (boot_heap w.params) s₁.heap)=some true:=by kernel_rfl
theorem c5g(w:World)(os:OsState):(rn w os).map (PySem.W.Fast.tw4187177175401517315 q loose (a1L P.main.body) (fun s=>xlAt q [] s&&recOk (RowW.records row.row.toRowW) s) true)=some (openGood q loose):=by kernel_rfl
theorem c2k(w:World)(os:OsState):(rn w os).map (fun s=>c5D.map s.heap.get?)=some ((K1 w.params).map fun p=>some p.2):=by kernel_rfl
theorem c2j(w:World)(os:OsState):(rn w os).map (fun s=>c2E.map s.heap.get?)=some ((K2 w.params).map fun p=>some p.2):=by kernel_rfl
theorem c2i(w:World)(os:OsState):(rn w os).map (fun s=>c2D.map s.heap.get?)=some ((K3 w.params).map fun p=>some p.2):=by kernel_rfl
theorem c2h(w:World)(os:OsState):(rn w os).map (fun s=>c2C.map s.heap.get?)=some ((K4 w.params).map fun p=>some p.2):=by kernel_rfl
theorem c5f(w:World)(os:OsState):(rn w os).map (Hook.obs a9L)=some (Hook.val a9L w):=by
 obtain⟨s,h1,h2⟩:=j4.mp (c2k w os)
 have h3:=c2j w os
 have h4:=c2i w os
 have h5:=c2h w os
 rw[h1]at h3 h4 h5 ⊢
 have h3:c2E.map s.heap.get? = _:=Option.some.inj h3
 have h4:c2D.map s.heap.get? = _:=Option.some.inj h4
 have h5:c2C.map s.heap.get? = _:=Option.some.inj h5
 show some ((c5D++(c2E++(c2D++c2C))).map s.heap.get?)=some ((K1 w.params++(K2 w.params++(K3 w.params++K4 w.params))).map fun p=>some p.2)
 rw[t9,t9,t9,t9,t9,t9,h2,h3,h4,h5]
theorem left:LeftO P q loose (fun s=>xlAt q [] s&&recOk (RowW.records row.row.toRowW) s) (Hook.obs a9L) (Hook.val a9L) 6576:=
 b9Q (m₀:=11) (ann:=(some (.ref 6))) (r:=rn) (by kernel_rfl) (by kernel_rfl) (fun s=>by kernel_rfl) (fun w=>by kernel_rfl) c7F c5h (by rw[PySem.W.Fast.te4187177175401517315];exact c5g) c5f
theorem c6c:row.wellSaid=true:=by
 rw[PySem.W.Fast.te9446332074065402090]
 kernel_rfl
theorem fin(hc:∀d:DefRec,d.name = "law" -> d.params.defaults=[]->WalkO q loose (XL q []) (Hook.says a9L) row.row.toRowW d [] (fun f vs=>b1L f vs)):row.Holds:=by
 refine holds_law (l:=row) c6c fun said=>?_
 refine holds_open (q:=q) (loose:=loose) (Xt:=fun s=>xlAt q [] s&&recOk (RowW.records row.row.toRowW) s) (XP:=XL q []) (Yf:=Hook.obs a9L) (Ya:=Hook.val a9L) (YP:=Hook.says a9L) (N:=6576) left (Hook.of a9L) (Hook.keeps a9L) (fun s e=>xl_of s (b7V.mp e).1) XL.keeps (by rfl) (by rfl) (by rfl) (fun s e=>recFacts_of (b7V.mp e).2) (by rfl) said (by decide +kernel) ⟨rfl,rfl,rfl,rfl,rfl,by decide +kernel⟩ ?hw (hc _ rfl rfl)
 case hw=>w_witness2
end HD
set_option Elab.async false
set_option linter.all false
set_option maxRecDepth 100000
namespace L2
open PySem PySem.Spec PyProof.Rows
variable{us:List Value}{i t':Nat}{u:Value}{C a b dx f:Addr}{w:World}{h h':Heap}{pins:List (Addr×Obj)}{s:d4}{c e tg:Expr}{p pos pos':Pos}{Q:Value->d4->Prop}{es:List Expr}{ps:List Str}{m:Str->Option Value}
abbrev Key:=Sum Int Str
def a8S:Key->Value->Bool
 | .inl k,v=>Value.isInt k v
 | .inr x,v=>Value.isStrOf x v
def c7D(w:World):Key->Int
 | .inl k=>hashInt k
 | .inr x=>hashStr w x
theorem Q6:∀ {k:Key} {v:Value},a8S k v=true->(∃i t,k=Sum.inl i/\v=Value.int i t)\/(∃x t,k=Sum.inr x/\v=Value.str x t)
 | .inl i,v,h=>by
  obtain⟨t,e⟩:=Value.isInt_shape (k:=i) (v:=v) h
  exact .inl ⟨i,t,rfl,e⟩
 | .inr x,v,h=>by
  obtain⟨t,e⟩:=Value.isStrOf_shape (x:=x) (v:=v) h
  exact .inr ⟨x,t,rfl,e⟩
theorem b7e(i:Int)(t:Tok):a8S (.inl i) (.int i t)=true:=by simp[a8S,Value.isInt]
theorem b7d(x:Str)(t:Tok):a8S (.inr x) (.str x t)=true:=by simp[a8S,Value.isStrOf]
theorem c5m(a b:Int):decide ((Sum.inl a:Key)=Sum.inl b)=(a == b):=by
 by_cases e:a=b
 ·subst e;simp
 ·have h:¬(Sum.inl a:Key)=Sum.inl b:=fun q=>e (Sum.inl.inj q)
  rw[c8T h]
  exact(beq_eq_false_iff_ne.mpr e).symm
theorem c5j(a b:Str):decide ((Sum.inr a:Key)=Sum.inr b)=decide (a=b):=by
 by_cases e:a=b
 ·subst e;simp
 ·have h:¬(Sum.inr a:Key)=Sum.inr b:=fun q=>e (Sum.inr.inj q)
  rw[c8T h,c8T e]
theorem c5l(a:Int)(b:Str):decide ((Sum.inl a:Key)=Sum.inr b)=false:=c8T (fun q=>nomatch q)
theorem c5k(a:Str)(b:Int):decide ((Sum.inr a:Key)=Sum.inl b)=false:=c8T (fun q=>nomatch q)
def Q2(prog:u4)(w:World):PySem.KeyKind prog w Key where
 is:=a8S
 hash:=c7D w
 inj:=fun v a b ha hb=>by
  rcases Q6 ha with ⟨i,t,rfl,rfl⟩ | ⟨x,t,rfl,rfl⟩
  ·rcases Q6 hb with ⟨j,u,rfl,e⟩ | ⟨y,u,rfl,e⟩
   ·injection e with e1 _;rw[e1]
   ·exact nomatch e
  ·rcases Q6 hb with ⟨j,u,rfl,e⟩ | ⟨y,u,rfl,e⟩
   ·exact nomatch e
   ·injection e with e1 _;rw[e1]
 byValue:=fun k v h=>by
  rcases Q6 h with ⟨i,t,rfl,rfl⟩ | ⟨x,t,rfl,rfl⟩ <;> rfl
 pyHash:=fun hv h=>by
  rcases Q6 hv with ⟨i,t,rfl,rfl⟩ | ⟨x,t,rfl,rfl⟩
  ·exact wpAny_pyHash_int h
  ·exact wpAny_pyHash_str h
 eqBool:=fun hu hv h=>by
  rcases Q6 hu with ⟨i,t,rfl,rfl⟩ | ⟨x,t,rfl,rfl⟩
  ·rcases Q6 hv with ⟨j,u,rfl,rfl⟩ | ⟨y,u,rfl,rfl⟩
   ·rw[c5m]at h;exact wpAny_eqBool_int h
   ·rw[c5l]at h;exact SeqAt.EqAt.int_str i t y u _ _ _ _ h
  ·rcases Q6 hv with ⟨j,u,rfl,rfl⟩ | ⟨y,u,rfl,rfl⟩
   ·rw[c5k]at h;exact SeqAt.EqAt.str_int x t j u _ _ _ _ h
   ·rw[c5j]at h;exact wpAny_eqBool_str h
 «strs» := fun k x t v h=>by
  rcases Q6 h with ⟨i,u,rfl,e⟩ | ⟨y,u,rfl,e⟩
  ·exact nomatch e
  ·injection e with e1 _
   subst e1
   cases v <;> rfl
theorem b2T(prog:u4)(w:World)(i:Int)(t:Tok):(Q2 prog w).is (.inl i) (.int i t)=true:=b7e i t
theorem b2S(prog:u4)(w:World)(x:Str)(t:Tok):(Q2 prog w).is (.inr x) (.str x t)=true:=b7d x t
inductive V where
 | non | bl (b:Bool) | int (i:Int) | str (x:Str) | byt (b:Array UInt8) | flt (b:UInt64) | ref (a:Addr) | ty (n:String)
 deriving DecidableEq
variable{v y:V}{xs:List V}{kvs:List (Key×V)}
def C7:V->Value->Prop
 | .non,u=>u=Value.none
 | .bl b,u=>u=Value.bool b
 | .int i,u=>∃t,u=Value.int i t
 | .str x,u=>∃t,u=Value.str x t
 | .byt b,u=>∃t,u=Value.bytes b t
 | .flt b,u=>∃t,u=Value.float b t
 | .ref a,u=>u=Value.ref a
 | .ty n,u=>u=Value.type n
abbrev E6:List V->List Value->Prop:=Paired C7
theorem E6.length(r:E6 xs us):xs.length=us.length:=Paired.length r
theorem E6.get:∀ {xs:List V} {us:List Value} {i:Nat} {x:V},E6 xs us->xs[i]? = some x->∃u,us[i]? = some u/\C7 x u
 | _,_,_,_,.nil,e=>by simp at e
 | _,_,0,_,.cons r _,e=>by simp at e;subst e;exact⟨_,rfl,r⟩
 | _,_,i+1,x,.cons _ t,e=>by
  obtain⟨u,h1,h2⟩:=E6.get (i:=i) (x:=x) t (by simpa using e)
  exact⟨u,by simpa using h1,h2⟩
theorem E6.set{x:V}(r:C7 x u):∀ {xs:List V} {us:List Value} (i:Nat),E6 xs us->E6 (xs.set i x) (us.set i u)
 | _,_,_,.nil=>.nil
 | _,_,0,.cons _ t=>.cons r t
 | _,_,i+1,.cons q t=>.cons q (E6.set r i t)
theorem E6.append:∀ {xs ys:List V} {us ws:List Value},E6 xs us->E6 ys ws->E6 (xs++ys) (us++ws)
 | _,_,_,_,.nil,s=>s
 | _,_,_,_,.cons r t,s=>.cons r (E6.append t s)
theorem E6.take:∀ {xs:List V} {us:List Value} (n:Nat),E6 xs us->E6 (xs.take n) (us.take n)
 | _,_,0,_=>.nil
 | _,_,_+1,.nil=>.nil
 | _,_,n+1,.cons r t=>.cons r (E6.take n t)
theorem E6.drop:∀ {xs:List V} {us:List Value} (n:Nat),E6 xs us->E6 (xs.drop n) (us.drop n)
 | _,_,0,r=>r
 | _,_,_+1,.nil=>.nil
 | _,_,n+1,.cons _ t=>E6.drop n t
def a4O:Option V->Option Value->Prop
 | some v,some u=>C7 v u
 | none,none=>True
 | _,_=>False
def KV{κ:Type}:List (κ×V)->List (κ×Value)->Prop:=Paired fun(p:κ×V) (q:κ×Value)=>p.1=q.1/\C7 p.2 q.2
def kV:Key->V
 | .inl i=>.int i
 | .inr x=>.str x
inductive HO where
 /-- a list -/
 | lst (xs:List V)
 /-- a tuple (never changes) -/
 | tup (xs:List V)
 /-- a dict whose keys are ints and texts;one whose keys are tuples of ints and texts (the empty one is both) -/
 | dK (kvs:List (Key×V)) | dT (kvs:List (List Key×V))
 /-- a set of ints: its members,its size -/
 | set (S:Int->Bool) (n:Nat)
 /-- an instance of the class at C,its dict at dx,its attributes -/
 | ins (C dx:Addr) (fs:List (Str×V))
 /-- the dict of the instance at x -/
 | own (x:Addr)
 /-- the dict of an exception -/
 | xd (fs:List (Str×V))
 /-- a bound method,f of x -/
 | met (f x:Addr)
 /-- a range object lo,lo+1,.. below hi -/
 | rng (lo hi:Int)
 /-- a thing that is known to the object (the script;a dict while a loop walks it): read,never written while it is so -/
 | frz (o:Obj) (u:HO)
 /-- a code object's table -/
 | tbl (ps:Array Value)
 /-- any other thing,by what is true of its one object (a def of one's own: SetO a S n:=HO.ext fun h=>..) -/
 | ext (φ:Heap->Prop)
variable{o:HO}
abbrev Hp:=Addr->Option HO
variable{H H':Hp}
def upd(H:Hp)(a:Addr)(o:HO):Hp:=fun b=>if b=a then some o else H b
theorem c9:upd H a o a=some o:=by unfold upd;rw[if_pos rfl]
theorem g6(h:b≠a):upd H a o b=H b:=by unfold upd;rw[if_neg h]
theorem a7F{u:HO}:upd (upd H a o) a u=upd H a u:=by
 funext b;unfold upd;split <;> rfl
theorem L1{u:HO}(h:H a=some o)(h':H b=some u)(d:o≠u):a≠b:=by
 intro e;subst e;rw[h]at h';exact d (Option.some.inj h')
theorem d5(h:H a=some o)(h':H b=none):a≠b:=by
 intro e;subst e;rw[h]at h';cases h'
section
variable (P:u4)(w:World)
def Q7(H:Hp)(h:Heap)(a:Addr):HO->Prop
 | .lst xs=>xs.length<=i8/\∃(its:List Value) (n:Nat),E6 xs its/\h.get? a=some { cls:=.type "list",data:=.seq its.toArray n }
 | .tup xs=>xs.length<=i8/\∃its:List Value,E6 xs its/\IsTup h a its.toArray
 | .dK kvs=>kvs.length<=i8/\(a == V4)=false/\∃vs,KV kvs vs/\h.DictOf (Q2 P w) a vs
 | .dT kvs=>kvs.length<=i8/\(a == V4)=false/\∃xs:List (List Key×Addr×Value),
   Paired (fun(p:List Key×V) (q:List Key×Addr×Value)=>p.1=q.1/\H q.2.1=some (.tup (p.1.map kV))/\C7 p.2 q.2.2) kvs xs /\
   ∃o es ep,h.get? a=some o/\o.ExactDict/\o.data=.dict es ep/\es.toList=xs.map (entryOfKey (b7Y (Q2 P w)))/\(xs.map (·.1)).Nodup
 | .set S n=>h.SetOf (intKind P w) a S n
 | .ins C dx fs=>H dx=some (.own a)/\fs.length<=1000/\dx≠a/\h.get? a=some (U7 C dx) /\
   ∃mA,h.Ns1 dx mA/\(∀f,a4O (fs.lookup f) (mA f))/\PySem.Within mA (fs.map (·.1))
 | .own _=>∃o,h.get? a=some o
 | .xd fs=>∃mA,h.Ns1 a mA/\∀f,a4O (fs.lookup f) (mA f)
 | .rng lo hi=>∃t u v,h.get? a=some { cls:=.type "range",data:=.fields #[.int lo t,.int hi u,.int 1 v] }
 | .frz o u=>h.get? a=some o/\Q7 H h a u
 | .tbl ps=>h.get? a=some { cls:=.none,data:=.fields ps }
 | .met f x=>h.get? a=some (a7i (.ref f) (.ref x))
 | .ext φ=>φ h/\(∃o,h.get? a=some o)/\∀h1 h2:Heap,φ h1->(∀o,h1.get? a=some o->h2.get? a=some o)->φ h2
def HOk(H:Hp)(h:Heap):Prop:=∀a o,H a=some o->Q7 P w H h a o
end
section
variable {P:u4}
theorem Q7.lt(x:Q7 P w H h a o):a<h.objs.size:=by
 cases o with
 | lst xs=>obtain⟨_,_,_,_,e⟩:=x;exact d6 e
 | tup xs=>obtain⟨_,_,_,p⟩:=x;exact p.lt
 | dK kvs=>obtain⟨_,_,_,_,o,_,_,e,_⟩:=x;exact d6 e
 | dT kvs=>obtain⟨_,_,_,_,o,_,_,e,_⟩:=x;exact d6 e
 | set S n=>obtain⟨o,_,_,_,e,_⟩:=x;exact d6 e
 | ins C dx fs=>obtain⟨_,_,_,e,_⟩:=x;exact d6 e
 | own y=>obtain⟨_,e⟩:=x;exact d6 e
 | xd fs=>obtain⟨_,⟨_,_,_,e,_⟩,_⟩:=x;exact d6 e
 | rng lo hi=>obtain⟨_,_,_,e⟩:=x;exact d6 e
 | frz ob u=>obtain⟨e,_⟩:=x;exact d6 e
 | tbl ps=>exact d6 (show h.get? a=some _ from x)
 | met f y=>exact d6 (show h.get? a=some _ from x)
 | ext φ=>obtain⟨_,⟨_,e⟩,_⟩:=x;exact d6 e
theorem Paired.mapP{α β:Type}{F G:α->β->Prop}:∀ {l₁:List α} {l₂:List β},Paired F l₁ l₂->(∀a b,F a b->G a b)->Paired G l₁ l₂
 | _,_,.nil,_=>.nil
 | _,_,.cons r t,f=>.cons (f _ _ r) (Paired.mapP t f)
theorem Q7.stay(x:Q7 P w H h a o)(k:∀b u,(b=a\/H b=some (.own a))->h.get? b=some u->h'.get? b=some u)
  (ho:∀b,H b=some (.own a)->H' b=some (.own a)) (ht:∀b xs,H b=some (.tup xs)->H' b=some (.tup xs)):Q7 P w H' h' a o:=by
 induction o with
 | lst xs=>obtain⟨z,its,n,r,e⟩:=x;exact⟨z,its,n,r,k _ _ (.inl rfl) e⟩
 | tup xs=>obtain⟨z,its,r,ob,e,c⟩:=x;exact⟨z,its,r,ob,k _ _ (.inl rfl) e,c⟩
 | dK kvs=>obtain⟨z,y,vs,r,ob,es,ep,e,c⟩:=x;exact⟨z,y,vs,r,ob,es,ep,k _ _ (.inl rfl) e,c⟩
 | dT kvs=>
  obtain⟨z,y,xs,r,ob,es,ep,e,c⟩:=x
  exact⟨z,y,xs,Paired.mapP r fun p q z=>⟨z.1,ht _ _ z.2.1,z.2.2⟩,ob,es,ep,k _ _ (.inl rfl) e,c⟩
 | set S n=>obtain⟨ob,es,ep,t,e,c⟩:=x;exact⟨ob,es,ep,t,k _ _ (.inl rfl) e,c⟩
 | ins C dx fs=>
  obtain⟨d,z,ne,e,mA,⟨od,es,ep,e2,c⟩,r⟩:=x
  exact⟨ho _ d,z,ne,k _ _ (.inl rfl) e,mA,⟨od,es,ep,k _ _ (.inr d) e2,c⟩,r⟩
 | own y=>obtain⟨ob,e⟩:=x;exact⟨ob,k _ _ (.inl rfl) e⟩
 | xd fs=>obtain⟨mA,⟨od,es,ep,e,c⟩,r⟩:=x;exact⟨mA,⟨od,es,ep,k _ _ (.inl rfl) e,c⟩,r⟩
 | rng lo hi=>obtain⟨t,u,v,e⟩:=x;exact⟨t,u,v,k _ _ (.inl rfl) e⟩
 | frz ob u ih=>obtain⟨e,q⟩:=x;exact⟨k _ _ (.inl rfl) e,ih q⟩
 | tbl ps=>
  have e:h.get? a=some { cls:=.none,data:=.fields ps }:=x
  show h'.get? a=some { cls:=.none,data:=.fields ps }
  exact k a _ (.inl rfl) e
 | met f y=>
  have e:h.get? a=some (a7i (.ref f) (.ref y)):=x
  show h'.get? a=some (a7i (.ref f) (.ref y))
  exact k a _ (.inl rfl) e
 | ext φ=>obtain⟨p,⟨o,e⟩,st⟩:=x;exact⟨st _ _ p fun o q=>k _ _ (.inl rfl) q,⟨o,k _ _ (.inl rfl) e⟩,st⟩
theorem HOk.lt(x:HOk P w H h)(e:H a=some o):a<h.objs.size:=(x a o e).lt
theorem HOk.fresh(x:HOk P w H h)(e:h.objs.size<=a):H a=none:=by
 cases q:H a with
 | none=>rfl
 | some u=>exact absurd (w4 (x.lt q) e) (F7 _)
theorem HOk.kept(x:HOk P w H h)(k:∀b u,h.get? b=some u->h'.get? b=some u):HOk P w H h':=fun a o e=>
 (x a o e).stay (fun b u _ q=>k b u q) (fun _ q=>q) fun _ _ q=>q
theorem HOk.laid(x:HOk P w H h)(k:∀b u,h.get? b=some u->h'.get? b=some u)(hp:h.objs.size<=a)(new:Q7 P w (upd H a o) h' a o):HOk P w (upd H a o) h':=fun b u e=>by
 have hn:=x.fresh hp
 by_cases hb:b=a
 ·subst hb;rw[c9]at e;cases e;exact new
 ·rw[g6 hb]at e
  exact(x b u e).stay (fun c v _ q=>k c v q) (fun c q=>by rw[g6 (d5 q hn)];exact q) fun c xs q=>by rw[g6 (d5 q hn)];exact q
end
def Rd(H:Hp)(a:Addr)(u:HO):Prop:=H a=some u\/∃o,H a=some (.frz o u)
theorem Rd.ok{P:u4}{u:HO}(r:Rd H a u)(x:HOk P w H h):Q7 P w H h a u:=by
 rcases r with r | ⟨o,r⟩
 ·exact x a u r
 ·obtain⟨_,q⟩:=x a _ r
  exact q
def Mut:Option HO->Prop
 | some (.lst _)=>True
 | some (.dK _)=>True
 | some (.dT _)=>True
 | some (.set _ _)=>True
 | some (.ins _ _ _)=>True
 | some (.ext _)=>True
 | _=>False
section
variable {P:u4}{x e:Addr}{o':HO}
theorem HOk.write(ok:HOk P w H h)(mu:Mut (H x))(he:e=x\/H e=some (.own x))(k:∀b u,b≠e->h.get? b=some u->h'.get? b=some u)(heo:∃u,h'.get? e=some u)
  (new:Q7 P w (upd H x o') h' x o'):HOk P w (upd H x o') h':=fun b u q=>by
 have nown:∀c y,H c=some (.own y)->c≠x:=fun c y r z=>by subst z;rw[r]at mu;exact mu
 have ntup:∀c xs,H c=some (.tup xs)->c≠x:=fun c xs r z=>by subst z;rw[r]at mu;exact mu
 by_cases hb:b=x
 ·subst hb;rw[c9]at q;cases q;exact new
 ·rw[g6 hb]at q
  by_cases hbe:b=e
  ·have q':H b=some (.own x):=by
    rcases he with z | z
    ·exact absurd (hbe.trans z) hb
    ·rw[hbe];exact z
   rw[q]at q';cases q'
   obtain⟨v,hv⟩:=heo
   exact⟨v,by rw[hbe];exact hv⟩
  ·refine(ok b u q).stay (fun c v hc r=>k c v ?_ r) (fun c r=>by rw[g6 (nown c b r)];exact r) fun c xs r=>by rw[g6 (ntup c xs r)];exact r
   rcases hc with rfl | hc
   ·exact hbe
   ·rintro rfl
    rcases he with z | z
    ·exact nown c b hc z
    ·rw[hc]at z;cases z;exact hb rfl
end
structure Un(fs ex:List Addr)(H H':Hp)(h h':Heap):Prop where
 keep:∀b o,h.get? b=some o->H b=none->b∉fs->b∉ex->h'.get? b=some o
 slot:∀b o,h.get? b=some o->H b=none->b∈fs->b∉ex->∃sl,h'.get? b=some { o with slots:=sl }
 free:∀b o,h.get? b=some o->H b=none->b∉ex->H' b=none
 there:∀b o,h.get? b=some o->b∉ex->∃o',h'.get? b=some o'
 tups:∀b xs,H b=some (.tup xs)->H' b=some (.tup xs)
 frzs:∀b o u,H b=some (.frz o u)->H' b=some (.frz o u)
 tbls:∀b ps,H b=some (.tbl ps)->∃more,H' b=some (.tbl (ps++more))
section
variable {fs fs' ex ex':List Addr}{H1 H2:Hp}{h1 h2:Heap}{x e:Addr}
theorem Un.any(u:Un fs ex H H1 h h1){ob:Obj}(q:h.get? b=some ob)(n:H b=none)(hx:b∉ex):∃sl,h1.get? b=some { ob with slots:=sl }:=by
 by_cases hb:b∈fs
 ·exact u.slot b ob q n hb hx
 ·exact⟨ob.slots,u.keep b ob q n hb hx⟩
theorem Un.kept(k:∀b u,h.get? b=some u->h'.get? b=some u):Un fs ex H H h h':=
 ⟨fun b ob q _ _ _=>k b ob q,fun b ob q _ _ _=>⟨ob.slots,k b ob q⟩,fun _ _ _ n _=>n,fun b ob q _=>⟨ob,k b ob q⟩,fun _ _ q=>q,fun _ _ _ q=>q,fun _ ps q=>⟨#[],by rw[q];simp⟩⟩
theorem Un.refl:Un fs ex H H h h:=Un.kept fun _ _ q=>q
theorem Un.laid(k:∀b u,h.get? b=some u->h'.get? b=some u)(hp:h.objs.size<=a)(hn:H a=none):Un fs ex H (upd H a o) h h' where
 keep:=fun b u q _ _ _=>k b u q
 slot:=fun b u q _ _ _=>⟨u.slots,k b u q⟩
 free:=fun b u q n _=>by rw[g6 (j8 (w4 (d6 q) hp))];exact n
 there:=fun b u q _=>⟨u,k b u q⟩
 tups:=fun b xs q=>by rw[g6 (d5 q hn)];exact q
 frzs:=fun b u xs q=>by rw[g6 (d5 q hn)];exact q
 tbls:=fun b ps q=>⟨#[],by rw[g6 (d5 q hn),q];simp⟩
theorem Un.write(mu:Mut (H x))(he:e=x\/H e=some (.own x))(k:∀b u,b≠e->h.get? b=some u->h'.get? b=some u)(heo:∃u,h'.get? e=some u):Un fs ex H (upd H x o) h h':=by
 have hx:∀b,H b=none->b≠x:=fun b n z=>by subst z;rw[n]at mu;exact mu
 have hb:∀b,H b=none->b≠e:=fun b n z=>by
  subst z
  rcases he with r | r
  ·exact hx b n r
  ·rw[n]at r;cases r
 have hm:∀b u,H b=some u->¬Mut (some u)->b≠x:=fun b u q nm z=>by subst z;rw[q]at mu;exact nm mu
 refine⟨fun b u q n _ _=>k b u (hb b n) q,fun b u q n _ _=>⟨u.slots,k b u (hb b n) q⟩,fun b u q n _=>by rw[g6 (hx b n)];exact n,fun b u q _=>?_,
  fun b xs q=>by rw[g6 (hm b _ q fun z=>z)];exact q,fun b u xs q=>by rw[g6 (hm b _ q fun z=>z)];exact q,fun b ps q=>⟨#[],by rw[g6 (hm b _ q fun z=>z),q];simp⟩⟩
 by_cases hbe:b=e
 ·subst hbe;exact heo
 ·exact⟨u,k b u hbe q⟩
end
def trk(h:Heap)(H:Hp):List Addr:=(z5 h.objs.size).filter fun a=>(H a).isSome
def b1t(h:Heap)(H:Hp):Heap:=PySem.W.hideAll h (trk h H)
theorem b7j(h:Heap)(H:Hp):(b1t h H).objs.size=h.objs.size:=PySem.W.hideAll_size _ _
theorem b9Z{o:Obj}(e:h.get? b=some o)(n:H b=none):(b1t h H).get? b=some o:=
 PySem.W.hideAll_get _ e fun hm=>by
  have q:(H b).isSome=true:=(a4T.mp hm).2
  rw[n]at q;simp at q
theorem c2e{o:Obj}(e:(b1t h H).get? b=some o):h.get? b=some o/\H b=none:=by
 have e':h.get? b=some o:=PySem.W.of_hideAll (trk h H) e
 refine⟨e',?_⟩
 cases q:H b with
 | none=>rfl
 | some x=>
  have hm:b∈trk h H:=a4T.mpr ⟨a0d.mpr (d6 e'),by simp[q]⟩
  have z:(b1t h H).get? b=none:=PySem.W.hideAll_none (trk h H) hm
  rw[z]at e;cases e
def c2B(g h:Heap)(L:Addr):List (Addr×Obj):=(z5 h.objs.size).filterMap fun a=>if a=L\/(g.get? a).isSome=true then none else (h.get? a).map fun o=>(a,o)
def a4d(g h:Heap)(L d:Addr):List (Addr×Obj):=(c2B g h L).filter fun p=>decide (p.1≠d)
structure Mod(K:Fg)(mg:Str->Option Value)(base:Heap):Prop where
 kin:K.In base
 glob:base.Ns o8 mg
 blt:∃mb,base.Ns builtinsNs mb/\∀x:Str,x ≠ "__name__" -> mb x=R4 x
 nolimit:base.NoLimit
structure Cx where
 prog:u4
 w:World
 K:Fg
 mg:Str->Option Value
 base:Heap
 A:F2
 N:List Str
 s₀:d4
 H₀:Hp
 env:Env
 outer:List Env
 stack:List Env
 ex:List Addr
 fn:Str->Bool
 calm:Bool
 pn:List (Addr×Obj)
 xe:Value->d4->Prop
variable{X:Cx}
def frs(l:List Env):List Addr:=l.filterMap (·.frame)
abbrev Cx.fs(X:Cx):List Addr:=frs X.outer
def Vis(sc:Scope)(x:Str):Prop:=sc.names.lookup x=some .local\/sc.names.lookup x=some .cell\/sc.names.lookup x=some .free
def Loc(sc:Scope)(x:Str):Prop:=sc.names.lookup x=some .local\/sc.names.lookup x=some .cell
def c7M(env:Env)(h:Heap)(m:Str->Option Value)(x:Str)(u:Value):Prop:=
 (env.kindOf x=some .local/\m x=some u)\/((env.kindOf x=some .cell\/env.kindOf x=some .free)/\∃c,env.cells.lookup x=some c/\h.IsCell c (some u))
structure Cx.Ok(X:Cx):Prop where
 mod:Mod X.K X.mg X.base
 kind:X.env.scope.kind=.function
 glob:X.env.globals=o8
 blt:X.env.builtins=builtinsNs
 above:X.s₀.heap.objs.size<=X.env.locals
 inj:∀x y c,X.env.cells.lookup x=some c->X.env.cells.lookup y=some c->x=y
 has:∀x,(X.env.kindOf x=some .cell\/X.env.kindOf x=some .free)->∃c,X.env.cells.lookup x=some c
 cab:∀x c,X.fn x=true->X.env.cells.lookup x=some c->X.s₀.heap.objs.size<=c
 hd:X.calm=true->X.A.handled=none
 frames:X.A.frames=some X.stack
 stk:X.stack=X.outer\/(X.stack=X.env::X.outer/\X.env.frame=some X.env.locals)
 exf:∀b∈X.ex,b≠X.env.locals/\∀x c,X.env.cells.lookup x=some c->c≠b
 bs:∀b o,X.base.get? b=some o->X.s₀.heap.get? b=some o/\X.H₀ b=none
 bsz:X.base.objs.size<=X.s₀.heap.objs.size
 noex:∀b o,X.base.get? b=some o->b∉X.ex
 exfs:∀b∈X.ex,b∉X.fs
 funs:X.s₀.heap.FunFrames X.base X.outer
 frf:∀b∈X.fs,X.H₀ b=none
structure Inv(X:Cx)(pins:List (Addr×Obj))(σ:List (Option V))(H:Hp)(s:d4):Prop where
 ok:X.Ok
 os:s.os=X.s₀.os
 bare:b0E s.gens
 base:Un X.fs X.ex X.H₀ H X.s₀.heap s.heap
 loc:∃m,s.heap.Ns X.env.locals m/\∀(i:Nat) (x:Str) (v:V),X.N[i]? = some x->σ[i]? = some (some v)->Vis X.env.scope x->∃u,C7 v u/\c7M X.env s.heap m x u
 cell:∀x c,X.env.cells.lookup x=some c->∃v,s.heap.IsCell c v
 free:H X.env.locals=none
 freeC:∀x c,X.env.cells.lookup x=some c->H c=none
 pin:∀p∈X.pn++pins,s.heap.get? p.1=some p.2/\H p.1=none/\p.1≠X.env.locals/\p.1∉X.fs/\∀v,p.2.data≠.cell v
 hok:HOk X.prog X.w H s.heap
 len:σ.length=X.N.length
section
variable {σ:List (Option V)}
theorem Cx.Ok.nofr(ok:X.Ok){o:Obj}(e:X.base.get? b=some o):b∉X.fs:=fun hb=>by
 have:=(ok.funs.mem hb).1
 rw[e]at this;cases this
theorem Inv.bs(I:Inv X pins σ H s):∀b o,X.base.get? b=some o->s.heap.get? b=some o/\H b=none:=fun b o e=>
 ⟨I.base.keep b o (I.ok.bs b o e).1 (I.ok.bs b o e).2 (I.ok.nofr e) (I.ok.noex b o e),I.base.free b o (I.ok.bs b o e).1 (I.ok.bs b o e).2 (I.ok.noex b o e)⟩
theorem Inv.bk(I:Inv X pins σ H s):∀b o,X.base.get? b=some o->s.heap.get? b=some o:=fun b o e=>(I.bs b o e).1
theorem Inv.mod(I:Inv X pins σ H s):Mod X.K X.mg X.base:=I.ok.mod
theorem Inv.kIn(I:Inv X pins σ H s):X.K.In s.heap:=I.ok.mod.kin.keeps I.bk
theorem Inv.lt(I:Inv X pins σ H s):X.env.locals<s.heap.objs.size:=let⟨_,hn,_⟩:=I.loc;hn.lt
theorem Inv.sz(I:Inv X pins σ H s):X.s₀.heap.objs.size<=s.heap.objs.size:=A1 I.ok.above (a1q I.lt)
theorem Inv.nofs(I:Inv X pins σ H s)(h:s.heap.objs.size<=a):a∉X.fs:=fun hb=>by
 obtain⟨_,o,ho,_⟩:=I.ok.funs.mem hb
 exact absurd (w4 (d6 ho) (A1 I.sz h)) (F7 _)
theorem Inv.cne(I:Inv X pins σ H s):∀x c,X.env.cells.lookup x=some c->c≠X.env.locals:=fun x c e z=>by
 obtain⟨v,o,ho,hd⟩:=I.cell x c e
 obtain⟨m,⟨o',es,ep,ho',hd',_⟩,_⟩:=I.loc
 rw[z,ho']at ho;cases ho;rw[hd']at hd;cases hd
theorem Inv.funs(I:Inv X pins σ H s):s.heap.FunFrames X.base X.outer:=by
 have all:∀(l:List Env),(∀b∈frs l,b∈X.fs)->X.s₀.heap.FunFrames X.base l->s.heap.FunFrames X.base l:=by
  intro l
  induction l with
  | nil=>intro _ _;trivial
  | cons env r ih=>
   intro hs hl
   obtain⟨hk,⟨L,o,hf,hn,ho,hd⟩,hr⟩:=hl
   have hL:L∈X.fs:=hs L (by unfold frs;rw[a6E,hf];exact D4)
   obtain⟨sl,e⟩:=I.base.slot L o ho (I.ok.frf L hL) hL fun z=>I.ok.exfs L z hL
   exact⟨hk,⟨L,_,hf,hn,e,hd⟩,ih (fun b hb=>hs b (by unfold frs;rw[a6E,hf];exact D0 _ hb)) hr⟩
 exact all X.outer (fun _ hb=>hb) I.ok.funs
theorem Inv.stack(I:Inv X pins σ H s):s.heap.FunFrames X.base X.stack:=by
 rcases I.ok.stk with e | ⟨e,hf⟩
 ·rw[e];exact I.funs
 ·rw[e]
  obtain⟨m,hn,_⟩:=I.loc
  refine .cons (by rw[I.ok.kind];decide) hf hn ?_ I.funs
  exact Heap.get?_none_of_le (A1 I.ok.bsz I.ok.above)
theorem Inv.stkSub(I:Inv X pins σ H s):∀b∈frs X.stack,b∈X.env.locals::X.fs:=fun b hb=>by
 rcases I.ok.stk with e | ⟨e,hf⟩
 ·rw[e]at hb;exact D0 _ hb
 ·rw[e]at hb
  unfold frs at hb
  rw[a6E,hf]at hb
  exact hb
theorem Inv.stkFree(I:Inv X pins σ H s):∀b∈frs X.stack,H b=none:=fun b hb=>by
 rcases d8.mp (I.stkSub b hb)with e | hb
 ·rw[e];exact I.free
 ·obtain⟨_,o,ho,_⟩:=I.ok.funs.mem hb
  exact I.base.free b o ho (I.ok.frf b hb) fun z=>I.ok.exfs b z hb
theorem Inv.step{g':Array GenState}{t':Nat}{d':Drawn}{ch:List Addr}(I:Inv X pins σ H s)
  (hch:∀b∈ch,(b∈X.ex\/X.s₀.heap.objs.size<=b)/\b≠X.env.locals/\(∀x c,X.env.cells.lookup x=some c->c≠b)/\∀p∈X.pn++pins,p.1≠b)
  (keep:∀b o,b≠X.env.locals->b∉X.fs->b∉ch->s.heap.get? b=some o->H b=none->h'.get? b=some o)
  (slot:∀b o,b≠X.env.locals->b∈X.fs->b∉ch->s.heap.get? b=some o->H b=none->∃sl,h'.get? b=some { o with slots:=sl }) (free:∀b o,b∉ch->s.heap.get? b=some o->H b=none->H' b=none)
  (there:∀b o,b∉ch->s.heap.get? b=some o->∃o',h'.get? b=some o')
  (tups:∀b xs,H b=some (.tup xs)->H' b=some (.tup xs)) (frzs:∀b o u,H b=some (.frz o u)->H' b=some (.frz o u)) (tbls:∀b ps,H b=some (.tbl ps)->∃more,H' b=some (.tbl (ps++more)))
  (ns:∀m,s.heap.Ns X.env.locals m->h'.Ns X.env.locals m) (hok:HOk X.prog X.w H' h') (hg:b0E g') :
  Inv X pins σ H' { s with heap:=h',gens:=g',drawn:=d',toks:=t' }:=by
 have neL:∀b o,X.s₀.heap.get? b=some o->b≠X.env.locals:=fun b o e=>j8 (w4 (d6 e) I.ok.above)
 have neC:∀b o,X.s₀.heap.get? b=some o->b∉X.ex->b∉ch:=fun b o e hx hb=>by
  rcases(hch b hb).1 with z | z
  ·exact hx z
  ·exact absurd (w4 (d6 e) z) (F7 _)
 have cellK:∀x c,X.env.cells.lookup x=some c->∀v,s.heap.IsCell c v->h'.IsCell c v:=fun x c e v ⟨o,ho,hd⟩=>by
  have nch:c∉ch:=fun z=>(hch c z).2.2.1 x c e rfl
  by_cases hc:c∈X.fs
  ·obtain⟨sl,q⟩:=slot c o (I.cne x c e) hc nch ho (I.freeC x c e)
   exact⟨_,q,hd⟩
  ·exact⟨o,keep c o (I.cne x c e) hc nch ho (I.freeC x c e),hd⟩
 refine⟨I.ok,I.os,hg,⟨fun b o e n hb hx=>?_,fun b o e n hb hx=>?_,fun b o e n hx=>?_,fun b o e hx=>?_,fun b xs e=>tups b xs (I.base.tups b xs e),fun b o xs e=>frzs b o xs (I.base.frzs b o xs e),fun b ps e=>?_⟩,?_,fun x c e=>?_,?_,fun x c e=>?_,fun p hp=>?_,hok,I.len⟩
 ·exact keep b o (neL b o e) hb (neC b o e hx) (I.base.keep b o e n hb hx) (I.base.free b o e n hx)
 ·obtain⟨sl,e1⟩:=I.base.slot b o e n hb hx
  obtain⟨sl',e2⟩:=slot b _ (neL b o e) hb (neC b o e hx) e1 (I.base.free b o e n hx)
  exact⟨sl',e2⟩
 ·obtain⟨o',e1⟩:=I.base.there b o e hx
  exact free b o' (neC b o e hx) e1 (I.base.free b o e n hx)
 ·obtain⟨o',e1⟩:=I.base.there b o e hx
  exact there b o' (neC b o e hx) e1
 ·obtain⟨m1,e1⟩:=I.base.tbls b ps e
  obtain⟨m2,e2⟩:=tbls b _ e1
  exact⟨m1++m2,by rw[e2,Array.append_assoc]⟩
 ·obtain⟨m,hn,hl⟩:=I.loc
  refine⟨m,ns m hn,fun i x v e1 e2 e3=>?_⟩
  obtain⟨u,r,l⟩:=hl i x v e1 e2 e3
  refine⟨u,r,?_⟩
  rcases l with l | ⟨k,c,e,z⟩
  ·exact .inl l
  ·exact .inr ⟨k,c,e,cellK x c e _ z⟩
 ·obtain⟨v,z⟩:=I.cell x c e
  exact⟨v,cellK x c e v z⟩
 ·obtain⟨m,⟨o,_,_,ho,_⟩,_⟩:=I.loc
  exact free _ o (fun z=>(hch _ z).2.1 rfl) ho I.free
 ·obtain⟨v,o,ho,hd⟩:=I.cell x c e
  exact free c o (fun z=>(hch c z).2.2.1 x c e rfl) ho (I.freeC x c e)
 ·obtain⟨e,n,ne,nf,d⟩:=I.pin p hp
  have nch:p.1∉ch:=fun z=>(hch p.1 z).2.2.2 p hp rfl
  exact⟨keep p.1 p.2 ne nf nch e n,free p.1 p.2 nch e n,ne,nf,d⟩
theorem Inv.un(I:Inv X pins σ H s)(u:Un X.fs [] H H' s.heap h')(hok:HOk X.prog X.w H' h'):Inv X pins σ H' { s with heap:=h',toks:=t' }:=by
 obtain⟨m,⟨o,es,ep,ho,r⟩,_⟩:=id I.loc
 obtain⟨sl,hL⟩:=u.any ho I.free (by simp)
 exact I.step (g':=s.gens) (d':=s.drawn) (ch:=[]) (fun _ z=>nomatch z) (fun b o _ hb _ e n=>u.keep b o e n hb (by simp)) (fun b o _ hb _ e n=>u.slot b o e n hb (by simp)) (fun b o _ e n=>u.free b o e n (by simp)) (fun b o _ e=>u.there b o e (by simp)) u.tups u.frzs u.tbls (fun m' hm=>by
  obtain⟨o',es',ep',ho',r'⟩:=hm
  rw[ho]at ho';cases ho'
  exact⟨_,es',ep',hL,r'⟩) hok I.bare
theorem Inv.call{g':Array GenState}{d':Drawn}{ch:List Addr}(I:Inv X pins σ H s)(u:Un (frs X.stack) ch H H' s.heap h')(hok:HOk X.prog X.w H' h')(hg:b0E g')
  (hch:∀b∈ch,(b∈X.ex\/X.s₀.heap.objs.size<=b)/\b≠X.env.locals/\(∀x c,X.env.cells.lookup x=some c->c≠b)/\∀p∈X.pn++pins,p.1≠b) :
  Inv X pins σ H' { s with heap:=h',gens:=g',drawn:=d',toks:=t' }:=by
 obtain⟨m,⟨o,es,ep,ho,r⟩,_⟩:=id I.loc
 obtain⟨sl,hL⟩:=u.any ho I.free fun z=>(hch _ z).2.1 rfl
 exact I.step (ch:=ch) hch (fun b o hL hb hc e n=>u.keep b o e n (fun z=>(d8.mp (I.stkSub b z)).elim hL hb) hc) (fun b o _ _ hc e n=>u.any e n hc) (fun b o hc e n=>u.free b o e n hc) (fun b o hc e=>u.there b o e hc) u.tups u.frzs u.tbls (fun m' hm=>by
  obtain⟨o',es',ep',ho',r'⟩:=hm
  rw[ho]at ho';cases ho'
  exact⟨_,es',ep',hL,r'⟩) hok hg
theorem Inv.turned{it:Addr}(I:Inv X pins σ H s)(k:∀b o,b≠it->s.heap.get? b=some o->h'.get? b=some o)(hn:H it=none)(hL:it≠X.env.locals)
  (h1:it∈X.ex\/X.s₀.heap.objs.size<=it) (h2:∀x c,X.env.cells.lookup x=some c->c≠it) (h3:∀p∈X.pn++pins,p.1≠it):Inv X pins σ H { s with heap:=h',toks:=t' }:=by
 have nit:∀b u,H b=some u->b≠it:=fun b u e z=>by rw[z,hn]at e;cases e
 refine I.step (g':=s.gens) (d':=s.drawn) (ch:=[it]) (fun b hb=>?_) (fun b o _ _ hc e _=>k b o (fun z=>hc (by simp[z])) e) (fun b o _ _ hc e _=>⟨o.slots,k b o (fun z=>hc (by simp[z])) e⟩) (fun _ _ _ _ n=>n)
  (fun b o hc e=>⟨o,k b o (fun z=>hc (by simp[z])) e⟩) (fun _ _ e=>e) (fun _ _ _ e=>e) (fun b ps e=>⟨#[],by rw[e];simp⟩) (fun m hm=>?_) (fun b u e=>?_) I.bare
 ·have e:b=it:=by simpa using hb
  subst e
  exact⟨h1,hL,h2,h3⟩
 ·obtain⟨o,es,ep,ho,r⟩:=hm
  exact⟨o,es,ep,k _ o (Ne.symm hL) ho,r⟩
 ·refine(I.hok b u e).stay (fun c v hc q=>k c v ?_ q) (fun _ q=>q) fun _ _ q=>q
  rcases hc with z | z
  ·rw[z];exact nit b u e
  ·exact nit c _ z
theorem Inv.tok(I:Inv X pins σ H s)(t:Nat):Inv X pins σ H { s with toks:=t }:=I.un (h':=s.heap) (t':=t) Un.refl I.hok
theorem Inv.kept(I:Inv X pins σ H s)(k:∀b u,s.heap.get? b=some u->h'.get? b=some u):Inv X pins σ H { s with heap:=h',toks:=t' }:=I.un (Un.kept k) (I.hok.kept k)
theorem Inv.laid(I:Inv X pins σ H s)(k:∀b u,s.heap.get? b=some u->h'.get? b=some u)(hp:s.heap.objs.size<=a)(new:Q7 X.prog X.w (upd H a o) h' a o) :
  Inv X pins σ (upd H a o) { s with heap:=h',toks:=t' }:=I.un (Un.laid k hp (I.hok.fresh hp)) (I.hok.laid k hp new)
theorem Inv.write{x e:Addr}(I:Inv X pins σ H s)(mu:Mut (H x))(he:e=x\/H e=some (.own x))(k:∀b u,b≠e->s.heap.get? b=some u->h'.get? b=some u)(heo:∃u,h'.get? e=some u)
  (new:Q7 X.prog X.w (upd H x o) h' x o):Inv X pins σ (upd H x o) { s with heap:=h',toks:=t' }:=I.un (Un.write mu he k heo) (I.hok.write mu he k heo new)
theorem Inv.weak{σ':List (Option V)}(I:Inv X pins σ H s)(hl:σ'.length=σ.length)(w:∀(i:Nat) v,σ'[i]? = some (some v)->σ[i]? = some (some v)):Inv X pins σ' H s:=
 ⟨I.ok,I.os,I.bare,I.base,let⟨m,hn,hl'⟩:=I.loc; ⟨m,hn,fun i x v e1 e2 e3=>hl' i x v e1 (w i v e2) e3⟩,I.cell,I.free,I.freeC,I.pin,I.hok,hl.trans I.len⟩
theorem Inv.pins_of{pins':List (Addr×Obj)}(I:Inv X pins σ H s)(h:∀p∈pins',s.heap.get? p.1=some p.2/\H p.1=none/\p.1≠X.env.locals/\p.1∉X.fs/\∀v,p.2.data≠.cell v):Inv X pins' σ H s:=
 ⟨I.ok,I.os,I.bare,I.base,I.loc,I.cell,I.free,I.freeC,fun p hp=>(h9.mp hp).elim (fun z=>I.pin p (E8 _ z)) (h p),I.hok,I.len⟩
theorem b2P{N:List Str}(hN:N.Nodup){j:Nat}{x:Str}(a:N[i]? = some x)(b:N[j]? = some x):i=j:=by
 obtain⟨h1,e1⟩:=j6.mp a
 obtain⟨h2,e2⟩:=j6.mp b
 exact(List.getElem_inj hN).mp (e1.trans e2.symm)
theorem b0b{M:Model}{A:F2}{E:Value->d4->Prop}{x:Str}{Q:Unit->d4->Prop}(I:Inv X pins σ H s)(hN:X.N.Nodup)(hi:X.N[i]? = some x)(hx:Loc X.env.scope x)(r:C7 v u)
  (h:∀s',Inv X pins (σ.set i (some v)) H s'->(∃a,Heap.SameBut a s.heap s'.heap/\(a=X.env.locals\/X.env.cells.lookup x=some a))->Q () s') (hf:X.fn x=true\/X.env.scope.names.lookup x=some .local:=by first | exact .inl rfl | exact .inr rfl | assumption):wpAny M A (storeName X.env x u) Q E s:=by
 obtain⟨m,hn,hl⟩:=id I.loc
 have hcls:(X.env.scope.kind == .class||(X.env.scope.kind == .module&&X.env.locals != X.env.globals))=false:=by rw[I.ok.kind];rfl
 have hiσ:i<σ.length:=by rw[I.len];exact(j6.mp hi).1
 have cne:=I.cne
 have tracked:∀ {a:Addr} {h':Heap},(∃o,s.heap.get? a=some o/\H a=none)->Heap.SameBut a s.heap h'->HOk X.prog X.w H h':=fun {a h'} ha hs b ob e=>by
  obtain⟨_,_,hfree⟩:=ha
  refine(I.hok b ob e).stay (fun c w' hc q=>(hs.2 c ?_).trans q) (fun _ q=>q) fun _ _ q=>q
  rintro rfl
  rcases hc with rfl | hc
  ·rw[hfree]at e;cases e
  ·rw[hfree]at hc;cases hc
 rcases hx with hk | hk
 ·refine wpAny_storeName_local hk hn (fun h' hn' hs=>?_) hcls
  obtain⟨oL,_,_,hoL,_⟩:=id hn
  refine h _ ⟨I.ok,I.os,I.bare,⟨fun b o e n hb hx=>?_,fun b o e n hb hx=>?_,I.base.free,fun b o e hx=>?_,I.base.tups,I.base.frzs,I.base.tbls⟩,⟨_,hn',fun j y v' e1 e2 e3=>?_⟩,fun y c e=>?_,I.free,I.freeC,fun p hp=>?_,tracked ⟨oL,hoL,I.free⟩ hs,by simpa using I.len⟩ ⟨_,hs,.inl rfl⟩
  ·exact(hs.2 b (j8 (w4 (d6 e) I.ok.above))).trans (I.base.keep b o e n hb hx)
  ·obtain⟨sl,e1⟩:=I.base.slot b o e n hb hx
   exact⟨sl,(hs.2 b (j8 (w4 (d6 e) I.ok.above))).trans e1⟩
  ·obtain⟨o',e1⟩:=I.base.there b o e hx
   exact⟨o',(hs.2 b (j8 (w4 (d6 e) I.ok.above))).trans e1⟩
  ·by_cases hj:j=i
   ·subst hj
    rw[hi]at e1;cases e1
    rw[I0 hiσ]at e2
    cases e2
    exact⟨u,r,.inl ⟨hk,by simp⟩⟩
   ·rw[K7 (Ne.symm hj)]at e2
    obtain⟨u',r',q⟩:=hl j y v' e1 e2 e3
    refine⟨u',r',?_⟩
    rcases q with ⟨k,e⟩ | ⟨k,c,e,z⟩
    ·refine .inl ⟨k,?_⟩
     have:y≠x:=fun e=>hj (b2P hN e1 (e ▸ hi))
     simp[this,e]
    ·exact .inr ⟨k,c,e,z.sameBut hs (cne y c e)⟩
  ·obtain⟨w',z⟩:=I.cell y c e
   exact⟨w',z.sameBut hs (cne y c e)⟩
  ·obtain⟨e,n,ne,nf,d⟩:=I.pin p hp
   exact⟨(hs.2 p.1 ne).trans e,n,ne,nf,d⟩
 ·have hfn:X.fn x=true:=by
   rcases hf with z | z
   ·exact z
   ·rw[z]at hk;cases hk
  obtain⟨c,hc⟩:=I.ok.has x (.inl hk)
  obtain⟨w',z⟩:=I.cell x c hc
  refine wpAny_storeName_cell I.ok.kind hk hc z (fun h' hc' hs=>?_)
  obtain⟨oc,hoc,hocd⟩:=id z
  refine h { s with heap:=h' } ⟨I.ok,I.os,I.bare,⟨fun b o e n hb hx=>?_,fun b o e n hb hx=>?_,I.base.free,fun b o e hx=>?_,I.base.tups,I.base.frzs,I.base.tbls⟩,⟨m,hn.sameBut hs (Ne.symm (cne x c hc)),fun j y v' e1 e2 e3=>?_⟩,fun y c' e=>?_,I.free,I.freeC,fun p hp=>?_,tracked ⟨oc,hoc,I.freeC x c hc⟩ hs,by simpa using I.len⟩ ⟨c,hs,.inr hc⟩
  ·exact(hs.2 b (j8 (w4 (d6 e) (I.ok.cab x c hfn hc)))).trans (I.base.keep b o e n hb hx)
  ·obtain⟨sl,e1⟩:=I.base.slot b o e n hb hx
   exact⟨sl,(hs.2 b (j8 (w4 (d6 e) (I.ok.cab x c hfn hc)))).trans e1⟩
  ·obtain⟨o',e1⟩:=I.base.there b o e hx
   exact⟨o',(hs.2 b (j8 (w4 (d6 e) (I.ok.cab x c hfn hc)))).trans e1⟩
  ·by_cases hj:j=i
   ·subst hj
    rw[hi]at e1;cases e1
    rw[I0 hiσ]at e2
    cases e2
    exact⟨u,r,.inr ⟨.inl hk,c,hc,hc'⟩⟩
   ·rw[K7 (Ne.symm hj)]at e2
    obtain⟨u',r',q⟩:=hl j y v' e1 e2 e3
    refine⟨u',r',?_⟩
    rcases q with q | ⟨k,c',e,z'⟩
    ·exact .inl q
    ·refine .inr ⟨k,c',e,z'.sameBut hs ?_⟩
     rintro rfl
     exact hj (b2P hN e1 (I.ok.inj _ _ _ e hc ▸ hi))
  ·by_cases hcc:c'=c
   ·subst hcc;exact⟨_,hc'⟩
   ·obtain⟨w2,z2⟩:=I.cell y c' e
    exact⟨w2,z2.sameBut hs hcc⟩
  ·obtain⟨e,n,ne,nf,d⟩:=I.pin p hp
   refine⟨(hs.2 p.1 ?_).trans e,n,ne,nf,d⟩
   intro q
   rw[q,hoc]at e
   have q':oc=p.2:=Option.some.inj e
   exact d w' (by rw[<-q'];exact hocd)
theorem a6b{M:Model}{A:F2}{E:Value->d4->Prop}{x:Str}{Q:Unit->d4->Prop}(I:Inv X pins σ H s)(hN:X.N.Nodup)(hi:X.N[i]? = some x)(hx:Loc X.env.scope x)(r:C7 v u)
  (h:∀s',Inv X pins (σ.set i (some v)) H s'->Q () s') (hf:X.fn x=true\/X.env.scope.names.lookup x=some .local:=by first | exact .inl rfl | exact .inr rfl | assumption):wpAny M A (storeName X.env x u) Q E s:=
 b0b I hN hi hx r (fun s' I' _=>h s' I') hf
theorem Inv.call'{s':d4}{ch:List Addr}(I:Inv X pins σ H s)(ho:s'.os=s.os)(u:Un (frs X.stack) ch H H' s.heap s'.heap)(hok:HOk X.prog X.w H' s'.heap)(hg:b0E s'.gens)
  (hch:∀b∈ch,(b∈X.ex\/X.s₀.heap.objs.size<=b)/\b≠X.env.locals/\(∀x c,X.env.cells.lookup x=some c->c≠b)/\∀p∈X.pn++pins,p.1≠b):Inv X pins σ H' s':=by
 obtain⟨h',g',d',t',o'⟩:=s'
 have e:o'=s.os:=ho
 subst e
 exact I.call (g':=g') (t':=t') (d':=d') u hok hg hch
end
abbrev XK:=Value->Option Addr->Hp->Prop
abbrev St:=List (Option V)
variable{σ:St}
abbrev VK:=V->Hp->Prop
abbrev TE:=St->Hp->VK->Prop
variable{ta te:TE}
abbrev TT:=St->Hp->(Bool->Hp->Prop)->Prop
abbrev TA:=St->Hp->(List V->Hp->Prop)->Prop
structure a7f where
 nx:St->Hp->Prop
 rt:VK
 bk:St->Hp->Prop:=fun _ _=>False
 ct:St->Hp->Prop:=fun _ _=>False
abbrev TS:=a7f->St->Hp->Prop
variable{tb:TS}
def EP(X:Cx)(pins:List (Addr×Obj))(σ:St)(Q:VK)(u:Value)(s':d4):Prop:=∃v H',Inv X pins σ H' s'/\C7 v u/\Q v H'
def TP(X:Cx)(pins:List (Addr×Obj))(σ:St)(Q:Bool->Hp->Prop)(b:Bool)(s':d4):Prop:=∃H',Inv X pins σ H' s'/\Q b H'
def AP(X:Cx)(pins:List (Addr×Obj))(σ:St)(Q:List V->Hp->Prop)(us:List Value)(s':d4):Prop:=∃vs H',Inv X pins σ H' s'/\E6 vs us/\Q vs H'
def SP(X:Cx)(pins:List (Addr×Obj))(D:a7f)(f:Flow)(s':d4):Prop:=
 match f with
 | .next=>∃σ' H',Inv X pins σ' H' s'/\D.nx σ' H'
 | .brk=>∃σ' H',Inv X pins σ' H' s'/\D.bk σ' H'
 | .cont=>∃σ' H',Inv X pins σ' H' s'/\D.ct σ' H'
 | .ret u=>∃v σ' H',Inv X pins σ' H' s'/\C7 v u/\D.rt v H'
def PE(X:Cx)(e:Expr)(t:TE):Prop:=
 ∀(pins:List (Addr×Obj)) (s:d4) (σ:St) (H:Hp) (Q:VK),Inv X pins σ H s->t σ H Q->wpAny (model X.prog X.w) X.A (eval e X.env) (EP X pins σ Q) X.xe s
def PT(X:Cx)(e:Expr)(t:TT):Prop:=
 ∀(pins:List (Addr×Obj)) (s:d4) (σ:St) (H:Hp) (Q:Bool->Hp->Prop),Inv X pins σ H s->t σ H Q->wpAny (model X.prog X.w) X.A (isTrue e X.env (eval e X.env)) (TP X pins σ Q) X.xe s
def PW(X:Cx)(e:Expr)(t:TT):Prop:=
 ∀(whole:Sem Value) (pins:List (Addr×Obj)) (s:d4) (σ:St) (H:Hp) (Q:Bool->Hp->Prop),Inv X pins σ H s->t σ H Q->wpAny (model X.prog X.w) X.A (isTrue e X.env whole) (TP X pins σ Q) X.xe s
theorem PW.pt{t:TT}(h:PW X e t):PT X e t:=h _
def PA(X:Cx)(es:List Expr)(t:TA):Prop:=
 ∀(pos:Pos) (pins:List (Addr×Obj)) (s:d4) (σ:St) (H:Hp) (Q:List V->Hp->Prop),Inv X pins σ H s->t σ H Q->wpAny (model X.prog X.w) X.A (spliced (W7 pos (d9 es X.env))) (AP X pins σ Q) X.xe s
def PS(X:Cx)(st:Stmt)(t:TS):Prop:=
 ∀(pins:List (Addr×Obj)) (s:d4) (σ:St) (H:Hp) (D:a7f),Inv X pins σ H s->t D σ H->wpAny (model X.prog X.w) X.A (exec st X.env) (SP X pins D) X.xe s
def PSs(X:Cx)(st:List Stmt)(t:TS):Prop:=
 ∀(pins:List (Addr×Obj)) (s:d4) (σ:St) (H:Hp) (D:a7f),Inv X pins σ H s->t D σ H->wpAny (model X.prog X.w) X.A (execs st X.env) (SP X pins D) X.xe s
theorem thn{α:Type}{t:Sem α}{Q Q':α->d4->Prop}{M:Model}{A:F2}{E:Value->d4->Prop}(h:wpAny M A t Q E s)(hQ:∀a s,Q a s->Q' a s):wpAny M A t Q' E s:=V2 h hQ fun _ _ x=>x
section
def c4(i:Nat):TE:=fun σ H Q=>∃v,σ[i]? = some (some v)/\Q v H
def tC(v:V):TE:=fun _ H Q=>Q v H
theorem c4t{x:Str}(hN:X.N[i]? = some x)(hv:Vis X.env.scope x)(hd:(x == ("__debug__" : Str))=false:=by decide)(hcd:(x == ("__classdict__" : Str))=false:=by decide):PE X (.Name x pos) (c4 i):=by
 intro pins s σ H Q I h
 obtain⟨v,e,h⟩:=h
 obtain⟨m,hn,hl⟩:=I.loc
 obtain⟨u,r,l⟩:=hl i x v hN e hv
 have fin:EP X pins σ Q u s:=⟨v,H,I,r,h⟩
 rcases l with ⟨hk,hm⟩ | ⟨hk,c,hc,hcell⟩
 ·exact wpAny_Name (c7m I.ok.kind hk hn hm fin) hd
 ·rcases hk with hk | hk
  ·exact wpAny_Name (c7o I.ok.kind hk hc hcell fin) hd
  ·exact wpAny_Name (wpAny_loadName_free I.ok.kind hk hc hcell fin hcd) hd
theorem c4C{i j pos}:PE X (.Constant (.int i) j pos) (tC (.int i)):=fun _ _ _ H _ I h=>wpAny_Constant_int ⟨.int i,H,I.tok _,⟨_,rfl⟩,h⟩
theorem c6K{b j pos}:PE X (.Constant (.bool b) j pos) (tC (.bl b)):=fun _ _ _ H _ I h=>Constant_bool ⟨.bl b,H,I,rfl,h⟩
theorem c4z{j pos}:PE X (.Constant .none j pos) (tC .non):=fun _ _ _ H _ I h=>Constant_none ⟨.non,H,I,rfl,h⟩
theorem c4v{x j pos}:PE X (.Constant (.str x) j pos) (tC (.str x)):=fun _ _ _ H _ I h=>Calls.Constant_str ⟨.str x,H,I.tok _,⟨_,rfl⟩,h⟩
def Gl(X:Cx)(x:Str):Prop:=X.env.kindOf x=some .globalImplicit
theorem b1p{E:Value->d4->Prop}{x:Str}(I:Inv X pins σ H s)(hg:Gl X x)(hm:X.mg x=some u)(h:Q u s)
  (hd:(x == ("__debug__" : Str))=false:=by decide):wpAny (model X.prog X.w) X.A (eval (.Name x pos) X.env) Q E s:=
 Calls.Name_function_global I.ok.kind hg (Calls.loadGlobal_global (by rw[I.ok.glob];exact I.mod.glob.keeps I.bk) hm h) hd
theorem a4m{E:Value->d4->Prop}{x:Str}(I:Inv X pins σ H s)(hg:Gl X x)(hm:X.mg x=none)(hv:R4 x=some u)(h:Q u s)
  (hn:x ≠ "__name__" := by decide) (hd:(x == ("__debug__" : Str))=false:=by decide):wpAny (model X.prog X.w) X.A (eval (.Name x pos) X.env) Q E s:=by
 obtain⟨mb,h1,h2⟩:=I.mod.blt
 exact Calls.Name_function_global I.ok.kind hg (Calls.loadGlobal_builtin (by rw[I.ok.glob];exact I.mod.glob.keeps I.bk) hm (by rw[I.ok.blt];exact h1.keeps I.bk) ((h2 x hn).trans hv) h) hd
theorem c1F{x:Str}(hg:Gl X x)(hm:X.mg x=some u)(r:C7 v u)(hd:(x == ("__debug__" : Str))=false:=by decide):PE X (.Name x pos) (tC v):=
 fun _ _ _ H _ I h=>b1p I hg hm ⟨v,H,I,r,h⟩ hd
theorem c1L{x:Str}(hg:Gl X x)(hm:X.mg x=none)(hv:R4 x=some u)(r:C7 v u)(hn:x ≠ "__name__" := by decide)(hd:(x == ("__debug__" : Str))=false:=by decide):PE X (.Name x pos) (tC v):=
 fun _ _ _ H _ I h=>a4m I hg hm hv ⟨v,H,I,r,h⟩ hn hd
variable {a b:Expr}{tb:TE}
def PC(X:Cx)(op:CmpOp)(a b:Expr)(t:TE):Prop:=
 ∀(pins:List (Addr×Obj)) (s:d4) (σ:St) (H:Hp) (Q:VK),Inv X pins σ H s->t σ H Q ->
  wpAny (model X.prog X.w) X.A (eval a X.env) (fun v s₁=>wpAny (model X.prog X.w) X.A (eval b X.env) (fun u s₂=>wpAny (model X.prog X.w) X.A (o9 op v u) (EP X pins σ Q) X.xe s₂) X.xe s₁) X.xe s
def tB(t:TE):TT:=fun σ H Q=>t σ H fun x H1=>∃c,x=.bl c/\Q c H1
theorem c4E{op:CmpOp}{t:TE}(h:PC X op a b t)(h1:O4 op b=false:=by first | exact nobehind _ (by decide) (by decide) | rfl):PE X (.Compare a [op] [b] pos) t:=fun pins s σ H Q I hw=>wpAny_Compare1 (h pins s σ H Q I hw) h1
theorem b9g{op:CmpOp}{t:TE}(h:PC X op a b t)(h1:O4 op b=false:=by first | exact nobehind _ (by decide) (by decide) | rfl):PT X (.Compare a [op] [b] pos) (tB t):=by
 intro pins s σ H Q I hw
 refine c5T (thn (h pins s σ H _ I hw) fun v s1 h1=>thn h1 fun u s2 h2=>thn h2 fun c s3 ⟨x,H1,I1,r1,q1⟩=>?_) h1
 obtain⟨d,rfl,q⟩:=q1
 cases r1
 exact J8 ⟨H1,I1,q⟩
theorem c4j{t:TE}(h:PE X e t)(he:∀whole,isTrue e X.env whole=(do let v <-whole;a7T e.pos;a0A [v] (truthy v)):=by intro _;rfl):PT X e (tB t):=by
 intro pins s σ H Q I hw
 refine isTrue_plain (thn (h pins s σ H _ I hw) fun v s1 ⟨x,H1,I1,r1,q1⟩=>?_) (he _)
 obtain⟨d,rfl,q⟩:=q1
 cases r1
 exact J8 ⟨H1,I1,q⟩
variable {tA tB':TT}{a4d:List Expr}
def b2m(t u:TT):TT:=fun σ H Q=>t σ H fun c H1=>if c=true then u σ H1 Q else Q false H1
def tOr(t u:TT):TT:=fun σ H Q=>t σ H fun c H1=>if c=true then Q true H1 else u σ H1 Q
def a3Z(t:TT):TT:=fun σ H Q=>t σ H fun c H1=>Q (!c) H1
theorem c1l(ha:PT X a tA):PW X (.BoolOp .And [a] pos) tA:=by
 intro wh pins s σ H Q I h
 refine isTrue_and (thn (ha pins s σ H Q I h) fun c s1 e=>?_)
 cases c with
 | true=>exact isTrue_and_nil e
 | false=>exact e
theorem c4h(ha:PT X a tA):PW X (.BoolOp .Or [a] pos) tA:=by
 intro wh pins s σ H Q I h
 refine isTrue_or (thn (ha pins s σ H Q I h) fun c s1 e=>?_)
 cases c with
 | false=>exact isTrue_or_nil e
 | true=>exact e
theorem c4i(ha:PT X a tA)(hb:PW X (.BoolOp .And (b::a4d) pos) tB'):PW X (.BoolOp .And (a::b::a4d) pos) (b2m tA tB'):=by
 intro wh pins s σ H Q I h
 refine isTrue_and (thn (ha pins s σ H _ I h) fun c s1 ⟨H1,I1,q1⟩=>?_)
 cases c with
 | true=>exact hb wh pins s1 σ H1 Q I1 q1
 | false=>exact⟨H1,I1,q1⟩
theorem c6A(ha:PT X a tA)(hb:PW X (.BoolOp .Or (b::a4d) pos) tB'):PW X (.BoolOp .Or (a::b::a4d) pos) (tOr tA tB'):=by
 intro wh pins s σ H Q I h
 refine isTrue_or (thn (ha pins s σ H _ I h) fun c s1 ⟨H1,I1,q1⟩=>?_)
 cases c with
 | true=>exact⟨H1,I1,q1⟩
 | false=>exact hb wh pins s1 σ H1 Q I1 q1
theorem c4k(ha:PT X a tA):PT X (.UnaryOp .Not a pos) (a3Z tA):=by
 intro pins s σ H Q I h
 exact isTrue_not (ha pins s σ H (fun c H1=>Q (!c) H1) I h)
def a0B(ta tb:TE):TE:=fun σ H Q=>ta σ H fun x H1=>∃c,x=.bl c/\if c=true then tb σ H1 Q else Q (.bl false) H1
def c0U(ta tb:TE):TE:=fun σ H Q=>ta σ H fun x H1=>∃c,x=.bl c/\if c=true then Q (.bl true) H1 else tb σ H1 Q
def b2k(ta:TE):TE:=fun σ H Q=>ta σ H fun x H1=>∃c,x=.bl c/\Q (.bl (!c)) H1
theorem c4x{op}{t:TE}(h:PE X a t):PE X (.BoolOp op [a] pos) t:=fun pins s σ H Q I hw=>BoolOp_one (h pins s σ H Q I hw)
theorem c4G(ha:PE X a ta)(hb:PE X (.BoolOp .And (b::a4d) pos) tb):PE X (.BoolOp .And (a::b::a4d) pos) (a0B ta tb):=by
 intro pins s σ H Q I h
 refine BoolOp_and (thn (ha pins s σ H _ I h) fun v s1 ⟨x,H1,I1,r1,q1⟩=>?_)
 obtain⟨c,rfl,q1⟩:=q1
 cases r1
 refine J8 ?_
 cases c with
 | true=>exact hb pins s1 σ H1 Q I1 q1
 | false=>exact⟨.bl false,H1,I1,rfl,q1⟩
theorem c6E(ha:PE X a ta)(hb:PE X (.BoolOp .Or (b::a4d) pos) tb):PE X (.BoolOp .Or (a::b::a4d) pos) (c0U ta tb):=by
 intro pins s σ H Q I h
 refine BoolOp_or (thn (ha pins s σ H _ I h) fun v s1 ⟨x,H1,I1,r1,q1⟩=>?_)
 obtain⟨c,rfl,q1⟩:=q1
 cases r1
 refine J8 ?_
 cases c with
 | false=>exact hb pins s1 σ H1 Q I1 q1
 | true=>exact⟨.bl true,H1,I1,rfl,q1⟩
theorem c4y(ha:PE X a ta):PE X (.UnaryOp .Not a pos) (b2k ta):=by
 intro pins s σ H Q I h
 refine UnaryOp_ (thn (ha pins s σ H _ I h) fun v s1 ⟨x,H1,I1,r1,q1⟩=>?_)
 obtain⟨c,rfl,q1⟩:=q1
 cases r1
 exact not_of (J8 ⟨.bl (!c),H1,I1,rfl,q1⟩)
def tIf(t:TT)(ta tb:TE):TE:=fun σ H Q=>t σ H fun c H1=>if c=true then ta σ H1 Q else tb σ H1 Q
theorem b9t(hc:PT X c tA)(ha:PE X a ta)(hb:PE X b tb):PE X (.IfExp c a b pos) (tIf tA ta tb):=by
 intro pins s σ H Q I h
 refine wpAny_IfExp (thn (hc pins s σ H _ I h) fun d s1 ⟨H1,I1,q1⟩=>?_)
 cases d with
 | true=>exact ha pins s1 σ H1 Q I1 q1
 | false=>exact hb pins s1 σ H1 Q I1 q1
end
def SqL(K:Fg)(H:Hp)(a:Addr)(xs:List V):Prop:=
 Rd H a (.lst xs) \/
  ∃(o:Obj) (its:Array Value) (n:Nat),K.lookup a=some o/\o.cls=.type "list" /\ o.dict=none/\o.data=.seq its n/\its.size<=i8/\E6 xs its.toList
def SqT(K:Fg)(H:Hp)(a:Addr)(xs:List V):Prop:=
 Rd H a (.tup xs) \/
  ∃(o:Obj) (its:Array Value) (n:Nat),K.lookup a=some o/\o.cls=.type "tuple" /\ o.data=.seq its n/\its.size<=i8/\E6 xs its.toList
def c7K:Value->Option V
 | .none=>some .non
 | .bool b=>some (.bl b)
 | .int i _=>some (.int i)
 | .str x _=>some (.str x)
 | .bytes b _=>some (.byt b)
 | .float b _=>some (.flt b)
 | .ref a=>some (.ref a)
 | .type n=>some (.ty n)
 | _=>none
theorem C7.abs{x:V}(r:C7 x u):c7K u=some x:=by
 cases x with
 | non=>cases r;rfl
 | bl _=>cases r;rfl
 | int _=>obtain⟨t,rfl⟩:=r;rfl
 | str _=>obtain⟨t,rfl⟩:=r;rfl
 | byt _=>obtain⟨t,rfl⟩:=r;rfl
 | flt _=>obtain⟨t,rfl⟩:=r;rfl
 | ref _=>cases r;rfl
 | ty _=>cases r;rfl
theorem C7.inj{x:V}(r:C7 x u)(q:C7 y u):x=y:=Option.some.inj (r.abs.symm.trans q.abs)
theorem E6.inj:∀ {xs ys:List V} {us:List Value},E6 xs us->E6 ys us->xs=ys
 | _,_,_,.nil,.nil=>rfl
 | _,_,_,.cons r t,.cons r' t'=>by rw[r.inj r',E6.inj t t']
section
variable {ys:List V}
theorem SqL.of{K:Fg}(h:H a=some (.lst xs)):SqL K H a xs:=.inl (.inl h)
theorem SqT.of{K:Fg}(h:H a=some (.tup xs)):SqT K H a xs:=.inl (.inl h)
theorem Inv.list(I:Inv X pins σ H s)(h:SqL X.K H a xs):∃its:List Value,E6 xs its/\PlainL s.heap a its.toArray/\xs.length<=i8:=by
 rcases h with h | ⟨o,its,n,hk,hc,hd,hs,hz,r⟩
 ·obtain⟨z,its,n,r,e⟩:=h.ok I.hok
  exact⟨its,r,⟨_,n,e,rfl,rfl,rfl⟩,z⟩
 ·refine⟨its.toList,r,⟨o,n,I.kIn a o hk,hc,hd,by simpa using hs⟩,?_⟩
  have e:=r.length
  simp only[z9]at e
  omega
theorem Inv.tuple(I:Inv X pins σ H s)(h:SqT X.K H a xs):∃its:List Value,E6 xs its/\IsTup s.heap a its.toArray/\xs.length<=i8:=by
 rcases h with h | ⟨o,its,n,hk,hc,hs,hz,r⟩
 ·obtain⟨z,its,r,p⟩:=h.ok I.hok
  exact⟨its,r,p,z⟩
 ·refine⟨its.toList,r,⟨o,I.kIn a o hk,hc,n,by simpa using hs⟩,?_⟩
  have e:=r.length
  simp only[z9]at e
  omega
theorem Inv.list_inj(I:Inv X pins σ H s)(h:SqL X.K H a xs)(h':SqL X.K H a ys):xs=ys:=by
 obtain⟨its,r,⟨o,n,e,_,_,d⟩,_⟩:=I.list h
 obtain⟨its',r',⟨o',n',e',_,_,d'⟩,_⟩:=I.list h'
 rw[e]at e';cases e'
 rw[d]at d'
 injection d' with d1 _
 have:its=its':=by simpa using congrArg Array.toList d1
 subst this
 exact r.inj r'
end
abbrev Cx.wish(X:Cx)(E:Value->d4->Prop):Cx:={ X with xe:=E }
abbrev Cx.nox(X:Cx):Cx:=X.wish fun _ _=>False
theorem Cx.Ok.wish(ok:X.Ok)(E:Value->d4->Prop):(X.wish E).Ok:=
 ⟨ok.mod,ok.kind,ok.glob,ok.blt,ok.above,ok.inj,ok.has,ok.cab,ok.hd,ok.frames,ok.stk,ok.exf,ok.bs,ok.bsz,ok.noex,ok.exfs,ok.funs,ok.frf⟩
theorem Cx.Ok.unwish{E:Value->d4->Prop}(ok:(X.wish E).Ok):X.Ok:=
 ⟨ok.mod,ok.kind,ok.glob,ok.blt,ok.above,ok.inj,ok.has,ok.cab,ok.hd,ok.frames,ok.stk,ok.exf,ok.bs,ok.bsz,ok.noex,ok.exfs,ok.funs,ok.frf⟩
section
variable {E:Value->d4->Prop}
theorem Inv.wish(I:Inv X pins σ H s)(E:Value->d4->Prop):Inv (X.wish E) pins σ H s:=⟨I.ok.wish E,I.os,I.bare,I.base,I.loc,I.cell,I.free,I.freeC,I.pin,I.hok,I.len⟩
theorem Inv.unwish(I:Inv (X.wish E) pins σ H s):Inv X pins σ H s:=⟨I.ok.unwish,I.os,I.bare,I.base,I.loc,I.cell,I.free,I.freeC,I.pin,I.hok,I.len⟩
theorem SP.unwish{D:a7f}{f:Flow}{s':d4}(h:SP (X.wish E) pins D f s'):SP X pins D f s':=by
 cases f with
 | next=>obtain⟨σ',H',I,q⟩:=h;exact⟨σ',H',I.unwish,q⟩
 | brk=>obtain⟨σ',H',I,q⟩:=h;exact⟨σ',H',I.unwish,q⟩
 | cont=>obtain⟨σ',H',I,q⟩:=h;exact⟨σ',H',I.unwish,q⟩
 | ret u=>obtain⟨v,σ',H',I,r,q⟩:=h;exact⟨v,σ',H',I.unwish,r,q⟩
theorem PSs.nox{st:List Stmt}{t:TS}(h:PSs X.nox st t):PSs X st t:=fun pins s σ H D I hw=>
 V2 (h pins s σ H D (I.wish _) hw) (fun _ _ q=>q.unwish) fun _ _ z=>False.elim z
end
section
variable {st:Stmt}{a4d:List Stmt}{t u:TS}
def E2:TS:=fun D σ H=>D.nx σ H
def u8(t u:TS):TS:=fun D σ H=>t { D with nx:=u D } σ H
theorem c1s:PSs X [] E2:=fun _ _ σ H _ I h=>a7S ⟨σ,H,I,h⟩
theorem b9i(h1:PS X st t)(h2:PSs X a4d u):PSs X (st::a4d) (u8 t u):=by
 intro pins s σ H D I h
 refine wpAny_execs_cons (thn (h1 pins s σ H { D with nx:=u D } I h) fun f s1 q=>?_)
 cases f with
 | next=>
  obtain⟨σ',H',I',q⟩:=q
  exact h2 pins s1 σ' H' D I' q
 | ret v=>exact q
 | brk=>exact q
 | cont=>exact q
theorem c1r(h1:PS X st t):PSs X [st] t:=by
 intro pins s σ H D I h
 refine wpAny_execs_cons (thn (h1 pins s σ H D I h) fun f s1 q=>?_)
 cases f with
 | next=>exact a7S q
 | ret v=>exact q
 | brk=>exact q
 | cont=>exact q
theorem Inv.quiet(I:Inv X pins σ H s):interactive X.env=false:=by simp[interactive,I.ok.kind]
def a0r(te:TE):TS:=fun D σ H=>te σ H fun _ H1=>D.nx σ H1
theorem c1u(he:PE X e te)(hs:a1J e none pos.line X.env=pure false:=by rfl):PS X (.Expr e pos) (a0r te):=by
 intro pins s σ H D I h
 exact wpAny_Expr_any (thn (he pins s σ H _ I h) fun v s1 ⟨x,H1,I1,r1,q1⟩=>⟨σ,H1,I1,q1⟩) I.quiet hs
def J3(te:TE):TS:=fun D σ H=>te σ H D.rt
theorem c4m(he:PE X e te):PS X (.Return (some e) pos) (J3 te):=by
 intro pins s σ H D I h
 exact wpAny_Return_some (thn (he pins s σ H _ I h) fun v s1 ⟨x,H1,I1,r1,q1⟩=>⟨x,σ,H1,I1,r1,q1⟩)
def O0(c:TT)(t u:TS):TS:=fun D σ H=>c σ H fun b H1=>if b=true then t D σ H1 else u D σ H1
theorem c6C{a b:List Stmt}{tc:TT}(hc:PT X c tc)(ha:PSs X a t)(hb:PSs X b u):PS X (.If c a b pos) (O0 tc t u):=by
 intro pins s σ H D I h
 refine wpAny_If (thn (hc pins s σ H _ I h) fun d s1 ⟨H1,I1,q1⟩=>?_)
 cases d with
 | true=>exact ha pins s1 σ H1 D I1 q1
 | false=>exact hb pins s1 σ H1 D I1 q1
end
abbrev TG:=V->St->Hp->(St->Hp->Prop)->Prop
variable{g:TG}
abbrev TGs:=List V->St->Hp->(St->Hp->Prop)->Prop
def PG(X:Cx)(target:Expr)(t:TG):Prop:=
 ∀(pins:List (Addr×Obj)) (s:d4) (σ:St) (H:Hp) (v:V) (u:Value) (Q:St->Hp->Prop),Inv X pins σ H s->C7 v u->t v σ H Q ->
  wpAny (model X.prog X.w) X.A (a9S target X.env u) (fun _ s'=>∃σ' H',Inv X pins σ' H' s'/\Q σ' H') X.xe s
def PGs(X:Cx)(ts:List Expr)(t:TGs):Prop:=
 ∀(pins:List (Addr×Obj)) (s:d4) (σ:St) (H:Hp) (vs:List V) (us:List Value) (Q:St->Hp->Prop),Inv X pins σ H s->E6 vs us->t vs σ H Q ->
  wpAny (model X.prog X.w) X.A (assignInOrder ((a0Q ts X.env).map (·.2)) us) (fun _ s'=>∃σ' H',Inv X pins σ' H' s'/\Q σ' H') X.xe s
abbrev a9P:=V->V->V->Hp->(Hp->Prop)->Prop
def c0s(X:Cx)(t:a9P):Prop:=
 ∀(pins:List (Addr×Obj)) (s:d4) (σ:St) (H:Hp) (o i v:V) (ov iv u:Value) (Q:Hp->Prop),Inv X pins σ H s->C7 o ov->C7 i iv->C7 v u->t o i v H Q ->
  wpAny (model X.prog X.w) X.A (c3u ov iv u) (fun _ s'=>∃H',Inv X pins σ H' s'/\Q H') X.xe s
abbrev TIp:=V->V->Hp->VK->Prop
def PIp(X:Cx)(op:a9t)(t:TIp):Prop:=
 ∀(pins:List (Addr×Obj)) (s:d4) (σ:St) (H:Hp) (x y:V) (v u:Value) (Q:VK),Inv X pins σ H s->C7 x v->C7 y u->t x y H Q ->
  wpAny (model X.prog X.w) X.A (inplaceOp op v u) (EP X pins σ Q) X.xe s
section
def o5(i:Nat):TG:=fun v σ H Q=>Q (σ.set i (some v)) H
theorem b1f{x:Str}(hN:X.N.Nodup)(hi:X.N[i]? = some x)(hx:Loc X.env.scope x)(hf:X.fn x=true\/X.env.scope.names.lookup x=some .local:=by first | exact .inl rfl | exact .inr rfl | assumption):PG X (.Name x pos) (o5 i):=by
 intro pins s σ H v u Q I r h
 exact b3L (a6b I hN hi hx r (fun s' I'=>⟨_,H,I',h⟩) hf)
def a8Y:TGs:=fun vs σ H Q=>vs=[]/\Q σ H
def a0u(t:TG)(u:TGs):TGs:=fun vs σ H Q=>∃v r,vs=v::r/\t v σ H fun σ' H'=>u r σ' H' Q
theorem b5C:PGs X [] a8Y:=by
 intro pins s σ H vs us Q I r h
 obtain⟨e,h⟩:=h
 subst e
 cases r
 exact assignInOrder_nil ⟨σ,H,I,h⟩
theorem a8D{t:TG}{u:TGs}(h1:PG X e t)(h2:PGs X es u)
  (hs:(a0Q (e::es) X.env).map (·.2)=a9S e X.env::(a0Q es X.env).map (·.2):=by rfl):PGs X (e::es) (a0u t u):=by
 intro pins s σ H vs us Q I r h
 obtain⟨v,vr,e1,h⟩:=h
 subst e1
 cases r with
 | cons r rr=>
  rw[hs]
  refine assignInOrder_cons (thn (h1 pins s σ H _ _ _ I r h) fun _ s1 ⟨σ1,H1,I1,q1⟩=>?_)
  exact h2 pins s1 σ1 H1 _ _ Q I1 rr q1
def a8X(K:Fg)(n:Nat)(t:TGs):TG:=fun v σ H Q=>∃a xs,v=.ref a/\SqT K H a xs/\xs.length=n/\t xs σ H Q
theorem b9q{k:Nat}{t:TGs}{n:Nat}(hc:X.calm=true)(h:PGs X es t)
  (hn:(a0Q es X.env).length=n:=by rfl) (hst:(a0Q es X.env).findIdx? (·.1)=none:=by rfl):PG X (.Tuple es k pos) (a8X X.K n t):=by
 intro pins s σ H v u Q I r hw
 obtain⟨a,xs,e1,hq,hl,hw⟩:=hw
 subst e1
 cases r
 obtain⟨its,rv,ht,hz⟩:=I.tuple hq
 refine assign_Tuple_tuple (I.ok.hd hc) ht (by simp[hn,<-hl,rv.length]) hst fun h' hx=>?_
 have I1:Inv X pins σ H { s with heap:=h' }:=I.kept (t':=s.toks) fun b o e=>hx b o (j8 (d6 e)) e
 exact h pins _ σ H xs _ Q I1 (by simpa using rv) hw
def b7l(to ti:TE)(t:a9P):TG:=fun v σ H Q=>to σ H fun o H1=>ti σ H1 fun i H2=>t o i v H2 fun H3=>Q σ H3
theorem c4s{o i:Expr}{to ti:TE}{t:a9P}(ho:PE X o to)(hi:PE X i ti)(hs:c0s X t)
  (ha:∀v,a9S (.Subscript o i pos) X.env v=(do
   let ov <-a0A [v] (eval o X.env)
   let iv <-a0A [v,ov] (eval i X.env)
   a7T pos
   a0A [v,ov,iv] (c3u ov iv v)
   release [v,ov,iv] []):=by intro _;rfl):PG X (.Subscript o i pos) (b7l to ti t):=by
 intro pins s σ H v u Q I r h
 rw[ha]
 refine a8 (L5 (thn (ho pins s σ H _ I h) fun ov s1 ⟨x,H1,I1,r1,q1⟩=>?_))
 refine a8 (L5 (thn (hi pins s1 σ H1 _ I1 q1) fun iv s2 ⟨y,H2,I2,r2,q2⟩=>?_))
 refine a8 (c3s (a8 (L5 (thn (hs pins s2 σ H2 x y v ov iv u _ I2 r1 r2 r q2) fun _ s3 ⟨H3,I3,q3⟩=>?_))))
 exact wpAny_release ⟨σ,H3,I3,q3⟩
def E5(te:TE)(g:TG):TS:=fun D σ H=>te σ H fun x H1=>g x σ H1 D.nx
theorem c4p(he:PE X e te)(hg:PG X tg g)(hs:swapsWithSole [tg] e pos.line X.env=pure false:=by rfl)(hw:swappedStores [tg] e X.env=pure none:=by rfl)
  (h1:(a0Q [tg] X.env).map (·.2)=[a9S tg X.env]:=by rfl):PS X (.Assign [tg] e pos) (E5 te g):=by
 intro pins s σ H D I h
 refine wpAny_Assign_stores (thn (he pins s σ H _ I h) fun v s1 ⟨x,H1,I1,r1,q1⟩=>?_) hs hw
 rw[h1]
 exact thn (hg pins s1 σ H1 x v _ I1 r1 q1) fun _ s2 q=>q
theorem c4l{x:Str}(hN:X.N.Nodup)(hi:X.N[i]? = some x)(hx:Loc X.env.scope x)(he:PE X e te)(hs:a1J e (some (.Name x pos')) pos.line X.env=pure false:=by rfl)(hf:X.fn x=true\/X.env.scope.names.lookup x=some .local:=by first | exact .inl rfl | exact .inr rfl | assumption) :
  PS X (.Assign [.Name x pos'] e pos) (E5 te (o5 i)):=by
 intro pins s σ H D I h
 refine wpAny_Assign_Name (thn (he pins s σ H _ I h) fun v s1 ⟨y,H1,I1,r1,q1⟩=>?_) hs
 exact a6b I1 hN hi hx r1 (fun s2 I2=>⟨_,H1,I2,q1⟩) hf
def b8E(i:Nat)(te:TE)(ti:TIp):TS:=fun D σ H=>∃x,σ[i]? = some (some x)/\te σ H fun y H1=>ti x y H1 fun z H2=>D.nx (σ.set i (some z)) H2
theorem c4o{x:Str}{op:a9t}{ti:TIp}(hN:X.N.Nodup)(hi:X.N[i]? = some x)(hx:Loc X.env.scope x)(he:PE X e te)(ho:PIp X op ti)(hf:X.fn x=true\/X.env.scope.names.lookup x=some .local:=by first | exact .inl rfl | exact .inr rfl | assumption) :
  PS X (.AugAssign (.Name x pos') op e pos) (b8E i te ti):=by
 intro pins s σ H D I h
 obtain⟨v,e1,h⟩:=h
 obtain⟨m,hn,hl⟩:=I.loc
 have vis:Vis X.env.scope x:=by rcases hx with k | k;exact .inl k;exact .inr (.inl k)
 obtain⟨u,r,l⟩:=hl i x v hi e1 vis
 refine wpAny_AugAssign_Name ?_
 have go:wpAny (model X.prog X.w) X.A (eval e X.env) (fun w s₂=>wpAny (model X.prog X.w) X.A (inplaceOp op u w) (fun r s₃=>wpAny (model X.prog X.w) X.A (storeName X.env x r) (fun _=>SP X pins D .next) X.xe s₃) X.xe s₂) X.xe s:=by
  refine thn (he pins s σ H _ I h) fun w s1 ⟨y,H1,I1,r1,q1⟩=>?_
  refine thn (ho pins s1 σ H1 v y u w _ I1 r r1 q1) fun z s2 ⟨zv,H2,I2,r2,q2⟩=>?_
  exact a6b I2 hN hi hx r2 (fun s3 I3=>⟨_,H2,I3,q2⟩) hf
 rcases l with ⟨hk,hm⟩ | ⟨hk,c,hc,hcell⟩
 ·exact c7m I.ok.kind hk hn hm go
 ·rcases hk with hk | hk
  ·exact c7o I.ok.kind hk hc hcell go
  ·rcases hx with k | k
   ·have:X.env.scope.names.lookup x=some .free:=hk
    rw[k]at this;cases this
   ·have:X.env.scope.names.lookup x=some .free:=hk
    rw[k]at this;cases this
def b5m(to ti te:TE)(tget:V->V->Hp->VK->Prop)(tip:TIp)(tset:a9P):TS:=fun D σ H=>to σ H fun o H1=>ti σ H1 fun i H2=>tget o i H2 fun x H3=>te σ H3 fun y H4=>tip x y H4 fun z H5=>tset o i z H5 fun H6=>D.nx σ H6
def c5E(X:Cx)(t:V->V->Hp->VK->Prop):Prop:=
 ∀(pins:List (Addr×Obj)) (s:d4) (σ:St) (H:Hp) (o i:V) (ov iv:Value) (Q:VK),Inv X pins σ H s->C7 o ov->C7 i iv->t o i H Q ->
  wpAny (model X.prog X.w) X.A (b0C ov iv) (EP X pins σ Q) X.xe s
theorem c1w{o i:Expr}{to ti:TE}{tget:V->V->Hp->VK->Prop}{tip:TIp}{tset:a9P}{op:a9t}{tpos:Pos}(ho:PE X o to)(hi:PE X i ti)(hg:c5E X tget)(he:PE X e te)(hp:PIp X op tip)(hs:c0s X tset)
  (ha:∀ov iv new,augStore i ov iv new=(do a0A [new,ov,iv] (c3u ov iv new);release [new,ov,iv] [];pure .next):=by intros;rfl):PS X (.AugAssign (.Subscript o i tpos) op e pos) (b5m to ti te tget tip tset):=by
 intro pins s σ H D I h
 refine wpAny_AugAssign_SubscriptAny (thn (ho pins s σ H _ I h) fun ov s1 ⟨x1,H1,I1,r1,q1⟩=>?_) ha
 refine thn (hi pins s1 σ H1 _ I1 q1) fun iv s2 ⟨x2,H2,I2,r2,q2⟩=>?_
 refine thn (hg pins s2 σ H2 x1 x2 ov iv _ I2 r1 r2 q2) fun old s3 ⟨x3,H3,I3,r3,q3⟩=>?_
 refine thn (he pins s3 σ H3 _ I3 q3) fun v s4 ⟨x4,H4,I4,r4,q4⟩=>?_
 refine thn (hp pins s4 σ H4 x3 x4 old v _ I4 r3 r4 q4) fun new s5 ⟨x5,H5,I5,r5,q5⟩=>?_
 exact thn (hs pins s5 σ H5 x1 x2 x5 ov iv new _ I5 r1 r2 r5 q5) fun _ s6 ⟨H6,I6,q6⟩=>⟨σ,H6,I6,q6⟩
def ipI(f:Int->Int->Int):TIp:=fun x y H Q=>∃i j,x=.int i/\y=.int j/\Q (.int (f i j)) H
theorem c5s:PIp X .Add (ipI fun i j=>i+j):=by
 intro pins s σ H x y v u Q I r1 r2 h
 obtain⟨i,j,e1,e2,q⟩:=h
 subst e1;subst e2
 obtain⟨t,rfl⟩:=r1
 obtain⟨t',rfl⟩:=r2
 exact iadd_int ⟨.int _,H,I.tok _,⟨_,rfl⟩,q⟩
end
section
def a6I(c:TT)(tb:TS):TS:=fun D σ H=>∃W:Nat->St->Hp->Prop,(∃m,W m σ H)/\∀m σ H,W m σ H ->
 c σ H fun b H1=>if b=true then ∃N:St->Hp->Prop,(∀σ' H',N σ' H'->∃m',m'<m/\W m' σ' H')/\tb { D with nx:=N,ct:=N,bk:=D.nx } σ H1 else D.nx σ H1
theorem b9j{body:List Stmt}{tc:TT}(hp:b1W (model X.prog X.w) X.A X.env X.xe)(hc:PT X c tc)(hb:PSs X body tb):PS X (.While c body [] pos) (a6I tc tb):=by
 intro pins s σ H D I h
 obtain⟨W,⟨m0,w0⟩,turn⟩:=h
 refine wpAny_While (codeAny_whileLoop (fun n s'=>∃σ' H',Inv X pins σ' H' s'/\W n σ' H') ?_ m0 ⟨σ,H,I,w0⟩)
 rintro n s1 ⟨σ1,H1,I1,w1⟩
 refine a0y hp (thn (hc pins s1 σ1 H1 _ I1 (turn n σ1 H1 w1)) fun b s2 ⟨H2,I2,q2⟩=>?_)
 cases b with
 | true=>
  obtain⟨N,hN,q2⟩:=q2
  rw[if_pos rfl]
  refine a0y hp (thn (hb pins s2 σ1 H2 _ I2 q2) fun f s3 q3=>?_)
  cases f with
  | next=>
   obtain⟨σ3,H3,I3,n3⟩:=q3
   obtain⟨m',hm,w3⟩:=hN σ3 H3 n3
   exact⟨m',hm,σ3,H3,I3,w3⟩
  | cont=>
   obtain⟨σ3,H3,I3,n3⟩:=q3
   obtain⟨m',hm,w3⟩:=hN σ3 H3 n3
   exact⟨m',hm,σ3,H3,I3,w3⟩
  | brk=>exact q3
  | ret v=>exact q3
 | false=>
  rw[if_neg j5]
  exact a7S ⟨σ1,H2,I2,q2⟩
end
structure It where
 go:Nat->Hp->Prop
 yld:Nat->Hp->V->Hp->Prop
 stop:Nat->Hp->Prop
def a4P(X:Cx)(pins:List (Addr×Obj))(H:Hp)(b:Addr):Prop:=
 H b=none/\b≠X.env.locals/\b∉X.fs/\(b∈X.ex\/X.s₀.heap.objs.size<=b)/\(∀x c,X.env.cells.lookup x=some c->c≠b)/\∀p∈X.pn++pins,p.1≠b
theorem Inv.fpOk(I:Inv X pins σ H s)(hb:s.heap.objs.size<=b)(hn:H' b=none):a4P X pins H' b:=by
 refine⟨hn,a9q (w4 I.lt hb),I.nofs hb,.inr (A1 I.sz hb),fun x c e z=>?_,fun p hp z=>?_⟩
 ·obtain⟨v,q⟩:=I.cell x c e
  exact absurd (w4 q.lt (by rw[z];exact hb)) (F7 _)
 ·exact absurd (w4 (d6 (I.pin p hp).1) (by rw[z];exact hb)) (F7 _)
structure b1I(P:u4)(w:World)(K:Fg)(tg:Expr)(J:It)(fp:List Addr)(it:Addr)(tn:Nat->Heap->Prop):Prop where
 mem:it∈fp
 obj:∀i h,tn i h->∀b∈fp,∃o,h.get? b=some o/\∀v,o.data≠.cell v
 keep:∀i h h',tn i h->(∀b∈fp,∀o,h.get? b=some o->h'.get? b=some o)->tn i h'
 item:∀(X:Cx),X.prog=P->X.w=w->X.K=K->X.calm=true->∀(i:Nat) (pins:List (Addr×Obj)) (s:d4) (σ:St) (H:Hp) (E:Value->d4->Prop),Inv X pins σ H s->(∀b∈fp,a4P X pins H b)->tn i s.heap->J.go i H ->
  wpAny (model P w) X.A (a1j (.ref it)) (fun r s1=>∃u,r=some u /\
   wpAny (model P w) X.A (a3U tg (.ref it) u) (fun _ s2=>∃x H',Inv X pins σ H' s2/\C7 x u/\J.yld i H x H'/\tn (i+1) s2.heap/\∀b∈fp,H' b=none) E s1) E s
 done:∀(X:Cx),X.prog=P->X.w=w->X.K=K->X.calm=true->∀(i:Nat) (pins:List (Addr×Obj)) (s:d4) (σ:St) (H:Hp) (E:Value->d4->Prop),Inv X pins σ H s->(∀b∈fp,a4P X pins H b)->tn i s.heap->J.stop i H ->
  wpAny (model P w) X.A (a1j (.ref it)) (fun r s1=>r=none/\Inv X pins σ H s1) E s
 self:∀(A:F2) (i:Nat) (s:d4) (Q:Value->d4->Prop) (E:Value->d4->Prop),tn i s.heap->Q (.ref it) s->wpAny (model P w) A (pyIter (.ref it)) Q E s
abbrev TI:=St->Hp->(It->Hp->Prop)->Prop
def PIE(X:Cx)(pins:List (Addr×Obj))(σ:St)(tg:Expr)(R:It->Hp->Prop)(itv:Value)(s2:d4):Prop:=
 ∃(it:Addr) (fp:List Addr) (tn:Nat->Heap->Prop) (J:It) (H':Hp),itv=.ref it/\Inv X pins σ H' s2/\b1I X.prog X.w X.K tg J fp it tn/\tn 0 s2.heap/\(∀b∈fp,a4P X pins H' b)/\R J H'
def PI(X:Cx)(tg iter:Expr)(wi:TI):Prop:=
 ∀(pins:List (Addr×Obj)) (s:d4) (σ:St) (H:Hp) (R:It->Hp->Prop),Inv X pins σ H s->wi σ H R ->
  wpAny (model X.prog X.w) X.A (eval iter X.env) (fun v s1=>wpAny (model X.prog X.w) X.A (pyIter v) (PIE X pins σ tg R) X.xe s1) X.xe s
theorem b5L{M:Model}{A:F2}{E:Value->d4->Prop}{it:Addr}{o:Obj}{n:String}{vs:Array Value}{Q:Unit->d4->Prop}(ho:s.heap.get? it=some o)(hc:o.cls=.type n)(hd:o.data=.fields vs)
  (hn:["enumerate","zip","dict_itemiterator","dict_reverseitemiterator","odict_iterator","itertools.zip_longest","itertools.pairwise"].contains n=false) (hQ:Q () s):wpAny M A (a3U tg (.ref it) u) Q E s:=by
 unfold a3U
 cases tg <;> first
  | exact b6 hQ
  | (cases u <;> first
    | exact b6 hQ
    | (refine a8 (wpAny_load ho ?_)
       rw[hc,hd]
       show wpAny M A (if(["enumerate","zip","dict_itemiterator","dict_reverseitemiterator","odict_iterator","itertools.zip_longest","itertools.pairwise"].contains n&&vs[0]? == some (rawInt _))=true then _ else _) Q E s
       rw[if_neg (by intro h;rw[hn,Bool.false_and]at h;cases h)]
       exact b6 hQ))
def Itl(K:Fg)(a:Addr):It:=
 ⟨fun i H=>∃xs x,SqL K H a xs/\xs[i]? = some x,fun i H x H'=>H'=H/\∀xs,SqL K H a xs->xs[i]? = some x,fun i H=>∃xs,SqL K H a xs/\xs.length<=i⟩
def Itr(lo:Int)(n:Nat):It:=⟨fun i _=>i<n,fun i H x H'=>H'=H/\x=.int (lo+i),fun i _=>n<=i⟩
theorem b6p{P:u4}{K:Fg}(a it:Addr):b1I P w K tg (Itl K a) [it] it (fun i h=>h.IsListIter it a i) where
 mem:=by simp
 obj:=fun i h st b hb=>by
  have e:b=it:=by simpa using hb
  subst e
  obtain⟨o,e,c,d⟩:=st
  exact⟨o,e,fun v z=>by rw[d]at z;cases z⟩
 keep:=fun i h h' st k=>st.at fun o e=>k it (by simp) o e
 item:=by
  intro X hP hw hK hc i pins s σ H E I hf st hg
  subst hP hw hK
  obtain⟨xs,x,hq,hx⟩:=hg
  obtain⟨its,rv,p,hz⟩:=I.list hq
  obtain⟨u,hu,ru⟩:=rv.get hx
  obtain⟨f0,f1,f2,f3,f4,f5⟩:=hf it (by simp)
  refine c5P st p.isList (x:=u) (by simpa using hu) fun h' st' sb=>?_
  have I1:Inv X pins σ H { s with heap:=h' }:=I.turned (t':=s.toks) (fun b o hb e=>(sb.2 b hb).trans e) f0 f1 f3 f4 f5
  obtain⟨o,e,c,d⟩:=id st'
  exact⟨u,rfl,b5L (s:={ s with heap:=h' }) e c d (by decide) ⟨x,H,I1,ru,⟨rfl,fun ys hy=>by rw[I.list_inj hy hq];exact hx⟩,st',fun b hb=>(hf b hb).1⟩⟩
 done:=by
  intro X hP hw hK hc i pins s σ H E I hf st hg
  subst hP hw hK
  obtain⟨xs,hq,hx⟩:=hg
  obtain⟨its,rv,p,hz⟩:=I.list hq
  obtain⟨f0,f1,f2,f3,f4,f5⟩:=hf it (by simp)
  have hl:=rv.length
  exact c5S (I.ok.hd hc) st p.isList (by simp;omega) fun h' eb=>⟨rfl,I.turned (t':=s.toks) (fun b o hb e=>eb b o hb e) f0 f1 f3 f4 f5⟩
 self:=fun _ _ _ _ _ st h=>wpAny_pyIter_listiter st h
theorem b3S{P:u4}{K:Fg}(it:Addr)(lo:Int)(n:Nat):b1I P w K tg (Itr lo n) [it] it (fun i h=>IsRangeIter h it (lo+(i:Nat) * 1) ((n:Int) - (i:Nat)) 1) where
 mem:=by simp
 obj:=fun i h st b hb=>by
  have e:b=it:=by simpa using hb
  subst e
  exact⟨_,st,fun v z=>by
   have z':Data.fields _=Data.cell v:=z
   cases z'⟩
 keep:=fun i h h' st k=>k it (by simp) _ st
 item:=by
  intro X hP hw hK hc i pins s σ H E I hf st hg
  subst hP hw hK
  obtain⟨f0,f1,f2,f3,f4,f5⟩:=hf it (by simp)
  have W:=Walks.range (prog:=X.prog) (w:=X.w) (I.ok.hd hc) it lo 1 n
  refine W.item i s _ _ hg st fun v h' tk hv st' kk=>?_
  obtain⟨t,rfl⟩:=hv
  have I1:Inv X pins σ H { s with heap:=h',toks:=tk }:=I.turned (fun b o hb e=>kk b o (by simpa using hb) e) f0 f1 f3 f4 f5
  refine⟨_,rfl,b5L (s:={ s with heap:=h',toks:=tk }) (n := "range_iterator") st' rfl rfl (by decide) ⟨.int (lo+i),H,I1,⟨t,?_⟩,⟨rfl,rfl⟩,st',fun b hb=>(hf b hb).1⟩⟩
  rw[Int.mul_one]
 done:=by
  intro X hP hw hK hc i pins s σ H E I hf st hg
  subst hP hw hK
  obtain⟨f0,f1,f2,f3,f4,f5⟩:=hf it (by simp)
  exact wpAny_pyNext_range_end (I.ok.hd hc) st (by have:n<=i:=hg;omega) fun h' eb=>⟨rfl,I.turned (t':=s.toks) (fun b o hb e=>eb b o hb e) f0 f1 f3 f4 f5⟩
 self:=fun _ _ _ _ _ st h=>wpAny_pyIter_rangeiter st h
section
def R7(K:Fg)(tl:TE):TI:=fun σ H R=>tl σ H fun x H1=>∃a,x=.ref a/\(∃xs,SqL K H1 a xs)/\R (Itl K a) H1
theorem c1A{l:Expr}{tl:TE}(hl:PE X l tl):PI X tg l (R7 X.K tl):=by
 intro pins s σ H R I h
 refine thn (hl pins s σ H _ I h) fun v s1 ⟨x,H1,I1,r1,q1⟩=>?_
 obtain⟨a,e,⟨xs,hq⟩,q⟩:=q1
 subst e
 cases r1
 obtain⟨its,rv,p,hz⟩:=I1.list hq
 refine a2A p.isList ?_
 refine⟨s1.heap.objs.size,[s1.heap.objs.size],_,_,H1,rfl,I1.kept (t':=s1.toks) fun b o e=>b8 _ e,b6p a _,⟨_,d7 _ rfl,rfl,rfl⟩,fun b hb=>?_,q⟩
 have e:b=s1.heap.objs.size:=by simpa using hb
 subst e
 exact I1.fpOk (d3 _) (I1.hok.fresh (d3 _))
theorem b8Y{R:It->Hp->Prop}{E:Value->d4->Prop}{lo hi:Int}{t u v:Tok}{tk:Nat}(I:Inv X pins σ H s)(h1 : -(2 ^ 62)<=lo)(h2:lo<2 ^ 62)(h3 : -(2 ^ 62)<=hi)(h4:hi<2 ^ 62)
  (q:R (Itr lo (hi - lo).toNat) H):wpAny (model X.prog X.w) X.A (pyIter (.ref s.heap.objs.size)) (PIE X pins σ tg R) E { s with heap:=s.heap.push { cls:=.type "range",data:=.fields #[.int lo t,.int hi u,.int 1 v] },toks:=tk }:=by
 refine wpAny_pyIter_range (IsRange.new ..) (small_one h1 h2 h3 h4) ?_
 have I1:Inv X pins σ H { s with heap:=s.heap.push { cls:=.type "range",data:=.fields #[.int lo t,.int hi u,.int 1 v] },toks:=tk }:=I.kept fun b o e=>b8 _ e
 refine⟨(s.heap.push { cls:=.type "range",data:=.fields #[.int lo t,.int hi u,.int 1 v] }).objs.size,[(s.heap.push { cls:=.type "range",data:=.fields #[.int lo t,.int hi u,.int 1 v] }).objs.size],_,_,H,rfl,
  I1.kept (t':=tk) fun b o e=>b8 _ e,b3S _ lo (hi - lo).toNat,?_,fun b hb=>?_,q⟩
 ·have e1:lo+((0:Nat):Int) * 1=lo:=by simp
  have e2:(((hi - lo).toNat:Nat):Int) - ((0:Nat):Int)=Builtin.Range.rangeSize lo hi 1:=by rw[rangeSize_one];split <;> omega
  show IsRangeIter _ _ (lo+((0:Nat):Int) * 1) ((((hi - lo).toNat:Nat):Int) - ((0:Nat):Int)) 1
  rw[e1,e2]
  exact d7 _ rfl
 ·have e:b=(s.heap.push { cls:=.type "range",data:=.fields #[.int lo t,.int hi u,.int 1 v] }).objs.size:=by simpa using hb
  subst e
  exact I1.fpOk (d3 _) (I1.hok.fresh (d3 _))
def a1z(ta:TA):TI:=fun σ H R=>ta σ H fun vs H1=>∃j:Int,vs=[.int j] /\ -(2 ^ 62)<=j/\j<2 ^ 62/\R (Itr 0 j.toNat) H1
theorem b6M{a:Expr}{ta:TA}(hg:Gl X "range")(hm:X.mg "range" = none)(ha:PA X [a] ta)(hs:d9 [a] X.env=[(false,eval a X.env)]:=by rfl):PI X tg (.Call (.Name "range" p) [a] [] pos) (a1z ta):=by
 intro pins s σ H R I h
 refine Call_ (a4m I hg hm boot_range (P3 (thn (ha pos pins s σ H _ I h) fun us s1 ⟨vs,H1,I1,r1,q1⟩=>?_) hs rfl))
 obtain⟨j,e,q1,q2,q⟩:=q1
 subst e
 cases r1 with
 | cons r rr=>
  cases rr
  obtain⟨t,rfl⟩:=r
  exact call_range_1 (b8Y I1 (by omega) (by omega) q1 q2 (by simpa using q))
def a1k(wi:TI)(g:TG)(tb:TS):TS:=fun D σ H=>wi σ H fun J H1=>∃W:Nat->Nat->St->Hp->Prop,(∃m,W 0 m σ H1)/\∀i m σ H,W i m σ H ->
 (J.stop i H/\D.nx σ H)\/(J.go i H/\∃N:St->Hp->Prop,(∀σ' H',N σ' H'->∃m',m'<m/\W (i+1) m' σ' H')/\∀x H',J.yld i H x H'->g x σ H' fun σ2 H2=>tb { D with nx:=N,ct:=N,bk:=D.nx } σ2 H2)
def a5v(fp:List Addr)(h:Heap):List (Addr×Obj):=fp.filterMap fun b=>(h.get? b).map fun o=>(b,o)
theorem a0U{fp:List Addr}{o:Obj}(hb:b∈fp)(e:h.get? b=some o):(b,o)∈a5v fp h:=c0F.mpr ⟨b,hb,by rw[e];rfl⟩
theorem b6W{fp:List Addr}{p:Addr×Obj}(hp:p∈a5v fp h):p.1∈fp/\h.get? p.1=some p.2:=by
 obtain⟨b,hb,e⟩:=c0F.mp hp
 cases q:h.get? b with
 | none=>rw[q]at e;cases e
 | some o=>
  rw[q]at e
  have e':(b,o)=p:=Option.some.inj e
  subst e'
  exact⟨hb,q⟩
theorem Inv.pinned{fp:List Addr}(I:Inv X pins σ H s)(hf:∀b∈fp,a4P X pins H b)(ho:∀b∈fp,∃o,s.heap.get? b=some o/\∀v,o.data≠.cell v):Inv X (pins++a5v fp s.heap) σ H s:=
 I.pins_of fun p hp=>(h9.mp hp).elim (fun z=>I.pin p (o7 _ z)) fun z=>by
  obtain⟨hb,e⟩:=b6W z
  obtain⟨f0,f1,f2,_⟩:=hf p.1 hb
  obtain⟨o,e',d⟩:=ho p.1 hb
  rw[e]at e';cases e'
  exact⟨e,f0,f1,f2,d⟩
theorem Inv.unpinned{pl:List (Addr×Obj)}(I:Inv X (pins++pl) σ H s):Inv X pins σ H s:=I.pins_of fun p hp=>I.pin p (o7 _ (E8 _ hp))
theorem b9l{iter:Expr}{body:List Stmt}{wi:TI}(hp:b1W (model X.prog X.w) X.A X.env X.xe)(hc:X.calm=true)(hi:PI X tg iter wi)(hg:PG X tg g)(hb:PSs X body tb)
  (hs:∀x,M5 iter X.env x=pure x:=by intro _;rfl):PS X (.For tg iter body [] pos) (a1k wi g tb):=by
 intro pins s σ H D I h
 refine wpAny_For (thn (hi pins s σ H _ I h) fun v s1 h1=>thn h1 fun itv s2 h2=>?_) hs
 obtain⟨it,fp,tn,J,H2,e,I2,T,st2,f2,W,⟨m0,w0⟩,turn⟩:=h2
 subst e
 have stat:∀ {H':Hp},(∀b∈fp,H' b=none)->∀b∈fp,a4P X pins H' b:=fun hn b hb=>⟨hn b hb,(f2 b hb).2⟩
 refine codeAny_forLoop_any (fun n s'=>∃i σ' H',Inv X pins σ' H' s'/\tn i s'.heap/\(∀b∈fp,H' b=none)/\W i n σ' H') ?_ m0 ⟨0,σ,H2,I2,st2,fun b hb=>(f2 b hb).1,w0⟩
 rintro n s3 ⟨i,σ3,H3,I3,st3,fr3,w3⟩
 rcases turn i n σ3 H3 w3 with ⟨stop,qn⟩ | ⟨go,N,hN,step⟩
 ·refine a0y hp (thn (T.done X rfl rfl rfl hc i pins s3 σ3 H3 X.xe I3 (stat fr3) st3 stop) fun r s4 ⟨hr,I4⟩=>?_)
  subst hr
  exact a7S ⟨σ3,H3,I4,qn⟩
 ·refine a0y hp (thn (T.item X rfl rfl rfl hc i pins s3 σ3 H3 X.xe I3 (stat fr3) st3 go) fun r s4 ⟨u,hr,h4⟩=>?_)
  subst hr
  refine a0y hp (thn h4 fun _ s5 ⟨x,H5,I5,r5,y5,st5,fr5⟩=>?_)
  have I5':=I5.pinned (stat fr5) (T.obj _ _ st5)
  refine a0y hp (thn (hg _ s5 σ3 H5 x u _ I5' r5 (step x H5 y5)) fun _ s6 ⟨σ6,H6,I6,q6⟩=>?_)
  refine a0y hp (thn (hb _ s6 σ6 H6 _ I6 q6) fun f s7 q7=>?_)
  have again:∀ {σ7:St} {H7:Hp},Inv X (pins++a5v fp s5.heap) σ7 H7 s7->N σ7 H7->∃m,m<n/\∃i σ' H',Inv X pins σ' H' s7/\tn i s7.heap/\(∀b∈fp,H' b=none)/\W i m σ' H':=fun {σ7 H7} I7 n7=>by
   obtain⟨m',hm,w7⟩:=hN σ7 H7 n7
   refine⟨m',hm,i+1,σ7,H7,I7.unpinned,T.keep _ _ _ st5 fun b hb o e=>(I7.pin (b,o) (o7 _ (o7 _ (a0U hb e)))).1,fun b hb=>?_,w7⟩
   obtain⟨o,e,d⟩:=T.obj _ _ st5 b hb
   exact(I7.pin (b,o) (o7 _ (o7 _ (a0U hb e)))).2.1
  cases f with
  | next=>obtain⟨σ7,H7,I7,n7⟩:=q7;exact again I7 n7
  | cont=>obtain⟨σ7,H7,I7,n7⟩:=q7;exact again I7 n7
  | brk=>obtain⟨σ7,H7,I7,q7⟩:=q7;exact⟨σ7,H7,I7.unpinned,q7⟩
  | ret v=>obtain⟨x7,σ7,H7,I7,r7,q7⟩:=q7;exact⟨x7,σ7,H7,I7.unpinned,r7,q7⟩
end
theorem Y9{K:Fg}{D:a7f}(Pv:Nat->St->Hp->Prop)(h0:Pv 0 σ H)(hl:∀i σ H,i<=xs.length->Pv i σ H->SqL K H a xs)
  (hs:∀i x σ H,xs[i]? = some x->Pv i σ H->g x σ H fun σ2 H2=>tb { D with nx:=Pv (i+1),ct:=Pv (i+1),bk:=D.nx } σ2 H2) (hd:∀σ H,Pv xs.length σ H->D.nx σ H) :
  ∃W:Nat->Nat->St->Hp->Prop,(∃m,W 0 m σ H)/\∀i m σ H,W i m σ H ->
   ((Itl K a).stop i H/\D.nx σ H)\/((Itl K a).go i H/\∃N:St->Hp->Prop,(∀σ' H',N σ' H'->∃m',m'<m/\W (i+1) m' σ' H')/\∀x H',(Itl K a).yld i H x H'->g x σ H' fun σ2 H2=>tb { D with nx:=N,ct:=N,bk:=D.nx } σ2 H2):=by
 refine⟨fun i m σ H=>m=xs.length - i/\i<=xs.length/\Pv i σ H,⟨xs.length,by simp,E9 _,h0⟩,?_⟩
 rintro i m σ H ⟨rfl,hi,p⟩
 have q:=hl i σ H hi p
 by_cases hlt:i<xs.length
 ·refine .inr ⟨⟨xs,xs[i],q,by simp[hlt]⟩,Pv (i+1),fun σ' H' p'=>⟨xs.length - (i+1),by omega,rfl,hlt,p'⟩,fun x H' y=>?_⟩
  obtain⟨e,y⟩:=y
  subst e
  exact hs i x σ _ (y xs q) p
 ·have e:i=xs.length:=by omega
  subst e
  exact .inl ⟨⟨xs,q,d3 _⟩,hd σ H p⟩
theorem a0V{lo:Int}{n:Nat}{D:a7f}(Pv:Nat->St->Hp->Prop)(h0:Pv 0 σ H)
  (hs:∀i σ H,i<n->Pv i σ H->g (.int (lo+i)) σ H fun σ2 H2=>tb { D with nx:=Pv (i+1),ct:=Pv (i+1),bk:=D.nx } σ2 H2) (hd:∀σ H,Pv n σ H->D.nx σ H) :
  ∃W:Nat->Nat->St->Hp->Prop,(∃m,W 0 m σ H)/\∀i m σ H,W i m σ H ->
   ((Itr lo n).stop i H/\D.nx σ H)\/((Itr lo n).go i H/\∃N:St->Hp->Prop,(∀σ' H',N σ' H'->∃m',m'<m/\W (i+1) m' σ' H')/\∀x H',(Itr lo n).yld i H x H'->g x σ H' fun σ2 H2=>tb { D with nx:=N,ct:=N,bk:=D.nx } σ2 H2):=by
 refine⟨fun i m σ H=>m=n - i/\i<=n/\Pv i σ H,⟨n,by simp,E9 _,h0⟩,?_⟩
 rintro i m σ H ⟨rfl,hi,p⟩
 by_cases hlt:i<n
 ·refine .inr ⟨hlt,Pv (i+1),fun σ' H' p'=>⟨n - (i+1),by omega,rfl,hlt,p'⟩,fun x H' y=>?_⟩
  obtain⟨e,y⟩:=y
  subst e y
  exact hs i σ _ hlt p
 ·have e:i=n:=by omega
  subst e
  exact .inl ⟨d3 _,hd σ H p⟩
abbrev R2:=V->V->Hp->VK->Prop
variable{r:R2}
def OpR(X:Cx)(f:Value->Value->Sem Value)(r:R2):Prop:=
 ∀(pins:List (Addr×Obj)) (s:d4) (σ:St) (H:Hp) (x y:V) (v u:Value) (Q:VK),Inv X pins σ H s->C7 x v->C7 y u->r x y H Q ->
  wpAny (model X.prog X.w) X.A (f v u) (EP X pins σ Q) X.xe s
def UnR(X:Cx)(f:Value->Sem Value)(r:V->Hp->VK->Prop):Prop:=
 ∀(pins:List (Addr×Obj)) (s:d4) (σ:St) (H:Hp) (x:V) (v:Value) (Q:VK),Inv X pins σ H s->C7 x v->r x H Q ->
  wpAny (model X.prog X.w) X.A (f v) (EP X pins σ Q) X.xe s
def R8(X:Cx)(f:Value)(r:List V->Hp->VK->Prop):Prop:=
 ∀(pins:List (Addr×Obj)) (s:d4) (σ:St) (H:Hp) (xs:List V) (us:List Value) (Q:VK),Inv X pins σ H s->E6 xs us->r xs H Q ->
  wpAny (model X.prog X.w) X.A (call f us) (EP X pins σ Q) X.xe s
def tOp(r:R2)(ta tb:TE):TE:=fun σ H Q=>ta σ H fun x H1=>tb σ H1 fun y H2=>r x y H2 Q
def rI(C:Int->Int->Prop)(g:Int->Int->V):R2:=fun x y H Q=>∃i j,x=.int i/\y=.int j/\C i j/\Q (g i j) H
def rI0(g:Int->Int->V):R2:=fun x y H Q=>∃i j,x=.int i/\y=.int j/\Q (g i j) H
section
variable {a b:Expr}{tb tc:TE}
theorem c5w(ha:PE X a ta)(hb:PE X b tb){R:V->V->Hp->Prop}(I:Inv X pins σ H s)
  (h:ta σ H fun x H1=>tb σ H1 fun y H2=>R x y H2) {Q:Value->d4->Prop} {f:Value->Value->Sem Value}
  (hf:∀v u s2 x y H2,Inv X pins σ H2 s2->C7 x v->C7 y u->R x y H2->wpAny (model X.prog X.w) X.A (f v u) Q X.xe s2) :
  wpAny (model X.prog X.w) X.A (eval a X.env) (fun v s₁=>wpAny (model X.prog X.w) X.A (eval b X.env) (fun u s₂=>wpAny (model X.prog X.w) X.A (f v u) Q X.xe s₂) X.xe s₁) X.xe s:=by
 refine thn (ha pins s σ H _ I h) fun v s1 ⟨x,H1,I1,r1,q1⟩=>?_
 refine thn (hb pins s1 σ H1 _ I1 q1) fun u s2 ⟨y,H2,I2,r2,q2⟩=>?_
 exact hf v u s2 x y H2 I2 r1 r2 q2
theorem c6F{op:a9t}(ho:OpR X (Y0 op) r)(ha:PE X a ta)(hb:PE X b tb):PE X (.BinOp a op b pos) (tOp r ta tb):=by
 intro pins s σ H Q I h
 exact wpAny_BinOp (c5w ha hb I h fun v u s2 x y H2 I2 rx ry q=>ho pins s2 σ H2 x y v u Q I2 rx ry q)
theorem opI{f:Value->Value->Sem Value}{C:Int->Int->Prop}{g:Int->Int->Int}
  (rule:∀(i j:Int) (t u:Tok) (s:d4) (Q:Value->d4->Prop) (E:Value->d4->Prop),C i j->Q (.int (g i j) s.toks) { s with toks:=s.toks+1 }->wpAny (model X.prog X.w) X.A (f (.int i t) (.int j u)) Q E s) :
  OpR X f (rI C fun i j=>.int (g i j)):=by
 intro pins s σ H x y v u Q I rx ry h
 obtain⟨i,j,rfl,rfl,hc,q⟩:=h
 obtain⟨t,rfl⟩:=rx
 obtain⟨t',rfl⟩:=ry
 exact rule i j t t' s _ _ hc ⟨.int (g i j),H,I.tok _,⟨_,rfl⟩,q⟩
theorem c6S{f:Value->Value->Sem Value}{g:Int->Int->Int}
  (rule:∀(i j:Int) (t u:Tok) (s:d4) (Q:Value->d4->Prop) (E:Value->d4->Prop),Q (.int (g i j) s.toks) { s with toks:=s.toks+1 }->wpAny (model X.prog X.w) X.A (f (.int i t) (.int j u)) Q E s) :
  OpR X f (rI0 fun i j=>.int (g i j)):=by
 intro pins s σ H x y v u Q I rx ry h
 obtain⟨i,j,rfl,rfl,q⟩:=h
 obtain⟨t,rfl⟩:=rx
 obtain⟨t',rfl⟩:=ry
 exact rule i j t t' s _ _ ⟨.int (g i j),H,I.tok _,⟨_,rfl⟩,q⟩
theorem c1W{f:Value->Value->Sem Value}{g:Int->Int->Bool}
  (rule:∀(i j:Int) (t u:Tok) (s:d4) (Q:Value->d4->Prop) (E:Value->d4->Prop),Q (.bool (g i j)) s->wpAny (model X.prog X.w) X.A (f (.int i t) (.int j u)) Q E s) :
  OpR X f (rI0 fun i j=>.bl (g i j)):=by
 intro pins s σ H x y v u Q I rx ry h
 obtain⟨i,j,rfl,rfl,q⟩:=h
 obtain⟨t,rfl⟩:=rx
 obtain⟨t',rfl⟩:=ry
 exact rule i j t t' s _ _ ⟨.bl (g i j),H,I,rfl,q⟩
def c2K(i j:Int):Prop:=(-(2 ^ 64)<i/\i<2 ^ 64)\/(-(2 ^ 64)<j/\j<2 ^ 64)
theorem c2K.ok{i j:Int}(h:c2K i j):IntMulOk i j:=by
 rcases h with ⟨h1,h2⟩ | ⟨h1,h2⟩
 ·exact .of_left (intBits_le_64 h1 h2)
 ·exact .of_right (intBits_le_64 h1 h2)
theorem c4U:OpR X (Y0 .Add) (rI0 fun i j=>.int (i+j)):=c6S fun _ _ _ _ _ _ _ q=>add_int q
theorem c4I:OpR X (Y0 .Sub) (rI0 fun i j=>.int (i - j)):=c6S fun _ _ _ _ _ _ _ q=>sub_int q
theorem c4Q:OpR X (Y0 .Mult) (rI c2K fun i j=>.int (i * j)):=opI fun _ _ _ _ _ _ _ hc q=>mul_int q hc.ok
theorem c4R:OpR X (Y0 .Mod) (rI (fun _ j=>0<j) fun i j=>.int (i % j)):=opI fun i j _ _ _ _ _ hc q=>by
 have h1:(0:Int)<j:=hc
 exact mod_int' (by omega) (by rw[Int.fmod_eq_emod_of_nonneg i (by omega)];exact q)
end
def b2u:V->V->Bool
 | .non,.non=>true | .non,.int _=>true | .int _,.non=>true | .non,.bl _=>true | .bl _,.non=>true | .non,.str _=>true | .str _,.non=>true
 | .int _,.int _=>true | .bl _,.bl _=>true | .str _,.str _=>true | .byt _,.byt _=>true
 | .int _,.str _=>true | .str _,.int _=>true | .bl _,.str _=>true | .str _,.bl _=>true
 | _,_=>false
def rEq:R2:=fun x y H Q=>b2u x y=true/\Q (.bl (decide (x=y))) H
def rNe:R2:=fun x y H Q=>b2u x y=true/\Q (.bl (!decide (x=y))) H
theorem b5Q{i j:Int}:decide (V.int i=V.int j)=(i == j):=by
 rw[Q9]
 simp
theorem c0i{i j:Bool}:decide (V.bl i=V.bl j)=(i == j):=by
 rw[Q9]
 simp
theorem b5P{i j:Str}:decide (V.str i=V.str j)=(i == j):=by
 rw[Q9]
 simp
theorem b5R{i j:Array UInt8}:decide (V.byt i=V.byt j)=(i.toList == j.toList):=by
 rw[Q9]
 cases i
 cases j
 simp
section
variable {a b:Expr}{tb tc:TE}
theorem J4{Q:VK}{k k':Bool}(I:Inv X pins σ H s)(q:Q (.bl k) H)(e:k=k'):EP X pins σ Q (.bool k') s:=by
 subst e
 exact⟨.bl k,H,I,rfl,q⟩
theorem c6R:OpR X (o9 .Eq) rEq:=by
 intro pins s σ H x y v u Q I rx ry h
 obtain⟨hs,q⟩:=h
 cases x with
 | non=>
  cases rx
  cases y with
  | non=>cases ry;exact PySem.EqNone.eq_none_none (J4 I q (by simp))
  | bl j=>cases ry;exact PySem.EqNone.eq_none_bool (J4 I q (by simp))
  | int j=>obtain⟨t',rfl⟩:=ry;exact PySem.EqNone.eq_none_int (J4 I q (by simp))
  | str j=>obtain⟨t',rfl⟩:=ry;exact PySem.EqNone.eq_none_str (J4 I q (by simp))
  | _=>exact absurd (show false=true from hs) j5
 | bl i=>
  cases rx
  cases y with
  | non=>cases ry;exact PySem.EqNone.eq_bool_none (J4 I q (by simp))
  | bl j=>cases ry;exact eq_bool (J4 I q c0i)
  | str j=>obtain⟨t',rfl⟩:=ry;exact PySem.EqMixed.eq_bool_str (J4 I q (by simp))
  | _=>exact absurd (show false=true from hs) j5
 | int i=>
  obtain⟨t,rfl⟩:=rx
  cases y with
  | non=>cases ry;exact PySem.EqNone.eq_int_none (J4 I q (by simp))
  | int j=>obtain⟨t',rfl⟩:=ry;exact eq_int (J4 I q b5Q)
  | str j=>obtain⟨t',rfl⟩:=ry;exact PySem.EqMixed.eq_int_str (J4 I q (by simp))
  | _=>exact absurd (show false=true from hs) j5
 | str i=>
  obtain⟨t,rfl⟩:=rx
  cases y with
  | non=>cases ry;exact PySem.EqNone.eq_str_none (J4 I q (by simp))
  | bl j=>cases ry;exact PySem.EqMixed.eq_str_bool (J4 I q (by simp))
  | int j=>obtain⟨t',rfl⟩:=ry;exact PySem.EqMixed.eq_str_int (J4 I q (by simp))
  | str j=>obtain⟨t',rfl⟩:=ry;exact eq_str (J4 I q b5P)
  | _=>exact absurd (show false=true from hs) j5
 | byt i=>
  obtain⟨t,rfl⟩:=rx
  cases y with
  | byt j=>obtain⟨t',rfl⟩:=ry;exact PySem.W.eq_bytes (J4 I q b5R)
  | _=>exact absurd (show false=true from hs) j5
 | _=>cases y <;> exact absurd (show false=true from hs) j5
theorem c6M:OpR X (o9 .NotEq) rNe:=by
 intro pins s σ H x y v u Q I rx ry h
 obtain⟨hs,q⟩:=h
 cases x with
 | non=>
  cases rx
  cases y with
  | non=>cases ry;exact PySem.EqNone.ne_none_none (J4 I q (by simp))
  | bl j=>cases ry;exact PySem.EqNone.ne_none_bool (J4 I q (by simp))
  | int j=>obtain⟨t',rfl⟩:=ry;exact PySem.EqNone.ne_none_int (J4 I q (by simp))
  | str j=>obtain⟨t',rfl⟩:=ry;exact PySem.EqNone.ne_none_str (J4 I q (by simp))
  | _=>exact absurd (show false=true from hs) j5
 | bl i=>
  cases rx
  cases y with
  | non=>cases ry;exact PySem.EqNone.ne_bool_none (J4 I q (by simp))
  | bl j=>cases ry;exact ne_bool (J4 I q (congrArg not c0i))
  | str j=>obtain⟨t',rfl⟩:=ry;exact PySem.EqMixed.ne_bool_str (J4 I q (by simp))
  | _=>exact absurd (show false=true from hs) j5
 | int i=>
  obtain⟨t,rfl⟩:=rx
  cases y with
  | non=>cases ry;exact PySem.EqNone.ne_int_none (J4 I q (by simp))
  | int j=>obtain⟨t',rfl⟩:=ry;exact ne_int (J4 I q (congrArg not b5Q))
  | str j=>obtain⟨t',rfl⟩:=ry;exact PySem.EqMixed.ne_int_str (J4 I q (by simp))
  | _=>exact absurd (show false=true from hs) j5
 | str i=>
  obtain⟨t,rfl⟩:=rx
  cases y with
  | non=>cases ry;exact PySem.EqNone.ne_str_none (J4 I q (by simp))
  | bl j=>cases ry;exact PySem.EqMixed.ne_str_bool (J4 I q (by simp))
  | int j=>obtain⟨t',rfl⟩:=ry;exact PySem.EqMixed.ne_str_int (J4 I q (by simp))
  | str j=>obtain⟨t',rfl⟩:=ry;exact ne_str (J4 I q (congrArg not b5P))
  | _=>exact absurd (show false=true from hs) j5
 | byt i=>
  obtain⟨t,rfl⟩:=rx
  cases y with
  | byt j=>obtain⟨t',rfl⟩:=ry;exact PySem.W.ne_bytes (J4 I q (congrArg not b5R))
  | _=>exact absurd (show false=true from hs) j5
 | _=>cases y <;> exact absurd (show false=true from hs) j5
theorem c6N:OpR X (o9 .Lt) (rI0 fun i j=>.bl (decide (i<j))):=c1W fun _ _ _ _ _ _ _ q=>lt_int q
theorem c6O:OpR X (o9 .LtE) (rI0 fun i j=>.bl (decide (i<=j))):=c1W fun _ _ _ _ _ _ _ q=>le_int q
theorem c6P:OpR X (o9 .Gt) (rI0 fun i j=>.bl (decide (j<i))):=c1W fun _ _ _ _ _ _ _ q=>gt_int q
theorem c6Q:OpR X (o9 .GtE) (rI0 fun i j=>.bl (decide (j<=i))):=c1W fun _ _ _ _ _ _ _ q=>ge_int q
theorem b6R:OpR X (o9 .In) (fun x y H Q=>∃i j,x=.str i/\y=.str j/\Q (.bl (!(Builtin.Str.occurrences j i 0 j.length 1).isEmpty)) H):=by
 intro pins s σ H x y v u Q I rx ry h
 obtain⟨i,j,rfl,rfl,q⟩:=h
 obtain⟨t,rfl⟩:=rx
 obtain⟨t',rfl⟩:=ry
 exact in_str (J4 I q rfl)
theorem c1V:OpR X (o9 .IsNot) (fun x y H Q=>y=.non/\Q (.bl (!decide (x=.non))) H):=by
 intro pins s σ H x y v u Q I rx ry h
 obtain⟨rfl,q⟩:=h
 cases ry
 refine isnot_none_gen (J4 I q ?_)
 cases x <;> first
  | (cases rx;rfl)
  | (obtain⟨t,rfl⟩:=rx;rfl)
theorem OpR.or{f:Value->Value->Sem Value}{r':R2}(h:OpR X f r)(h':OpR X f r'):OpR X f (fun x y H Q=>r x y H Q\/r' x y H Q):=by
 intro pins s σ H x y v u Q I rx ry q
 rcases q with q | q
 ·exact h pins s σ H x y v u Q I rx ry q
 ·exact h' pins s σ H x y v u Q I rx ry q
theorem a8M(b:Expr){op:CmpOp}(h:op≠.In:=by decide)(h2:op≠.NotIn:=by decide):O4 op b=false:=by
 have e1:(op == CmpOp.In)=false:=by cases op <;> first | rfl | exact absurd rfl h
 have e2:(op == CmpOp.NotIn)=false:=by cases op <;> first | rfl | exact absurd rfl h2
 cases b <;> simp[O4,e1,e2]
theorem c1J{op:CmpOp}(ho:OpR X (o9 op) r)(ha:PE X a ta)(hb:PE X b tb)(hm:O4 op b=false):PE X (.Compare a [op] [b] pos) (tOp r ta tb):=by
 intro pins s σ H Q I h
 exact wpAny_Compare1 (c5w ha hb I h fun v u s2 x y H2 I2 rx ry q=>ho pins s2 σ H2 x y v u Q I2 rx ry q) hm
def C8(t:TE):TT:=fun σ H Q=>t σ H fun x H'=>∃k,x=.bl k/\Q k H'
theorem c1q{op:CmpOp}(ho:OpR X (o9 op) r)(ha:PE X a ta)(hb:PE X b tb)(hm:O4 op b=false):PT X (.Compare a [op] [b] pos) (C8 (tOp r ta tb)):=by
 intro pins s σ H Q I h
 refine c5T (thn (ha pins s σ H _ I h) fun v s1 ⟨x,H1,I1,r1,q1⟩=>thn (hb pins s1 σ H1 _ I1 q1) fun u s2 ⟨y,H2,I2,r2,q2⟩=>
  thn (ho pins s2 σ H2 x y v u _ I2 r1 r2 q2) fun c s3 ⟨z,H3,I3,r3,k,e,q3⟩=>?_) hm
 subst e
 cases r3
 exact J8 ⟨H3,I3,q3⟩
def a4a(r r':R2)(ta tb tc:TE):TE:=fun σ H Q=>ta σ H fun x H1=>tb σ H1 fun y H2=>r x y H2 fun z H3=>∃k,z=.bl k /\
 (if k=true then tc σ H3 fun w' H4=>r' y w' H4 Q else Q (.bl false) H3)
theorem b9x{op op':CmpOp}{r':R2}(ho:OpR X (o9 op) r)(ho':OpR X (o9 op') r')(ha:PE X a ta)(hb:PE X b tb)(hc:PE X c tc)
  (hm:c5X [op,op'] [b,c]=false:=by with_unfolding_all rfl):PE X (.Compare a [op,op'] [b,c] pos) (a4a r r' ta tb tc):=by
 intro pins s σ H Q I h
 refine Compare_chain (thn (ha pins s σ H _ I h) fun v s1 ⟨x,H1,I1,r1,q1⟩=>chain_link (thn (hb pins s1 σ H1 _ I1 q1) fun u s2 ⟨y,H2,I2,r2,q2⟩=>
  thn (ho pins s2 σ H2 x y v u _ I2 r1 r2 q2) fun d s3 ⟨z,H3,I3,r3,k,e,q3⟩=>?_)) hm
 subst e
 cases r3
 refine J8 ?_
 cases k with
 | false=>exact ite_ff ⟨.bl false,H3,I3,rfl,q3⟩
 | true=>exact ite_tt (chain_last (thn (hc pins s3 σ H3 _ I3 q3) fun w' s4 ⟨z',H4,I4,r4,q4⟩=>ho' pins s4 σ H4 y z' u w' Q I4 r2 r4 q4))
theorem b9h{op op':CmpOp}{r':R2}(ho:OpR X (o9 op) r)(ho':OpR X (o9 op') r')(ha:PE X a ta)(hb:PE X b tb)(hc:PE X c tc)
  (hm:c5X [op,op'] [b,c]=false:=by with_unfolding_all rfl):PT X (.Compare a [op,op'] [b,c] pos) (C8 (a4a r r' ta tb tc)):=by
 intro pins s σ H Q I h
 refine isTrue_chain (thn (ha pins s σ H _ I h) fun v s1 ⟨x,H1,I1,r1,q1⟩=>test_link (thn (hb pins s1 σ H1 _ I1 q1) fun u s2 ⟨y,H2,I2,r2,q2⟩=>
  thn (ho pins s2 σ H2 x y v u _ I2 r1 r2 q2) fun d s3 ⟨z,H3,I3,r3,k,e,q3⟩=>?_)) hm
 subst e
 cases r3
 refine J8 ?_
 cases k with
 | false=>
  obtain⟨k',e',q'⟩:=q3
  cases e'
  exact ite_ff ⟨H3,I3,q'⟩
 | true=>
  refine ite_tt (test_last (thn (hc pins s3 σ H3 _ I3 q3) fun w' s4 ⟨z',H4,I4,r4,q4⟩=>thn (ho' pins s4 σ H4 y z' u w' _ I4 r2 r4 q4) fun d' s5 ⟨z2,H5,I5,r5,k2,e2,q5⟩=>?_))
  subst e2
  cases r5
  exact J8 ⟨H5,I5,q5⟩
theorem a5E:(i8:Nat)<2 ^ 63:=by rw[sizeLine_eq];decide
theorem b4E:OpR X (Y0 .Add) (fun x y H Q=>∃i j,x=.str i/\y=.str j/\i.length+j.length<=i8/\Q (.str (i++j)) H):=by
 intro pins s σ H x y v u Q I rx ry h
 obtain⟨i,j,rfl,rfl,hz,q⟩:=h
 obtain⟨t,rfl⟩:=rx
 obtain⟨t',rfl⟩:=ry
 exact add_str (fun t' tk=>⟨.str (i++j),H,I.tok _,⟨_,rfl⟩,q⟩) hz
theorem a2j{x:V}(r:E6 [x] us):∃u,us=[u]/\C7 x u:=by
 cases r with
 | cons r1 r2=>cases r2;exact⟨_,rfl,r1⟩
theorem b8q{x:V}(r:E6 [x,y] us):∃u w',us=[u,w']/\C7 x u/\C7 y w':=by
 cases r with
 | cons r1 r2=>
  cases r2 with
  | cons r3 r4=>cases r4;exact⟨_,_,rfl,r1,r3⟩
theorem c0o:R8 X (.builtin "abs") (fun xs H Q=>∃i,xs=[.int i]/\Q (.int (if i<0 then -i else i)) H):=by
 intro pins s σ H xs us Q I r h
 obtain⟨i,rfl,q⟩:=h
 obtain⟨u,rfl,t,rfl⟩:=a2j r
 exact call_abs_int fun u tk=>⟨.int (if i<0 then -i else i),H,I.tok _,⟨_,rfl⟩,q⟩
theorem b7D(hc:X.calm=true):R8 X (.builtin "min") (fun xs H Q=>∃i j,xs=[.int i,.int j]/\Q (.int (if j<i then j else i)) H):=by
 intro pins s σ H xs us Q I r h
 obtain⟨i,j,rfl,q⟩:=h
 obtain⟨u,w',rfl,⟨t,rfl⟩,⟨t',rfl⟩⟩:=b8q r
 refine min_two_ints (I.ok.hd hc) fun h' tk k=>⟨_,H,I.kept k,?_,q⟩
 by_cases hj:j<i
 ·rw[if_pos hj,if_pos hj];exact⟨_,rfl⟩
 ·rw[if_neg hj,if_neg hj];exact⟨_,rfl⟩
theorem b1z:R8 X (.type "str") (fun xs H Q=>∃i,xs=[.int i]/\i.natAbs.log2<1920/\Q (.str (toString i)) H):=by
 intro pins s σ H xs us Q I r h
 obtain⟨i,rfl,hz,q⟩:=h
 obtain⟨u,rfl,t,rfl⟩:=a2j r
 exact PySem.P.str_of_int hz ⟨.str _,H,I.tok _,⟨_,rfl⟩,q⟩
end
structure b5g(h:Heap)(x dx C:Addr)(mA:Str->Option Value):Prop where
 obj:h.get? x=some (U7 C dx)
 ns:h.Ns1 dx mA
 ne:dx≠x
theorem b7b{mA:Str->Option Value}(n:h.Ns1 dx mA):∃od,h.get? dx=some od/\∀name,a4Q name od=some (mA name):=by
 obtain⟨o,es,ep,ho,hd,hk,_,hm⟩:=n
 refine⟨o,ho,fun name=>?_⟩
 have e:=hm name
 unfold nsFind findBy at e
 rw[<-Array.find?_toList]at e
 unfold a4Q
 rw[hd]
 dsimp only
 split
 ·rename_i y q
  rw[q]at e
  exact congrArg some e
 ·rename_i q
  rw[q]at e
  have a:es.toList.any (·.refKey)=false:=by
   rw[List.any_eq_false]
   intro y hy
   obtain⟨z,t,hkey⟩:=hk y (Array.mem_toList_iff.mp hy)
   simp[DictEntry.refKey,hkey]
  have a':¬es.toList.any (·.refKey)=true:=by rw[a];exact j5
  rw[if_neg a']
  exact congrArg some e
theorem b5g.look{x:Addr}{mA:Str->Option Value}(I:b5g h x dx C mA):∃od,PySem.W.InstAt h x (U7 C dx) C (some od)/\∀name,a4Q name od=some (mA name):=
 let⟨od,ho,hl⟩:=b7b I.ns
 ⟨od,⟨I.obj,rfl,rfl,ho⟩,hl⟩
section
variable {prog:u4}{A:F2}{E:Value->d4->Prop}{K:Fg}{x:Addr}{mA:Str->Option Value}{name:Str}{v:Value}
theorem c2s{expr:Bool}(X:K.In s.heap)(I:b5g s.heap x dx C mA)(hg:a1p K C name=true)(hh:a2J K C=true)
  (ha:C0 K (.ref C) name=some none) (hv:mA name=some v) (hv':c0y v=true) (h:Q v { s with toks:=s.toks+1 }) :
  wpAny (model prog w) A (getAttr (.ref x) name expr) Q E s:=by
 obtain⟨od,J,hl⟩:=I.look
 exact PySem.W.get_value X J (a5M hg).1 (PySem.W.findObj_own hh ha rfl (by rw[hl,hv])) hv' h
theorem c0a{pl:Sem Bool}{Q:Value×List Value->d4->Prop}(X:K.In s.heap)(I:b5g s.heap x dx C mA)(hg:a1p K C name=true)
  (hf:C0 K (.ref C) name=some (some (.ref f))) (ht:a7j K (.ref f)=true) (hv:mA name=none) (h:Q (.ref f,[.ref x]) s) :
  wpAny (model prog w) A (a5Q (.ref x) name pl) Q E s:=by
 obtain⟨od,J,hl⟩:=I.look
 exact PySem.W.method_fn X J (a5M hg).1 (a5M hg).2 hf (beq_iff_eq.mp ht) (by show(a4Q name od).map (·.isSome)=some false;rw[hl,hv];rfl) h
theorem c0W{ns:List Str}{Q:Unit->d4->Prop}(X:K.In s.heap)(I:b5g s.heap x dx C mA)
  (hs:C0 K (.ref C) "__setattr__" = some (some (.builtin "object.__setattr__"))) (hp:a7h K C=true) (ht:a9o K C name=some none) (hh:a2J K C=true)
  (hw:PySem.Within mA ns) (hsz:ns.length<=i8)
  (h:∀h',b5g h' x dx C (fun y=>if y=name then some v else mA y)->Heap.SameBut dx s.heap h'->Q () { s with heap:=h',toks:=s.toks+2 }) :
  wpAny (model prog w) A (setAttr (.ref x) name v) Q E s:=by
 obtain⟨od,J,hl⟩:=I.look
 refine PySem.W.set_plain X J hs (PySem.W.osa_open (s:={ s with toks:=s.toks+1 }) (r:=none) X J hp ht fun b=>?_)
 obtain⟨cd,hc,hd'⟩:=PySem.W.any_some hh
 have hx:s.heap.get? x=some ⟨.ref C,some dx,.plain,#[]⟩:=I.obj
 refine a8 (b6 (a8 (a8 (wpAny_loadPart hx (a8 (PySem.W.Looks.here (s:={ s with toks:=s.toks+1 }) (PySem.W.looks_clsIn X hc) ?_))))))
 rw[hd']
 refine b6 (a:=some dx) (a8 (b6 (a8 ?_)))
 refine wpAny_nsSet1 (s:={ s with toks:=s.toks+1 }) I.ns fun h' hn2 hs2=>?_
 obtain⟨oD,esD,epD,hoD,hdD,hcD⟩:=hn2.count (PySem.Within.cons name v hw)
 refine a8 (wpAny_lookBehind hoD (by rw[hdD];exact pastItsLine_dict (A1 hcD (by rw[y8];omega))) ?_)
 exact b6 (h _ ⟨(hs2.2 _ (Ne.symm I.ne)).trans I.obj,hn2,I.ne⟩ hs2)
theorem b9O{R:b1V->d4->Prop}{vs:List Value}{kw:List (Str×Value)}(X:K.In s.heap)(hm:a3Q K C=true)
  (hi:C0 K (.ref C) "__init__" = some (some (.ref f))) (hf:PySem.W.typeIn K (.ref f)=some (.type "function"))
  (h:a1r (model prog w) (A.under (.builtin "type.__call__" ⟨.ref C::vs,kw⟩)) (.call (.ref f) ⟨.ref (s.heap.objs.size+1)::vs,kw⟩) (PySem.W.InitBack (s.heap.objs.size+1) R)
   { s with heap:=(s.heap.push L6).push (U7 C s.heap.objs.size) }) :
  a1r (model prog w) A (.call (.ref C) ⟨vs,kw⟩) R s:=by
 obtain⟨hh,g,d,t,os⟩:=s
 exact PySem.W.make_core (PySem.W.makes_of X hm) (PySem.W.looks_findIn X hi) (fun self=>PySem.W.bind_fn X self hf) (.inl rfl) h
end
def a2g(f:Str)(v:V):List (Str×V)->List (Str×V)
 | []=>[(f,v)]
 | (g,x)::r=>if g=f then (g,v)::r else (g,x)::a2g f v r
theorem a7q(f g:Str)(v:V):∀fs:List (Str×V),(a2g f v fs).lookup g=if g=f then some v else fs.lookup g
 | []=>by
  show a1H g [(f,v)]=_
  by_cases h:g=f
  ·have hb:(g == f)=true:=beq_iff_eq.mpr h
   simp only[a1H,hb,if_pos h]
  ·have hb:(g == f)=false:=beq_eq_false_iff_ne.mpr h
   simp only[a1H,hb,if_neg h]
 | (k,x)::r=>by
  have ih:=a7q f g v r
  rw[show a2g f v ((k,x)::r)=(if k=f then (k,v)::r else (k,x)::a2g f v r)from rfl]
  by_cases hk:k=f
  ·rw[if_pos hk]
   by_cases h:g=k
   ·have hb:(g == k)=true:=beq_iff_eq.mpr h
    simp only[a1H,hb,if_pos (h.trans hk)]
   ·have hb:(g == k)=false:=beq_eq_false_iff_ne.mpr h
    simp only[a1H,hb,if_neg (fun e:g=f=>h (e.trans hk.symm))]
  ·rw[if_neg hk]
   by_cases h:g=k
   ·have hb:(g == k)=true:=beq_iff_eq.mpr h
    simp only[a1H,hb,if_neg (fun e:g=f=>hk (h.symm.trans e))]
   ·have hb:(g == k)=false:=beq_eq_false_iff_ne.mpr h
    simp only[a1H,hb]
    exact ih
theorem a6Z(f:Str)(v:V):∀fs:List (Str×V),f∈(a2g f v fs).map (·.1)/\∀g,g∈fs.map (·.1)->g∈(a2g f v fs).map (·.1)
 | []=>⟨by simp[a2g],fun g h=>by simp at h⟩
 | (k,x)::r=>by
  obtain⟨i1,i2⟩:=a6Z f v r
  rw[show a2g f v ((k,x)::r)=(if k=f then (k,v)::r else (k,x)::a2g f v r)from rfl]
  by_cases hk:k=f
  ·rw[if_pos hk]
   subst hk
   exact⟨by simp,fun g h=>by simpa using h⟩
  ·rw[if_neg hk]
   refine⟨?_,fun g h=>?_⟩
   ·rw[F6]
    exact D0 _ i1
   ·rw[F6]at h ⊢
    rcases d8.mp h with e | e
    ·exact d8.mpr (.inl e)
    ·exact D0 _ (i2 g e)
theorem a7r(f:Str)(v:V):∀fs:List (Str×V),(a2g f v fs).length<=fs.length+1
 | []=>by simp[a2g]
 | (k,x)::r=>by
  have ih:=a7r f v r
  rw[show a2g f v ((k,x)::r)=(if k=f then (k,v)::r else (k,x)::a2g f v r)from rfl]
  by_cases hk:k=f
  ·rw[if_pos hk,y8,y8];omega
  ·rw[if_neg hk,y8,y8];omega
theorem a4O.some_of{o:Option Value}(r:a4O (some v) o):∃u,o=some u/\C7 v u:=by
 cases o with
 | none=>exact(show False from r).elim
 | some u=>exact⟨u,rfl,r⟩
theorem a4O.none_of{o:Option Value}(r:a4O none o):o=none:=by
 cases o with
 | none=>rfl
 | some u=>exact(show False from r).elim
theorem b7k(r:C7 v u):c0y u=true:=by
 cases v with
 | non=>cases (show u=Value.none from r);rfl
 | bl b=>cases (show u=Value.bool b from r);rfl
 | int i=>obtain⟨t,e⟩:=(show ∃t,u=Value.int i t from r);cases e;rfl
 | str x=>obtain⟨t,e⟩:=(show ∃t,u=Value.str x t from r);cases e;rfl
 | byt b=>obtain⟨t,e⟩:=(show ∃t,u=Value.bytes b t from r);cases e;rfl
 | flt b=>obtain⟨t,e⟩:=(show ∃t,u=Value.float b t from r);cases e;rfl
 | ref a=>cases (show u=Value.ref a from r);rfl
 | ty n=>cases (show u=Value.type n from r);rfl
section
variable {P:u4}{fs fs':List (Str×V)}
theorem a7N(hok:HOk P w H h)(e:H a=some (.ins C dx fs)):∃mA,b5g h a dx C mA/\(∀f,a4O (fs.lookup f) (mA f))/\PySem.Within mA (fs.map (·.1))/\fs.length<=1000/\H dx=some (.own a):=by
 obtain⟨d,z,ne,ob,mA,n,r,q⟩:=(show Q7 P w H h a (.ins C dx fs)from hok a _ e)
 exact⟨mA,⟨ob,n,ne⟩,r,q,z,d⟩
end
structure Cls(K:Fg)(C:Addr):Prop where
 pg:a1p K C Str.empty=true
 hd:a2J K C=true
 po:a7h K C=true
 sa:C0 K (.ref C) "__setattr__" = some (some (.builtin "object.__setattr__"))
theorem Cls.get{K:Fg}(c:Cls K C)(f:Str):a1p K C f=true:=c.pg
def a2e(K:Fg)(C:Addr)(f:Str):Prop:=C0 K (.ref C) f=some none
theorem a2e.taker{K:Fg}{f:Str}(n:a2e K C f):a9o K C f=some none:=by
 unfold a9o
 rw[show C0 K (.ref C) f=some none from n]
 rfl
structure Con(K:Fg)(C:Addr)(f:Str)(v:V)(u:Value):Prop where
 at_:C0 K (.ref C) f=some (some u)
 rel:C7 v u
 get:a7g K u "__get__" = some none
 cp:PySem.W.copiedNames.contains f=false
structure c2H(K:Fg)(C:Addr)(m:Str)(f:Addr):Prop where
 at_:C0 K (.ref C) m=some (some (.ref f))
 fn:a7j K (.ref f)=true
 kp:T0 K (.ref f)=true
section
variable {fs:List (Str×V)}{f:Str}{A:F2}{E:Value->d4->Prop}
theorem b4S{b:Bool}(I:Inv X pins σ H s)(e:H a=some (.ins C dx fs))(c:Cls X.K C)(n:a2e X.K C f)(l:fs.lookup f=some v)
  (h:∀u s',Inv X pins σ H s'->C7 v u->Q u s'):wpAny (model X.prog X.w) A (getAttr (.ref a) f b) Q E s:=by
 obtain⟨mA,O,r,_,_,_⟩:=a7N I.hok e
 obtain⟨u,hu,ru⟩:=a4O.some_of (v:=v) (o:=mA f) (by rw[<-l];exact r f)
 exact c2s I.kIn O (c.get f) c.hd n hu (b7k ru) (h u _ (I.tok _) ru)
theorem a8W{m:Str}{g:Addr}{pl:Sem Bool}{Q:Value×List Value->d4->Prop}(I:Inv X pins σ H s)(e:H a=some (.ins C dx fs))(c:Cls X.K C)(k:c2H X.K C m g)(l:fs.lookup m=none)
  (h:Q (.ref g,[.ref a]) s):wpAny (model X.prog X.w) A (a5Q (.ref a) m pl) Q E s:=by
 obtain⟨mA,O,r,_,_,_⟩:=a7N I.hok e
 have hn:mA m=none:=a4O.none_of (by rw[<-l];exact r m)
 exact c0a I.kIn O (c.get m) k.at_ k.fn hn h
theorem b4c{Q:Unit->d4->Prop}(I:Inv X pins σ H s)(e:H a=some (.ins C dx fs))(c:Cls X.K C)(n:a2e X.K C f)(hl:fs.length<1000)(ry:C7 y u)
  (h:∀s',Inv X pins σ (upd H a (.ins C dx (a2g f y fs))) s'->Q () s'):wpAny (model X.prog X.w) A (setAttr (.ref a) f u) Q E s:=by
 obtain⟨mA,O,r,wi,_,ho⟩:=a7N I.hok e
 have hz:(fs.map (·.1)).length<=i8:=by rw[a9,sizeLine_eq];omega
 refine c0W I.kIn O c.sa c.po n.taker c.hd wi hz fun h' O' sb=>h _ ?_
 have hd:∃o,h'.get? dx=some o:=let⟨o,_,_,e',_⟩:=O'.ns; ⟨o,e'⟩
 refine I.write (x:=a) (e:=dx) (by rw[e];exact True.intro) (.inr ho) (fun b q hb z=>(sb.2 b hb).trans z) hd ?_
 refine⟨by rw[g6 O.ne];exact ho,?_,O.ne,O'.obj,_,O'.ns,fun g=>?_,fun g hg=>?_⟩
 ·have:=a7r f y fs;omega
 ·show a4O ((a2g f y fs).lookup g) (if g=f then some u else mA g)
  rw[a7q]
  by_cases q:g=f
  ·rw[if_pos q,if_pos q];exact ry
  ·rw[if_neg q,if_neg q];exact r g
 ·by_cases q:g=f
  ·rw[q];exact(a6Z f y fs).1
  ·refine(a6Z f y fs).2 g (wi g fun z=>hg ?_)
   show(if g=f then some u else mA g)=none
   rw[if_neg q];exact z
theorem Inv.made(I:Inv X pins σ H s):Inv X pins σ (upd (upd H s.heap.objs.size (.own (s.heap.objs.size+1))) (s.heap.objs.size+1) (.ins C s.heap.objs.size []))
  { s with heap:=(s.heap.push L6).push (U7 C s.heap.objs.size) }:=by
 have e1:(s.heap.push L6).get? s.heap.objs.size=some L6:=d7 s.heap rfl
 have e2:((s.heap.push L6).push (U7 C s.heap.objs.size)).get? (s.heap.objs.size+1)=some (U7 C s.heap.objs.size):=by
  have:=d7 (s.heap.push L6) (o:=U7 C s.heap.objs.size) rfl
  rwa [X3]at this
 have e3:(s.heap.push L6).Ns s.heap.objs.size (fun _=>none):=⟨L6,#[],_,e1,rfl,(fun e he=>absurd he (by simp)),fun _=>rfl⟩
 have I1:=I.laid (a:=s.heap.objs.size) (o:=.own (s.heap.objs.size+1)) (h':=s.heap.push L6) (t':=s.toks) (fun b u q=>b8 _ q) (d3 _) ⟨_,e1⟩
 refine I1.laid (a:=s.heap.objs.size+1) (o:=.ins C s.heap.objs.size []) (t':=s.toks) (fun b u q=>b8 _ q) (b7K (X3 _ _)) ?_
 have ne:s.heap.objs.size≠s.heap.objs.size+1:=j8 (a4u _)
 refine⟨by rw[g6 ne,c9],E9 _,ne,e2,fun _=>none,(Heap.Ns1.of_empty e3).at fun o q=>b8 _ q,fun _=>True.intro,fun y hy=>absurd rfl hy⟩
theorem c2A{prog:u4}{env:Env}(hb:a0a e f env (eval e env)=eval e env)
  (h:wpAny (model prog w) A (eval e env) (fun o s₁=>wpAny (model prog w) A (getAttr o f true) Q E s₁) E s):wpAny (model prog w) A (eval (.Attribute e f pos) env) Q E s:=
 Attribute_any_ h (by rw[arm_eval_Attribute,hb])
end
def b3V(K:Fg)(ta:TE)(f:Str):TE:=fun σ H Q=>ta σ H fun x H1=>∃a C dx fs v,x=.ref a/\H1 a=some (.ins C dx fs)/\Cls K C/\a2e K C f/\fs.lookup f=some v/\Q v H1
def b6E(K:Fg)(ta tv:TE)(f:Str):TS:=fun D σ H=>tv σ H fun y H1=>ta σ H1 fun x H2=>∃a C dx fs,x=.ref a/\H2 a=some (.ins C dx fs)/\Cls K C/\a2e K C f/\fs.length<1000 /\
 D.nx σ (upd H2 a (.ins C dx (a2g f y fs)))
section
variable {o value:Expr}{f:Str}{tpos:Pos}{tv:TE}
theorem c4D(he:PE X e ta)(hb:a0a e f X.env (eval e X.env)=eval e X.env):PE X (.Attribute e f pos) (b3V X.K ta f):=by
 intro pins s σ H Q I h
 refine c2A hb (thn (he pins s σ H _ I h) fun u s1 ⟨x,H1,I1,rx,a,C,dx,fs,v,ex,ea,c,n,l,q⟩=>?_)
 subst ex
 obtain rfl:u=Value.ref a:=rx
 exact b4S I1 ea c n l fun u' s2 I2 ru=>⟨v,H1,I2,ru,q⟩
theorem c4n(ha:PE X o ta)(hv:PE X value tv)(hs:a1J value (some (.Attribute o f pos')) pos.line X.env=pure false):PS X (.Assign [.Attribute o f pos'] value pos) (b6E X.K ta tv f):=by
 intro pins s σ H D I h
 refine plainObj_wpAny_Assign_Attribute (thn (hv pins s σ H _ I h) fun u s1 ⟨y,H1,I1,ry,q⟩=>thn (ha pins s1 σ H1 _ I1 q) fun ov s2 ⟨x,H2,I2,rx,a,C,dx,fs,ex,ea,c,n,l,q2⟩=>?_) hs
 subst ex
 obtain rfl:ov=Value.ref a:=rx
 exact b4c I2 ea c n l ry fun s3 I3=>⟨σ,_,I3,q2⟩
end
section
variable {A:F2}{E:Value->d4->Prop}{c:Value}{b:Bool}
inductive a7e(K:Fg)(H:Hp):V->Value->Prop where
 | non:a7e K H .non (.type "NoneType")
 | bl (x:Bool):a7e K H (.bl x) (.type "bool")
 | int (i:Int):a7e K H (.int i) (.type "int")
 | str (x:Str):a7e K H (.str x) (.type "str")
 | flt (x:UInt64):a7e K H (.flt x) (.type "float")
 | lst {a:Addr} {xs:List V} (e:H a=some (.lst xs)):a7e K H (.ref a) (.type "list")
 | frz {a:Addr} {o:Obj} {xs:List V} (e:H a=some (.frz o (.lst xs))):a7e K H (.ref a) (.type "list")
 | tup {a:Addr} {xs:List V} (e:H a=some (.tup xs)):a7e K H (.ref a) (.type "tuple")
 | dK {a:Addr} {kvs:List (Key×V)} (e:H a=some (.dK kvs)):a7e K H (.ref a) (.type "dict")
 | dT {a:Addr} {kvs:List (List Key×V)} (e:H a=some (.dT kvs)):a7e K H (.ref a) (.type "dict")
 | ins {a C dx:Addr} {fs:List (Str×V)} (e:H a=some (.ins C dx fs)) (cl:Cls K C) (ha:C0 K (.ref C) "__class__" = some (some (.builtin "object.__class__")))
   (hn:a7g K (.builtin "object.__class__") "__get__" = some (some (.builtin "getset_descriptor.__get__"))) (htk:c0C K (.builtin "object.__class__")=some true)
   (hm:c3q K C (.type "object")=some true):a7e K H (.ref a) (.ref C)
theorem b7f{x:V}{t:Value}(I:Inv X pins σ H s)(rx:C7 x u)(ty:a7e X.K H x t)(e:c2L X.K t c=some b)(h:∀tk,Q (.bool b) { s with toks:=tk }) :
  wpAny (model X.prog X.w) A (call (.builtin "isinstance") [u,c]) Q E s:=by
 cases ty with
 | non=>cases (show u=Value.none from rx);exact J9 PySem.W.kitx_none I.kIn True.intro e (fun z=>nomatch z) h
 | bl y=>cases (show u=Value.bool y from rx);exact J9 PySem.W.kitx_bool I.kIn True.intro e (fun z=>nomatch z) h
 | int i=>obtain⟨t,q⟩:=(show ∃t,u=Value.int i t from rx);cases q;exact J9 PySem.W.kitx_int I.kIn True.intro e (fun z=>nomatch z) h
 | str y=>obtain⟨t,q⟩:=(show ∃t,u=Value.str y t from rx);cases q;exact J9 PySem.W.kitx_str I.kIn True.intro e (fun z=>nomatch z) h
 | flt y=>obtain⟨t,q⟩:=(show ∃t,u=Value.float y t from rx);cases q;exact J9 PySem.W.kitx_float I.kIn True.intro e (fun z=>nomatch z) h
 | @lst a xs ea=>
  cases (show u=Value.ref a from rx)
  obtain⟨_,_,n,_,h1⟩:=(show Q7 X.prog X.w H s.heap a (.lst xs)from I.hok a _ ea)
  exact J9 b7O I.kIn ⟨_,h1,rfl⟩ e (fun z=>nomatch z) h
 | @frz a ob xs ea=>
  cases (show u=Value.ref a from rx)
  obtain⟨_,_,_,n,_,h1⟩:=(show Q7 X.prog X.w H s.heap a (.frz ob (.lst xs))from I.hok a _ ea)
  exact J9 b7O I.kIn ⟨_,h1,rfl⟩ e (fun z=>nomatch z) h
 | @tup a xs ea=>
  cases (show u=Value.ref a from rx)
  obtain⟨_,_,_,p⟩:=(show Q7 X.prog X.w H s.heap a (.tup xs)from I.hok a _ ea)
  obtain⟨o,h1,h2,_⟩:=p
  exact J9 PySem.W.kitx_tuple I.kIn ⟨o,h1,h2⟩ e (fun z=>nomatch z) h
 | @dK a kvs ea=>
  cases (show u=Value.ref a from rx)
  obtain⟨_,_,vs,_,p⟩:=(show Q7 X.prog X.w H s.heap a (.dK kvs)from I.hok a _ ea)
  obtain⟨o,es,ep,h1,h2,_⟩:=p
  exact J9 b7P I.kIn ⟨o,h1,h2.1⟩ e (fun z=>nomatch z) h
 | @dT a kvs ea=>
  cases (show u=Value.ref a from rx)
  obtain⟨_,_,xs,_,o,es,ep,h1,h2,_⟩:=(show Q7 X.prog X.w H s.heap a (.dT kvs)from I.hok a _ ea)
  exact J9 b7P I.kIn ⟨o,h1,h2.1⟩ e (fun z=>nomatch z) h
 | @ins a C dx fs ea cl ha hn htk hm=>
  cases (show u=Value.ref a from rx)
  obtain⟨mA,O,_⟩:=a7N I.hok ea
  obtain⟨od,J,_⟩:=O.look
  exact J9 (PySem.W.kitx_own (cl.get _) cl.hd ha hn htk hm) I.kIn J e (fun z=>nomatch z) h
end
structure O9(k:Nat)(A:F2):Prop where
 hd:A.handled=none
 dp:A.depth+3 * k+5<recursionLimit
 un:A.units+16 * k+200<cLine
theorem O9.mono{j k:Nat}{A:F2}(r:O9 k A)(h:j<=k):O9 j A:=⟨r.hd,by have:=r.dp;omega,by have:=r.un;omega⟩
theorem O9.deeper{k:Nat}{A:F2}(r:O9 (k+1) A)(env:Env):O9 k (A.deeper env):=
 ⟨r.hd,by have:=r.dp;show A.depth+1+3 * k+5<_;omega,by have:=r.un;show A.units+3+16 * k+200<_;omega⟩
theorem b4O{A:F2}{kw:List (Str×Value)}:(A.under (.builtin "type.__call__" ⟨.ref C::us,kw⟩)).depth=A.depth+1:=by
 first | rfl | simp[Around.under,Code.weight,Code.isCreation,Code.isGuard,Code.isCaller,Code.frames,Code.isFrame,guardIds]
theorem b4N{A:F2}{kw:List (Str×Value)}:(A.under (.builtin "type.__call__" ⟨.ref C::us,kw⟩)).units=A.units+1:=by
 first | rfl | simp[Around.under,Code.cUnits,Code.frames,Code.isFrame]
theorem O9.make{k:Nat}{A:F2}(r:O9 (k+1) A)(C:Addr)(us:List Value)(kw:List (Str×Value)):O9 k (A.under (.builtin "type.__call__" ⟨.ref C::us,kw⟩)):=
 ⟨r.hd,by have:=r.dp;rw[b4O];omega,by have:=r.un;rw[b4N];omega⟩
theorem O9.depth{k:Nat}{A:F2}(r:O9 k A):A.depth<recursionLimit:=by have:=r.dp;omega
theorem O9.units{k:Nat}{A:F2}(r:O9 k A):A.units+64<cLine:=by have:=r.un;omega
theorem O9.units0{k:Nat}{A:F2}(r:O9 k A):A.units<cLine:=by have:=r.un;omega
def g0:TA:=fun _ H Q=>Q [] H
def b4(ta:TE)(tr:TA):TA:=fun σ H Q=>ta σ H fun x H1=>tr σ H1 fun xs H2=>Q (x::xs) H2
section
variable {t:TA}
theorem c4H:PA X [] g0:=fun _ _ _ _ H Q I h=>Calls.spliced_nil ⟨[],H,I,.nil,h⟩
theorem c1M(ha:PE X e te)(hr:PA X es t)(hs:d9 (e::es) X.env=(false,eval e X.env)::d9 es X.env:=by rfl):PA X (e::es) (b4 te t):=by
 intro pos pins s σ H Q I h
 rw[hs]
 show wpAny _ _ (spliced ((false,eval e X.env)::W7 pos (d9 es X.env))) _ _ s
 refine Calls.spliced_cons (thn (ha pins s σ H _ I h) fun u s1 ⟨x,H1,I1,r1,q1⟩=>?_)
 exact thn (hr pos pins s1 σ H1 _ I1 q1) fun us s2 ⟨xs,H2,I2,r2,q2⟩=>⟨x::xs,H2,I2,.cons r1 r2,q2⟩
def a2f(t:TA):TE:=fun σ H Q=>t σ H fun xs H1=>xs.length<=i8/\∀p,H1 p=none->Q (.ref p) (upd H1 p (.tup xs))
def X0(t:TA):TE:=fun σ H Q=>t σ H fun xs H1=>xs.length<=i8/\∀p,H1 p=none->Q (.ref p) (upd H1 p (.lst xs))
theorem c4u{x1}(h:PA X es t):PE X (.Tuple es x1 pos) (a2f t):=by
 intro pins s σ H Q I hq
 refine wpAny_Tuple_spliced (thn (h pos pins s σ H _ I hq) fun us s1 ⟨xs,H1,I1,r,z,q⟩=>⟨by rw[<-r.length];exact z,?_⟩)
 have hf:H1 s1.heap.objs.size=none:=I1.hok.fresh (d3 _)
 refine⟨.ref s1.heap.objs.size,upd H1 s1.heap.objs.size (.tup xs),I1.laid (t':=s1.toks) (fun b u e=>b8 _ e) (d3 _) ?_,rfl,q _ hf⟩
 exact⟨z,us,r,⟨_,d7 _ rfl,rfl,_,rfl⟩⟩
theorem c4B(h:PA X es t):PE X (.List es pos) (X0 t):=by
 intro pins s σ H Q I hq
 refine wpAny_List_spliced (thn (h pos pins s σ H _ I hq) fun us s1 ⟨xs,H1,I1,r,z,q⟩=>⟨by rw[<-r.length];exact z,?_⟩)
 have hf:H1 s1.heap.objs.size=none:=I1.hok.fresh (d3 _)
 refine⟨.ref s1.heap.objs.size,upd H1 s1.heap.objs.size (.lst xs),I1.laid (t':=s1.toks) (fun b u e=>b8 _ e) (d3 _) ?_,rfl,q _ hf⟩
 exact⟨z,us,0,r,d7 _ rfl⟩
end
abbrev Sp:=List V->Hp->VK->XK->Prop
abbrev CXT:=List Env->Hp->d4->XK->Value->d4->Prop
variable{CX:CXT}
structure b5h(P:u4)(w:World)(K:Fg)(mg:Str->Option Value)(base:Heap)(A:F2)(outer:List Env)(s:d4)(H:Hp):Prop where
 frames:A.frames=some outer
 mod:Mod K mg base
 bs:∀b o,base.get? b=some o->s.heap.get? b=some o/\H b=none
 bsz:base.objs.size<=s.heap.objs.size
 funs:s.heap.FunFrames base outer
 frf:∀b∈frs outer,H b=none
 hok:HOk P w H s.heap
 bare:b0E s.gens
def CE(outer:List Env)(P:u4)(w:World)(H:Hp)(s:d4)(Q:VK)(u:Value)(s':d4):Prop:=
 ∃v H',s'.os=s.os/\b0E s'.gens/\Un (frs outer) [] H H' s.heap s'.heap/\HOk P w H' s'.heap/\C7 v u/\Q v H'
def CR(CX:CXT)(outer:List Env)(P:u4)(w:World)(H:Hp)(s:d4)(Q:VK)(E:XK)(r:b1V)(s':d4):Prop:=
 match r with
 | .ok (.ret u)=>CE outer P w H s Q u s'
 | .ok _=>False
 | .error e=>CX outer H s E e s'
structure K6(P:u4)(w:World)(K:Fg)(mg:Str->Option Value)(base:Heap)(CX:CXT)(k:Nat)(f:Addr)(fd:Y1)(ps:List Str)(sp:Sp):Prop where
 len:∀vs H Q E,sp vs H Q E->vs.length=ps.length
 run:∀(A:F2) (outer:List Env) (s:d4) (H:Hp) (args:Args) (us:List Value) (vs:List V) (Q:VK) (E:XK),O9 k A->b5h P w K mg base A outer s H->b8b s fd args (ps.zip us)->E6 vs us->sp vs H Q E ->
  a1r (model P w) A (.call (.ref f) args) (CR CX outer P w H s Q E) s
theorem b5h.make{P:u4}{K:Fg}{mg:Str->Option Value}{base:Heap}{A:F2}{outer:List Env}(e:b5h P w K mg base A outer s H)(C:Addr)(us:List Value)(kw:List (Str×Value)) :
  b5h P w K mg base (A.under (.builtin "type.__call__" ⟨.ref C::us,kw⟩)) outer s H:=⟨by first | exact e.frames | (simpa[Around.under,Code.envs,Code.isFrame,pushEnvs]using e.frames),e.mod,e.bs,e.bsz,e.funs,e.frf,e.hok,e.bare⟩
section
variable {s':d4}
theorem Inv.env0(I:Inv X pins σ H s):b5h X.prog X.w X.K X.mg X.base X.A X.stack s H:=
 ⟨I.ok.frames,I.ok.mod,I.bs,A1 I.ok.bsz I.sz,I.stack,I.stkFree,I.hok,I.bare⟩
theorem Inv.after{Q:VK}(I:Inv X pins σ H s)(h:CE X.stack X.prog X.w H s Q u s'):EP X pins σ Q u s':=by
 obtain⟨v,H',os,bare,un,hok,r,q⟩:=h
 obtain⟨hh,g,d,t,os'⟩:=s'
 obtain rfl:os'=s.os:=os
 exact⟨v,H',I.call (h':=hh) (g':=g) (d':=d) (t':=t) (ch:=[]) un hok bare (fun b z=>absurd z (by simp)),r,q⟩
end
def u0(sp:Sp)(dvs:List V)(E:XK)(t:TA):TE:=fun σ H Q=>t σ H fun vs H1=>sp (vs++dvs) H1 Q E
def a6a(C:Addr)(m:Str)(sp:Sp)(dvs:List V)(E:XK)(ta:TE)(t:TA):TE:=fun σ H Q=>ta σ H fun x H1=>∃a dx fs,x=.ref a/\H1 a=some (.ins C dx fs)/\fs.lookup m=none /\
 t σ H1 fun vs H2=>sp (x::(vs++dvs)) H2 Q E
def b0a(C:Addr)(sp:Sp)(dvs:List V)(E:XK)(t:TA):TE:=fun σ H Q=>t σ H fun vs H1=>∀x dx,H1 x=none->H1 dx=none->dx≠x ->
 sp (.ref x::(vs++dvs)) (upd (upd H1 dx (.own x)) x (.ins C dx [])) (fun v H2=>v=.non/\Q (.ref x) H2) E
def a3b(K:Fg)(fd:Y1)(ps:List Str)(ds:List Value):Prop:=
 ∀(s:d4) (us:List Value),K.In s.heap->(us++ds).length=ps.length->b8b s fd ⟨us,[]⟩ (ps.zip (us++ds))
theorem a3b.all{K:Fg}{fd:Y1}(h:∀us:List Value,us.length=ps.length->bindArgs fd ⟨us,[]⟩=pure (ps.zip us)):a3b K fd ps []:=fun s us _ hl=>by
 rw[b0z]at hl ⊢
 exact .of_eq (h us hl)
def a5J(CX:CXT)(X:Cx)(E:XK):Prop:=∀(pins:List (Addr×Obj)) (σ:St) (H:Hp) (s:d4) (e:Value) (s':d4),Inv X pins σ H s->CX X.stack H s E e s'->X.xe e s'
section
variable {k:Nat}{fd:Y1}{sp:Sp}{dvs:List V}{ds:List Value}{E:XK}{x m:Str}{apos:Pos}{o:Expr}{t:TA}
theorem b4m{Q:VK}{vs:List V}(F:K6 X.prog X.w X.K X.mg X.base CX k f fd ps sp)(hr:O9 k X.A)(hb:a3b X.K fd ps ds)(hd:E6 dvs ds)(hx:a5J CX X E)
  (I:Inv X pins σ H s) (r:E6 vs us) (h:sp (vs++dvs) H Q E):wpAny (model X.prog X.w) X.A (call (.ref f) us) (EP X pins σ Q) X.xe s:=by
 have r2:E6 (vs++dvs) (us++ds):=r.append hd
 have hl:(us++ds).length=ps.length:=by rw[<-r2.length];exact F.len _ _ _ _ h
 refine wpAny_call (a2M (F.run X.A X.stack s H ⟨us,[]⟩ (us++ds) (vs++dvs) Q E hr I.env0 (hb s us I.kIn hl) r2 h) fun r s' hq=>?_)
 cases r with
 | error e=>exact hx pins σ H s e s' I hq
 | ok fl=>
  cases fl with
  | ret u=>exact I.after hq
  | next=>exact False.elim hq
  | brk=>exact False.elim hq
  | cont=>exact False.elim hq
theorem c1K(F:K6 X.prog X.w X.K X.mg X.base CX k f fd ps sp)(hr:O9 k X.A)(hg:Gl X x)(hm:X.mg x=some (.ref f))(hk:T0 X.K (.ref f)=true)(hb:a3b X.K fd ps ds)(hd:E6 dvs ds)(hx:a5J CX X E)
  (ha:PA X (e::es) t) (hdb:(x == ("__debug__" : Str))=false:=by decide) (he:d9 (e::es) X.env=(false,eval e X.env)::d9 es X.env:=by rfl) (hpl:(W7 pos (d9 es X.env)).any (·.1)=false:=by rfl) :
  PE X (.Call (.Name x p) (e::es) [] pos) (u0 sp dvs E t):=by
 intro pins s σ H Q I h
 refine a0p (b1p I hg hm ?_ hdb)
 refine a6A (h₀:=X.base) I.ok.mod.kin hk (thn (ha pos pins s σ H _ I h) fun us s1 ⟨vs,H1,I1,r,q⟩=>⟨I1.kIn,?_⟩) he hpl
 exact b4m F hr hb hd hx I1 r q
theorem c1D{pl:Sem Bool}(he:PE X o ta)(c:Cls X.K C)(hm:c2H X.K C m f)(F:K6 X.prog X.w X.K X.mg X.base CX k f fd ps sp)(hr:O9 k X.A)(hb:a3b X.K fd ps ds)(hd:E6 dvs ds)(hx:a5J CX X E)(ha:PA X (e::es) t)
  (hst:d9 (e::es) X.env=(false,eval e X.env)::d9 es X.env:=by rfl) (hpl:(W7 pos (d9 es X.env)).any (·.1)=false:=by rfl)
  (ht:eval (.Call (.Attribute o m apos) (e::es) [] pos) X.env=(do
   let ov <-eval o X.env
   a7T apos.atName
   let(f,first) <-a0A [ov] (a5Q ov m pl)
   b7N pos f first (W7 pos (d9 (e::es) X.env)) (a4W pos (a0z [] X.env))):=by rfl) :
  PE X (.Call (.Attribute o m apos) (e::es) [] pos) (a6a C m sp dvs E ta t):=by
 intro pins s σ H Q I h
 refine b3C (pl:=pl) (thn (he pins s σ H _ I h) fun u s1 ⟨x,H1,I1,rx,a,dx,fs,ex,ea,l,q⟩=>?_) ht
 subst ex
 obtain rfl:u=Value.ref a:=rx
 refine a8W I1 ea c hm l ?_
 refine a6A (first:=[.ref a]) (h₀:=X.base) I.ok.mod.kin hm.kp (thn (ha pos pins s1 σ H1 _ I1 q) fun us s2 ⟨vs,H2,I2,r,q2⟩=>⟨I2.kIn,?_⟩) hst hpl
 exact b4m (us:=.ref a::us) (vs:=.ref a::vs) F hr hb hd hx I2 (.cons rfl r) q2
theorem b9s{pl:Sem Bool}(he:PE X o ta)(c:Cls X.K C)(hm:c2H X.K C m f)(F:K6 X.prog X.w X.K X.mg X.base CX k f fd ps sp)(hr:O9 k X.A)(hb:a3b X.K fd ps ds)(hd:E6 dvs ds)(hx:a5J CX X E)
  (ht:eval (.Call (.Attribute o m apos) [] [] pos) X.env=(do
   let ov <-eval o X.env
   a7T apos.atName
   let(f,first) <-a0A [ov] (a5Q ov m pl)
   b7N pos f first (W7 pos (d9 [] X.env)) (a4W pos (a0z [] X.env))):=by rfl) :
  PE X (.Call (.Attribute o m apos) [] [] pos) (a6a C m sp dvs E ta g0):=by
 intro pins s σ H Q I h
 refine b3C (pl:=pl) (thn (he pins s σ H _ I h) fun u s1 ⟨x,H1,I1,rx,a,dx,fs,ex,ea,l,q⟩=>?_) ht
 subst ex
 obtain rfl:u=Value.ref a:=rx
 refine a8W I1 ea c hm l ?_
 exact PySem.W.callWith_K0 (first:=[.ref a]) I1.kIn hm.kp (b4m (us:=[.ref a]) (vs:=[.ref a]) F hr hb hd hx I1 (.cons rfl .nil) q)
structure Mk(K:Fg)(C f:Addr):Prop where
 makes:a3Q K C=true
 init:C0 K (.ref C) "__init__" = some (some (.ref f))
 fn:a7j K (.ref f)=true
 kp:T0 K (.ref C)=true
theorem b8U{Q:VK}{vs:List V}(M:Mk X.K C f)(F:K6 X.prog X.w X.K X.mg X.base CX k f fd ps sp)(hr:O9 (k+1) X.A)(hb:a3b X.K fd ps ds)(hd:E6 dvs ds)
  (hx:a5J CX X E) (I:Inv X pins σ H s) (r:E6 vs us)
  (h:∀x dx,H x=none->H dx=none->dx≠x->sp (.ref x::(vs++dvs)) (upd (upd H dx (.own x)) x (.ins C dx [])) (fun v H2=>v=.non/\Q (.ref x) H2) E) :
  wpAny (model X.prog X.w) X.A (call (.ref C) us) (EP X pins σ Q) X.xe s:=by
 have hq:=h (s.heap.objs.size+1) s.heap.objs.size (I.hok.fresh (W4 _)) (I.hok.fresh (d3 _)) (j8 (a4u _))
 have I2:=Inv.made (C:=C) I
 have r2:E6 (V.ref (s.heap.objs.size+1)::(vs++dvs)) (Value.ref (s.heap.objs.size+1)::(us++ds)):=.cons rfl (r.append hd)
 have hl:(Value.ref (s.heap.objs.size+1)::us++ds).length=ps.length:=by
  have e:=r2.length
  rw[F.len _ _ _ _ hq]at e
  exact e.symm
 refine wpAny_call (b9O (f:=f) I.kIn M.makes M.init (beq_iff_eq.mp M.fn) (a2M (F.run _ X.stack _ _ ⟨Value.ref (s.heap.objs.size+1)::us,[]⟩ (Value.ref (s.heap.objs.size+1)::(us++ds)) _ _ E (hr.make C us [])
  (I2.env0.make C us []) (hb _ (Value.ref (s.heap.objs.size+1)::us) I2.kIn hl) r2 hq) fun r s' hq'=>?_))
 cases r with
 | error e=>exact hx pins σ _ _ e s' I2 hq'
 | ok fl=>
  cases fl with
  | ret u=>
   obtain⟨v,H',I3,rv,ev,q3⟩:=I2.after hq'
   subst ev
   exact⟨rv,⟨V.ref (s.heap.objs.size+1),H',I3,rfl,q3⟩⟩
  | next=>exact False.elim hq'
  | brk=>exact False.elim hq'
  | cont=>exact False.elim hq'
theorem c1E(M:Mk X.K C f)(F:K6 X.prog X.w X.K X.mg X.base CX k f fd ps sp)(hr:O9 (k+1) X.A)(hg:Gl X x)(hm:X.mg x=some (.ref C))(hb:a3b X.K fd ps ds)(hd:E6 dvs ds)(hx:a5J CX X E)
  (ha:PA X (e::es) t) (hdb:(x == ("__debug__" : Str))=false:=by decide) (he:d9 (e::es) X.env=(false,eval e X.env)::d9 es X.env:=by rfl) (hpl:(W7 pos (d9 es X.env)).any (·.1)=false:=by rfl) :
  PE X (.Call (.Name x p) (e::es) [] pos) (b0a C sp dvs E t):=by
 intro pins s σ H Q I h
 refine a0p (b1p I hg hm ?_ hdb)
 refine a6A (h₀:=X.base) I.ok.mod.kin M.kp (thn (ha pos pins s σ H _ I h) fun us s1 ⟨vs,H1,I1,r,q⟩=>⟨I1.kIn,?_⟩) he hpl
 exact b8U M F hr hb hd hx I1 r q
end
section
variable {k:Nat}{fd:Y1}{ks:List Str}{sp:Sp}{E:XK}{x m:Str}{apos kpos:Pos}{o:Expr}{kws:List b0D}{t tk:TA}{nm:Option Str}
structure c7N(K:Fg)(fd:Y1)(ps ks:List Str)(g:List Value->List Value->List Value)(gV:List V->List V->List V):Prop where
 to:∀(s:d4) (us ws:List Value),K.In s.heap->(g us ws).length=ps.length->b8b s fd ⟨us,ks.zip ws⟩ (ps.zip (g us ws))
 rel:∀ {vs:List V} {us:List Value} {zs:List V} {ws:List Value},E6 vs us->E6 zs ws->E6 (gV vs zs) (g us ws)
variable {g:List Value->List Value->List Value}{gV:List V->List V->List V}
end
structure z4(N P:List Str)(sc:Scope):Prop where
 kind:sc.kind=.function
 co:sc.isCoroutine=false
 gen:sc.isGenerator=false
 nd:N.Nodup
 pre:N.take P.length=P
 par:∀x∈P,sc.names.lookup x=some .local\/sc.names.lookup x=some .cell
 nofree:∀y∈sc.names,y.2≠.free
theorem b0s{kindOf:Str->Option a4X}{x:Str}:∀ {binds:List (Str×Value)} {m:Str->Option Value},(∀v,(x,v)∉binds)->bindL kindOf binds m x=m x
 | [],_,_=>rfl
 | (n,v)::r,m,h=>by
  unfold bindL
  rw[b0s fun w hw=>h w (D0 _ hw)]
  split
  ·have:x≠n:=by rintro rfl;exact h v D4
   simp[this]
  ·rfl
theorem b0u{kindOf:Str->Option a4X}{x:Str}:∀ {binds:List (Str×Value)} {m:Str->Option Value},(∀v,(x,v)∉binds)->bindC kindOf binds m x=m x
 | [],_,_=>rfl
 | (n,v)::r,m,h=>by
  unfold bindC
  rw[b0u fun w hw=>h w (D0 _ hw)]
  split
  ·rfl
  ·have:x≠n:=by rintro rfl;exact h v D4
   simp[this]
theorem b0t{kindOf:Str->Option a4X}{x:Str}{v:Value}:∀ {P:List Str} {vs:List Value} {i:Nat} {m:Str->Option Value},P.Nodup->P[i]? = some x->vs[i]? = some v->kindOf x=some .local ->
  bindL kindOf (P.zip vs) m x=some v
 | [],_,_,_,_,h,_,_=>by simp at h
 | _::_,[],_,_,_,_,h,_=>by simp at h
 | p::P,w::vs,0,m,nd,h1,h2,hk=>by
  simp at h1 h2;subst h1;subst h2
  show bindL kindOf ((p,w)::P.zip vs) m p=_
  unfold bindL
  rw[b0s fun v hv=>(Q8.mp nd).1 (a4S hv).1,if_pos hk]
  simp
 | p::P,w::vs,i+1,m,nd,h1,h2,hk=>by
  show bindL kindOf ((p,w)::P.zip vs) m x=_
  unfold bindL
  exact b0t (i:=i) (Q8.mp nd).2 (by simpa using h1) (by simpa using h2) hk
theorem b0v{kindOf:Str->Option a4X}{x:Str}{v:Value}:∀ {P:List Str} {vs:List Value} {i:Nat} {m:Str->Option Value},P.Nodup->P[i]? = some x->vs[i]? = some v->kindOf x≠some .local ->
  bindC kindOf (P.zip vs) m x=some v
 | [],_,_,_,_,h,_,_=>by simp at h
 | _::_,[],_,_,_,_,h,_=>by simp at h
 | p::P,w::vs,0,m,nd,h1,h2,hk=>by
  simp at h1 h2;subst h1;subst h2
  show bindC kindOf ((p,w)::P.zip vs) m p=_
  unfold bindC
  rw[b0u fun v hv=>(Q8.mp nd).1 (a4S hv).1,if_neg hk]
  simp
 | p::P,w::vs,i+1,m,nd,h1,h2,hk=>by
  show bindC kindOf ((p,w)::P.zip vs) m x=_
  unfold bindC
  exact b0v (i:=i) (Q8.mp nd).2 (by simpa using h1) (by simpa using h2) hk
def a6c(N:List Str)(vs:List V):St:=vs.map some++z8 (N.length - vs.length) none
def b3h(CX:CXT)(P:u4)(w:World)(K:Fg)(mg:Str->Option Value)(base:Heap)(N:List Str)(qual:Str)(scope:Scope)(f:Addr)(cd:Value)(A:F2)(outer:List Env)(s:d4)(H:Hp)(E:XK):Cx where
 prog:=P
 w:=w
 K:=K
 mg:=mg
 base:=base
 A:=A.deeper (b1U qual scope s.heap.objs.size f cd)
 N:=N
 s₀:=s
 H₀:=H
 env:=b1U qual scope s.heap.objs.size f cd
 outer:=outer
 stack:=b1U qual scope s.heap.objs.size f cd::outer
 ex:=[]
 calm:=true
 fn:=fun _=>true
 pn:=[]
 xe:=fun e s'=>wpAny (model P w) (A.deeper (b1U qual scope s.heap.objs.size f cd)) (leaving (b1U qual scope s.heap.objs.size f cd) e) (fun _ s''=>CX outer H s E e s'') (fun e' s''=>CX outer H s E e' s'') s'
theorem b3l{sc:Scope}{n:Nat}{x:Str}(h:sc.names.lookup x=some .cell):∃c,(cellsFrom n sc.names []).lookup x=some c:=by
 have q:=b3B sc.names n [] (.inl h)
 exact V5.mp q
theorem b7i{P:u4}{K:Fg}{mg:Str->Option Value}{base:Heap}{N:List Str}{qual:Str}{scope:Scope}{cd:Value}{A:F2}{outer:List Env}{s1:d4}{E:XK}{vs:List V}
  (S:z4 N ps scope) (hd:A.handled=none) (e0:b5h P w K mg base A outer s H) (hl:vs.length=ps.length) (r:E6 vs us)
  (x:InCallC s s.heap.objs.size (bindL (b1U qual scope s.heap.objs.size f cd).kindOf (ps.zip us) fun _=>none) (cellsFrom (s.heap.objs.size+1) scope.names []) (bindC (b1U qual scope s.heap.objs.size f cd).kindOf (ps.zip us) fun _=>none) s1) :
  Inv (b3h CX P w K mg base N qual scope f cd A outer s H E) [] (a6c N vs) H s1:=by
 have hpl:ps.length<=N.length:=by have:=congrArg b7U S.pre;rw[C9]at this;omega
 obtain⟨h1,tk,rfl,hk⟩:=x.done
 have noA:∀b:Addr,b∉(b3h CX P w K mg base N qual scope f cd A outer s H E).ex:=fun b z=>absurd (show b∈([]:List Addr)from z) (by simp)
 refine⟨⟨e0.mod,S.kind,rfl,rfl,d3 _,fun y z c h1 h2=>?_,fun y hy=>?_,fun y c _ h=>?_,fun _=>hd,Around.frames_deeper e0.frames,.inr ⟨rfl,rfl⟩,fun b z=>absurd z (noA b),e0.bs,e0.bsz,fun b _ _=>noA b,fun b z=>absurd z (noA b),e0.funs,e0.frf⟩,
  rfl,e0.bare,Un.kept hk,⟨_,x.toInCall.ns,fun i y v h1 h2 h3=>?_⟩,fun y c h=>⟨_,x.cell y c h⟩,e0.hok.fresh (d3 _),fun y c h=>?_,fun p hp=>absurd (show p∈([]:List (Addr×Obj))from hp) (by simp),e0.hok.kept hk,?_⟩
 ·exact name_of_addr x.apart (y7 h1) (y7 h2)
 ·have hy:scope.names.lookup y=some .cell\/scope.names.lookup y=some .free:=hy
  rcases hy with hy | hy
  ·exact b3l hy
  ·exact absurd rfl (S.nofree _ (y7 hy))
 ·exact a1q (x.above y c (y7 h))
 ·have hi:i<vs.length:=by
   unfold a6c at h2
   by_cases hi:i<vs.length
   ·exact hi
   ·rw[M4 (by simpa using hi)]at h2
    rw[K8]at h2
    split at h2 <;> cases h2
  have ha:vs[i]? = some v:=by
   unfold a6c at h2
   rw[O2 (by simpa using hi),b7]at h2
   cases e:vs[i]? with
   | none=>rw[e]at h2;cases h2
   | some a=>rw[e]at h2;cases h2;rfl
  obtain⟨u,hu,rv⟩:=r.get ha
  have hp:ps[i]? = some y:=by
   rw[<-S.pre,b3I (by omega)];exact h1
  have ndP:ps.Nodup:=by rw[<-S.pre];exact S.nd.sublist (List.take_sublist _ _)
  refine⟨u,rv,?_⟩
  rcases S.par y (P4 hp)with k | k
  ·exact .inl ⟨k,b0t ndP hp hu k⟩
  ·obtain⟨c,e⟩:=b3l (n:=s.heap.objs.size+1) k
   refine .inr ⟨.inl k,c,e,?_⟩
   have q:=x.cell y c e
   rw[b0v ndP hp hu (by show scope.names.lookup y≠_;rw[k];decide)]at q
   exact q
 ·exact e0.hok.fresh (a1q (x.above y c (y7 h)))
 ·unfold a6c
  show _=N.length
  rw[j3,a9,E1]
  omega
theorem c6Y{P:u4}{K:Fg}{mg:Str->Option Value}{base:Heap}{k:Nat}{name qual:Str}{params:Arguments}{body:List Stmt}{scope:Scope}{dV kV doc pm cdv ct oc:Value}{an od:Option Addr}
  {osl:Array (Option Value)} {N ps:List Str} {sp:Sp} (lk:K.lookup f=some ⟨oc,od,.func (a0c name qual params body scope dV kV doc pm an cdv ct),osl⟩) (hcd:a4R K cdv qual=true) (S:z4 N ps scope)
  (len:∀vs H Q E,sp vs H Q E->vs.length=ps.length)
  (hbody:∀(A:F2) (outer:List Env) (s:d4) (H:Hp) (vs:List V) (Q:VK) (E:XK),O9 k (A.deeper (b1U qual scope s.heap.objs.size f cdv))->sp vs H Q E ->
   ∃t,PSs (b3h CX P w K mg base N qual scope f cdv A outer s H E) body t/\t { nx:=fun _ H'=>Q .non H',rt:=Q } (a6c N vs) H) :
  K6 P w K mg base CX (k+1) f (a0c name qual params body scope dV kV doc pm an cdv ct) ps sp:=by
 refine⟨len,fun A outer s H args us vs Q E hr e0 hb r hsp=>?_⟩
 have hl:=len _ _ _ _ hsp
 have KX:K.In s.heap:=e0.mod.kin.keeps fun b o e=>(e0.bs b o e).1
 have lim:s.heap.NoLimit:=e0.mod.nolimit.keeps fun b o e=>(e0.bs b o e).1
 have hkind:∀y∈ps.zip us,scope.names.lookup y.1=some .local\/(scope.names.lookup y.1=some .cell/\((cellsFrom (s.heap.objs.size+1) scope.names []).lookup y.1).isSome=true):=fun⟨n,v⟩ hy=>by
  rcases S.par n (a4S hy).1 with q | q
  ·exact .inl q
  ·exact .inr ⟨q,b3B _ _ _ (.inl q)⟩
 refine codeAny_call_function hr.depth (KX _ _ lk) rfl S.co S.gen rfl (PySem.W.codeRec_of KX hcd) (hb _ _ _ _ ?_)
 refine wpAny_newFunctionEnv_cells S.kind hkind fun env he s1 x=>?_
 subst he
 refine⟨lim.keeps x.toInCall.keep,codeAny_func ?_⟩
 obtain⟨t,ht,hq⟩:=hbody A outer s H vs Q E (hr.deeper _) hsp
 have I:Inv (b3h CX P w K mg base N qual scope f cdv A outer s H E) [] (a6c N vs) H s1:=b7i S hr.hd e0 hl r x
 refine V2 (ht [] s1 (a6c N vs) H _ I hq) (fun fl s' hs=>?_) fun e s' hs=>hs
 have fin:∀ {σ':St} {H':Hp} {v:V} {u:Value},Inv (b3h CX P w K mg base N qual scope f cdv A outer s H E) [] σ' H' s'->C7 v u->Q v H'->CE outer P w H s Q u s':=
  fun {σ' H' v u} J rv q=>⟨v,H',J.os,J.bare,J.base,J.hok,rv,q⟩
 cases fl with
 | ret u=>
  obtain⟨v,σ',H',J,rv,q⟩:=hs
  exact fin J rv q
 | next=>
  obtain⟨σ',H',J,q⟩:=hs
  exact fin (v:=V.non) (u:=Value.none) J rfl q
 | brk=>
  obtain⟨_,_,_,q⟩:=hs
  exact False.elim q
 | cont=>
  obtain⟨_,_,_,q⟩:=hs
  exact False.elim q
section
variable {x:Str}{t:TA}{id T:String}{r:List V->Hp->VK->Prop}
def tCB(r:List V->Hp->VK->Prop)(t:TA):TE:=fun σ H Q=>t σ H fun vs H1=>r vs H1 Q
theorem b9y(hc:R8 X (.builtin id) r)(hg:Gl X x)(hm:X.mg x=none)(hv:R4 x=some (.builtin id))(ha:PA X (e::es) t)(hn:x ≠ "__name__" := by decide)(hdb:(x == ("__debug__" : Str))=false:=by decide)
  (he:d9 (e::es) X.env=(false,eval e X.env)::d9 es X.env:=by rfl) (hpl:(W7 pos (d9 es X.env)).any (·.1)=false:=by rfl):PE X (.Call (.Name x p) (e::es) [] pos) (tCB r t):=by
 intro pins s σ H Q I h
 refine a0p (a4m I hg hm hv ?_ hn hdb)
 exact a5N (thn (ha pos pins s σ H _ I h) fun us s1 ⟨vs,H1,I1,r1,q1⟩=>hc pins s1 σ H1 vs us Q I1 r1 q1) he hpl
theorem b6N(hc:R8 X (.type T) r)(hg:Gl X x)(hm:X.mg x=none)(hv:R4 x=some (.type T))(ha:PA X (e::es) t)(hn:x ≠ "__name__" := by decide)(hdb:(x == ("__debug__" : Str))=false:=by decide)
  (he:d9 (e::es) X.env=(false,eval e X.env)::d9 es X.env:=by rfl) (hpl:(W7 pos (d9 es X.env)).any (·.1)=false:=by rfl):PE X (.Call (.Name x p) (e::es) [] pos) (tCB r t):=by
 intro pins s σ H Q I h
 refine a0p (a4m I hg hm hv ?_ hn hdb)
 exact P3 (thn (ha pos pins s σ H _ I h) fun us s1 ⟨vs,H1,I1,r1,q1⟩=>hc pins s1 σ H1 vs us Q I1 r1 q1) he hpl
end
section
variable {κ:Type}[DecidableEq κ]
def a2C(kvs:List (κ×V))(k:κ):Option V:=(kvs.find? fun kv=>decide (kv.1=k)).map (·.2)
def a1u(kvs:List (κ×V))(k:κ)(v:V):List (κ×V):=
 if(kvs.any fun kv=>decide (kv.1=k))=true then kvs.map (fun kv=>if kv.1=k then (kv.1,v)else kv)else kvs++[(k,v)]
theorem a3W{p:κ×V}{r:List (κ×V)}{k:κ}(e:p.1=k):a2C (p::r) k=some p.2:=by simp[a2C,a0L,e]
theorem a3X{p:κ×V}{r:List (κ×V)}{k:κ}(e:¬p.1=k):a2C (p::r) k=a2C r k:=by simp[a2C,a0L,e]
theorem a2V(k:κ):∀kvs:List (κ×V),(kvs.any fun kv=>decide (kv.1=k))=(a2C kvs k).isSome
 | []=>rfl
 | p::r=>by
  rw[a0x]
  by_cases e:p.1=k
  ·simp only[a3W e,c8U e,Bool.true_or,Option.isSome_some]
  ·rw[a3X e,c8T e,Bool.false_or];exact a2V k r
theorem a4l(kvs:List (κ×V))(k:κ)(v:V):(a1u kvs k v).length<=kvs.length+1:=by
 unfold a1u
 split
 ·rw[a9];omega
 ·rw[j3,y8,a4U];omega
theorem b9f{kvs:List (κ×V)}{k:κ}(v:V)(h:a2C kvs k=none):a1u kvs k v=kvs++[(k,v)]:=by
 unfold a1u
 rw[a2V,h]
 exact if_neg (by decide)
theorem a4O.isSome_eq{o:Option V}{u:Option Value}(r:a4O o u):o.isSome=u.isSome:=by
 cases o with
 | none=>cases u with
  | none=>rfl
  | some _=>exact(show False from r).elim
 | some _=>cases u with
  | none=>exact(show False from r).elim
  | some _=>rfl
theorem KV.val{kvs:List (κ×V)}{vs:List (κ×Value)}(r:KV kvs vs)(k:κ):a4O (a2C kvs k) (b7X vs k):=by
 unfold KV at r
 induction r with
 | nil=>exact True.intro
 | @cons p q ps qs h t ih=>
  obtain⟨h1,h2⟩:=h
  by_cases e:p.1=k
  ·have e':q.1=k:=h1.symm.trans e
   have b:b7X (q::qs) k=some q.2:=by simp[b7X,a0L,e']
   rw[a3W e,b];exact h2
  ·have e':¬q.1=k:=fun z=>e (h1.trans z)
   have b:b7X (q::qs) k=b7X qs k:=by simp[b7X,a0L,e']
   rw[a3X e,b];exact ih
theorem KV.any{kvs:List (κ×V)}{vs:List (κ×Value)}(r:KV kvs vs)(k:κ):(kvs.any fun kv=>decide (kv.1=k))=vs.any fun kv=>decide (kv.1=k):=by
 unfold KV at r
 induction r with
 | nil=>rfl
 | cons h t ih=>rw[a0x,a0x,ih,h.1]
theorem KV.repl{kvs:List (κ×V)}{vs:List (κ×Value)}(r:KV kvs vs)(k:κ)(ry:C7 y u) :
  KV (kvs.map fun kv=>if kv.1=k then (kv.1,y)else kv) (vs.map fun kv=>if kv.1=k then (kv.1,u)else kv):=by
 unfold KV at r ⊢
 induction r with
 | nil=>exact .nil
 | @cons p q ps qs h t ih=>
  rw[F6,F6]
  refine .cons ?_ ih
  obtain⟨h1,h2⟩:=h
  by_cases e:p.1=k
  ·rw[if_pos e,if_pos (h1.symm.trans e)];exact⟨h1,ry⟩
  ·rw[if_neg e,if_neg (fun z=>e (h1.trans z))];exact⟨h1,h2⟩
theorem KV.put{kvs:List (κ×V)}{vs:List (κ×Value)}(r:KV kvs vs)(k:κ)(ry:C7 y u):KV (a1u kvs k y) (c5V vs k u):=by
 unfold a1u c5V
 rw[r.any k]
 by_cases e:(vs.any fun kv=>decide (kv.1=k))=true
 ·rw[if_pos e,if_pos e];exact r.repl k ry
 ·rw[if_neg e,if_neg e];exact Paired.snoc r ⟨rfl,ry⟩
theorem KV.keys{kvs:List (κ×V)}{vs:List (κ×Value)}(r:KV kvs vs):kvs.map (·.1)=vs.map (·.1):=by
 unfold KV at r
 induction r with
 | nil=>rfl
 | cons h t ih=>rw[F6,F6,ih,h.1]
theorem KV.length{kvs:List (κ×V)}{vs:List (κ×Value)}(r:KV kvs vs):kvs.length=vs.length:=Paired.length r
end
theorem a8T{P:u4}{k:Key}(r:C7 (kV k) u):(Q2 P w).is k u=true:=by
 cases k with
 | inl i=>obtain⟨t,e⟩:=(show ∃t,u=Value.int i t from r);subst e;exact b2T P w i t
 | inr x=>obtain⟨t,e⟩:=(show ∃t,u=Value.str x t from r);subst e;exact b2S P w x t
theorem b0o{P:u4}:∀ {ks:List Key} {us:List Value},E6 (ks.map kV) us->ItemsAre (Q2 P w) ks us
 | [],_,r=>by rw[b5X]at r;cases r;exact .nil
 | k::ks,_,r=>by
  rw[F6]at r
  cases r with
  | cons h t=>exact .cons (a8T h) (b0o t)
abbrev KT(H:Hp):List (List Key×V)->List (List Key×Addr×Value)->Prop:=Paired fun p q=>p.1=q.1/\H q.2.1=some (.tup (p.1.map kV))/\C7 p.2 q.2.2
theorem KT.val{kvs:List (List Key×V)}{xs:List (List Key×Addr×Value)}(r:KT H kvs xs)(k:List Key):a4O (a2C kvs k) ((atKey xs k).map (·.2)):=by
 induction r with
 | nil=>exact True.intro
 | @cons p q ps qs h t ih=>
  obtain⟨h1,_,h2⟩:=h
  by_cases e:p.1=k
  ·have e':q.1=k:=h1.symm.trans e
   have b:atKey (q::qs) k=some q.2:=by simp[atKey,a0L,e']
   rw[a3W e,b];exact h2
  ·have e':¬q.1=k:=fun z=>e (h1.trans z)
   have b:atKey (q::qs) k=atKey qs k:=by simp[atKey,a0L,e']
   rw[a3X e,b];exact ih
theorem KT.repl{kvs:List (List Key×V)}{xs:List (List Key×Addr×Value)}(r:KT H kvs xs)(k:List Key)(ry:C7 y u) :
  KT H (kvs.map fun kv=>if kv.1=k then (kv.1,y)else kv) (xs.map (putAt k u)):=by
 induction r with
 | nil=>exact .nil
 | @cons p q ps qs h t ih=>
  rw[F6,F6]
  refine .cons ?_ ih
  obtain⟨h1,h2,h3⟩:=h
  unfold putAt
  by_cases e:p.1=k
  ·rw[if_pos e,if_pos (h1.symm.trans e)];exact⟨h1,h2,ry⟩
  ·rw[if_neg e,if_neg (fun z=>e (h1.trans z))];exact⟨h1,h2,h3⟩
theorem KT.put{kvs:List (List Key×V)}{xs:List (List Key×Addr×Value)}(r:KT H kvs xs)(k:List Key)(hb:H b=some (.tup (k.map kV)))(ry:C7 y u) :
  KT H (a1u kvs k y) (storedH xs k b u):=by
 have e:(kvs.any fun kv=>decide (kv.1=k))=(atKey xs k).isSome:=by
  rw[a2V,(r.val k).isSome_eq,a7u]
 unfold a1u storedH
 rw[e]
 by_cases q:(atKey xs k).isSome=true
 ·rw[if_pos q,if_pos q];exact r.repl k ry
 ·rw[if_neg q,if_neg q];exact Paired.snoc r ⟨rfl,hb,ry⟩
theorem KT.keeps{kvs:List (List Key×V)}{xs:List (List Key×Addr×Value)}(r:KT H kvs xs)(ht:∀b ys,H b=some (.tup ys)->H' b=some (.tup ys)):KT H' kvs xs:=
 Paired.mapP r fun _ _ z=>⟨z.1,ht _ _ z.2.1,z.2.2⟩
section
variable {P:u4}
theorem c3f{u:HO}(ok:HOk P w H h)(e:Rd H a u):Q7 P w H h a u:=e.ok ok
theorem b3e(ok:HOk P w H h)(e:Rd H a (.dK kvs)):kvs.length<=i8/\(a == V4)=false/\∃vs,KV kvs vs/\h.DictOf (Q2 P w) a vs:=
 show Q7 P w H h a (.dK kvs)from c3f ok e
theorem c0h(ok:HOk P w H h)(e:H a=some (.dK kvs)):kvs.length<=i8/\(a == V4)=false/\∃vs,KV kvs vs/\h.DictOf (Q2 P w) a vs:=b3e ok (.inl e)
theorem a8R{ks:List Key}(ok:HOk P w H h)(e:H a=some (.tup (ks.map kV))):(b7Y (Q2 P w)).is h ks a:=by
 obtain⟨_,its,r,o,h1,h2,n,h3⟩:=(show Q7 P w H h a (.tup (ks.map kV))from ok a _ e)
 exact⟨o,its.toArray,n,h1,h2,h3,by simpa using b0o r⟩
theorem b3d{kvs:List (List Key×V)}(ok:HOk P w H h)(e:Rd H a (.dT kvs)):kvs.length<=i8/\(a == V4)=false /\
  ∃xs,KT H kvs xs/\h.DictOfH (b7Y (Q2 P w)) a xs:=by
 obtain⟨z,y,xs,r,o,es,ep,h1,h2,h3,h4,h5⟩:=(show Q7 P w H h a (.dT kvs)from c3f ok e)
 refine⟨z,y,xs,r,o,es,ep,h1,h2,h3,h4,fun x hx=>?_,h5⟩
 have all:∀ {l:List (List Key×V)} {m:List (List Key×Addr×Value)},KT H l m->∀x∈m,(b7Y (Q2 P w)).is h x.1 x.2.1:=by
  intro l m q
  induction q with
  | nil=>intro x hx;exact nomatch hx
  | @cons p q ps qs hq t ih=>
   intro x hx
   rcases d8.mp hx with e | hx
   ·subst e
    exact a8R ok (by rw[<-hq.1];exact hq.2.1)
   ·exact ih x hx
 exact all r x hx
theorem c0f{kvs:List (List Key×V)}(ok:HOk P w H h)(e:H a=some (.dT kvs)):kvs.length<=i8/\(a == V4)=false /\
  ∃xs,KT H kvs xs/\h.DictOfH (b7Y (Q2 P w)) a xs:=b3d ok (.inl e)
end
def a3a(H:Hp)(a:Addr)(y:V)(r:Option V):Prop:=
 (∃kvs k,Rd H a (.dK kvs)/\y=kV k/\r=a2C kvs k)\/∃kvs k b,Rd H a (.dT kvs)/\y=.ref b/\H b=some (.tup (k.map kV))/\r=a2C kvs k
def a9m(H:Hp)(a:Addr)(y v:V)(H':Hp):Prop:=
 (∃kvs k,H a=some (.dK kvs)/\y=kV k/\kvs.length<i8/\H'=upd H a (.dK (a1u kvs k v))) \/
 ∃kvs k b,H a=some (.dT kvs)/\y=.ref b/\H b=some (.tup (k.map kV))/\kvs.length<i8/\H'=upd H a (.dT (a1u kvs k v))
theorem a3a.k{k:Key}(e:H a=some (.dK kvs)):a3a H a (kV k) (a2C kvs k):=.inl ⟨kvs,k,.inl e,rfl,rfl⟩
theorem a3a.t{kvs:List (List Key×V)}{k:List Key}(e:H a=some (.dT kvs))(eb:H b=some (.tup (k.map kV))):a3a H a (.ref b) (a2C kvs k):=.inr ⟨kvs,k,b,.inl e,rfl,eb,rfl⟩
theorem a9m.k{k:Key}(e:H a=some (.dK kvs))(hl:kvs.length<i8):a9m H a (kV k) v (upd H a (.dK (a1u kvs k v))):=.inl ⟨kvs,k,e,rfl,hl,rfl⟩
theorem a9m.t{kvs:List (List Key×V)}{k:List Key}(e:H a=some (.dT kvs))(eb:H b=some (.tup (k.map kV)))(hl:kvs.length<i8) :
  a9m H a (.ref b) v (upd H a (.dT (a1u kvs k v))):=.inr ⟨kvs,k,b,e,rfl,eb,hl,rfl⟩
section
variable {r:Value}{o:Option V}{A:F2}{E:Value->d4->Prop}
theorem Inv.big(I:Inv X pins σ H s):V4<s.heap.objs.size:=by
 have h:o8<s.heap.objs.size:=(I.mod.glob.keeps I.bk).lt
 exact b7I (by decide) h
theorem b7n(hu:A.units+1<cLine)(I:Inv X pins σ H s)(g:a3a H a y (some v))(ry:C7 y u)(h:∀w' s',Inv X pins σ H s'->C7 v w'->Q w' s') :
  wpAny (model X.prog X.w) A (b0C (.ref a) u) Q E s:=by
 rcases g with ⟨kvs,k,e,ey,l⟩ | ⟨kvs,k,b,e,ey,eb,l⟩
 ·subst ey
  obtain⟨z,hd,vs,rel,dd⟩:=b3e I.hok e
  obtain⟨w',hw,rw'⟩:=a4O.some_of (v:=v) (o:=b7X vs k) (by rw[l];exact rel.val k)
  exact wpAny_getItem_of (a8T ry) dd.mapOf hw (h w' _ (I.tok _) rw')
 ·subst ey
  cases (show u=Value.ref b from ry)
  obtain⟨z,hd,xs,rel,dd⟩:=b3d I.hok e
  obtain⟨w',hw,rw'⟩:=a4O.some_of (v:=v) (o:=(atKey xs k).map (·.2)) (by rw[l];exact rel.val k)
  obtain⟨p,hp,hp2⟩:=j4.mp hw
  refine wpAny_getItem_heap (a4V hu) (a8R I.hok eb) dd hp ?_
  rw[hp2]
  exact h w' _ (I.tok _) rw'
theorem c7J(hu:A.units+1<cLine)(I:Inv X pins σ H s)(g:a3a H a y o)(ry:C7 y u)(h:∀s',Inv X pins σ H s'->Q (.bool o.isSome) s') :
  wpAny (model X.prog X.w) A (o9 .In u (.ref a)) Q E s:=by
 rcases g with ⟨kvs,k,e,ey,l⟩ | ⟨kvs,k,b,e,ey,eb,l⟩
 ·subst ey
  obtain⟨z,hd,vs,rel,dd⟩:=b3e I.hok e
  refine wpAny_in_of (a8T ry) hd dd.mapOf ?_
  rw[<-(rel.val k).isSome_eq,<-l]
  exact h _ (I.tok _)
 ·subst ey
  cases (show u=Value.ref b from ry)
  obtain⟨z,hd,xs,rel,dd⟩:=b3d I.hok e
  refine wpAny_in_heap (a4V hu) (a8R I.hok eb) hd dd ?_
  have q:=(rel.val k).isSome_eq
  rw[a7u]at q
  rw[<-q,<-l]
  exact h _ (I.tok _)
theorem c2x(hu:A.units+1<cLine)(I:Inv X pins σ H s)(g:a3a H a y o)(ry:C7 y u)(h:∀s',Inv X pins σ H s'->Q (.bool (!o.isSome)) s') :
  wpAny (model X.prog X.w) A (o9 .NotIn u (.ref a)) Q E s:=by
 rcases g with ⟨kvs,k,e,ey,l⟩ | ⟨kvs,k,b,e,ey,eb,l⟩
 ·subst ey
  obtain⟨z,hd,vs,rel,dd⟩:=b3e I.hok e
  refine wpAny_notIn_of (a8T ry) hd dd.mapOf ?_
  rw[<-(rel.val k).isSome_eq,<-l]
  exact h _ (I.tok _)
 ·subst ey
  cases (show u=Value.ref b from ry)
  obtain⟨z,hd,xs,rel,dd⟩:=b3d I.hok e
  refine wpAny_notIn_heap (a4V hu) (a8R I.hok eb) hd dd ?_
  have q:=(rel.val k).isSome_eq
  rw[a7u]at q
  rw[<-q,<-l]
  exact h _ (I.tok _)
theorem a7P{ob:HO}(I:Inv X pins σ H s)(mu:Mut (H a))(hs:Heap.SameBut a s.heap h')(he:∃q,h'.get? a=some q)(new:Q7 X.prog X.w (upd H a ob) h' a ob) :
  Inv X pins σ (upd H a ob) { s with heap:=h',toks:=t' }:=
 I.write (x:=a) (e:=a) mu (.inl rfl) (fun b q hb z=>(hs.2 b hb).trans z) he new
theorem b4Z{P:u4}{vs:List (Key×Value)}(z:kvs.length<=i8)(hd:(a == V4)=false)(rel:KV kvs vs)(dd:h'.DictOf (Q2 P w) a vs) :
  Q7 P w H' h' a (.dK kvs):=⟨z,hd,vs,rel,dd⟩
theorem b7m{Q:Unit->d4->Prop}(hu:A.units+1<cLine)(I:Inv X pins σ H s)(g:a9m H a y v H')(ry:C7 y u)(rv:C7 v r)(h:∀s',Inv X pins σ H' s'->Q () s') :
  wpAny (model X.prog X.w) A (c3u (.ref a) u r) Q E s:=by
 rcases g with ⟨kvs,k,e,ey,l,eH⟩ | ⟨kvs,k,b,e,ey,eb,l,eH⟩
 ·subst ey eH
  obtain⟨z,hd,vs,rel,dd⟩:=c0h I.hok e
  have hz:vs.length<=i8:=by rw[<-rel.length];exact z
  have hl:(a1u kvs k v).length<=i8:=by have:=a4l kvs k v;omega
  refine wpAny_setItem_pairs (hsz:=hz) (a8T ry) dd fun h' dd' hs=>h _ ?_
  have he:∃q,h'.get? a=some q:=let⟨q,_,_,hq,_⟩:=dd'; ⟨q,hq⟩
  exact a7P I (by rw[e];exact True.intro) hs he (b4Z hl hd (rel.put k rv) dd')
 ·subst ey eH
  cases (show u=Value.ref b from ry)
  obtain⟨z,hd,xs,rel,dd⟩:=c0f I.hok e
  have hz:xs.length<=i8:=by rw[<-Paired.length rel];exact z
  have hl:(a1u kvs k v).length<=i8:=by have:=a4l kvs k v;omega
  refine wpAny_setItem_heap (hsz:=hz) (a4V hu) (a8R I.hok eb) dd fun h' dd' hs=>h _ ?_
  obtain⟨q,es,ep,hq,h2,h3,h4,_,h5⟩:=dd'
  refine a7P I (by rw[e];exact True.intro) hs ⟨q,hq⟩ ⟨hl,hd,_,(rel.put k eb rv).keeps fun c ys ec=>?_,q,es,ep,hq,h2,h3,h4,h5⟩
  rw[g6 (L1 ec e (fun z=>nomatch z))]
  exact ec
end
section
variable {k:Key}{A:F2}{E:Value->d4->Prop}
end
def c5F(i:Expr):Prop:=∀ov iv,b7Z i false ov iv=operate [ov,iv] (b0C ov iv)
theorem c0V{prog:u4}{A:F2}{E:Value->d4->Prop}{env:Env}{value slice:Expr}{T id:String}
  (hl:c2Q (.type T) "__getitem__" = pure (some (.builtin id))) (hs:c5F slice)
  (h:wpAny (model prog w) A (eval value env) (fun o s₁=>wpAny (model prog w) A (eval slice env) (fun i s₂=>s₂.TypeIs o T/\wpAny (model prog w) A (b0C o i) Q E s₂) E s₁) E s) :
  wpAny (model prog w) A (eval (.Subscript value slice pos) env) Q E s:=by
 refine Subscript_ (V2 h (fun o s₁ h₁=>V2 h₁ (fun i s₂ h₂=>?_) fun _ _ x=>x) fun _ _ x=>x)
 obtain⟨hT,h₂⟩:=h₂
 unfold c3t
 refine a8 ?_
 rw[getitemInPython_of_ne hT.not_modules]
 refine a8 (wpAny_specialOf hT hl ?_)
 have fin:wpAny (model prog w) A (b7Z slice false o i) (fun r s₃=>wpAny (model prog w) A (letTemporaryGo value o r >>= fun _=>pure r) Q E s₃) E s₂:=by
  rw[hs o i]
  exact wpAny_operating (V2 h₂ (fun r s₃ h₃=>a8 (wpAny_letTemporaryGo (b6 h₃))) fun _ _ x=>x)
 first
  | exact b6 (a8 fin)
  | exact a8 (b6 (a8 fin))
  | exact a8 fin
theorem b3g{o:Option V}(I:Inv X pins σ H s)(g:a3a H a y o):s.TypeIs (.ref a) "dict" := by
 rcases g with ⟨kvs,k,e,_,_⟩ | ⟨kvs,k,b,e,_,_,_⟩
 ·obtain⟨_,_,vs,_,dd⟩:=b3e I.hok e
  exact dd.typeIs
 ·obtain⟨_,_,xs,_,dd⟩:=b3d I.hok e
  exact dd.typeIs
def b2l(td ty:TE):TE:=fun σ H Q=>td σ H fun x H1=>ty σ H1 fun y H2=>∃a v,x=.ref a/\a3a H2 a y (some v)/\Q v H2
def a9A(ty td:TE):TE:=fun σ H Q=>ty σ H fun y H1=>td σ H1 fun x H2=>∃a o,x=.ref a/\a3a H2 a y o/\Q (.bl o.isSome) H2
def a2l(ty td:TE):TE:=fun σ H Q=>ty σ H fun y H1=>td σ H1 fun x H2=>∃a o,x=.ref a/\a3a H2 a y o/\Q (.bl (!o.isSome)) H2
def a4c(td ty tv:TE):TS:=fun D σ H=>tv σ H fun v H1=>td σ H1 fun x H2=>ty σ H2 fun y H3=>∃a H4,x=.ref a/\a9m H3 a y v H4/\D.nx σ H4
section
variable {o i value:Expr}{tpos:Pos}{td ty tv:TE}
theorem c1H(hu:X.A.units+1<cLine)(ho:PE X o td)(hi:PE X i ty)(hs:c5F i):PE X (.Subscript o i pos) (b2l td ty):=by
 intro pins s σ H Q I h
 refine c0V PySem.F.slot_dict_getitem.lookup hs (thn (ho pins s σ H _ I h) fun u s1 ⟨x,H1,I1,rx,q1⟩=>thn (hi pins s1 σ H1 _ I1 q1) fun iv s2 ⟨y,H2,I2,ry,a,v,ex,g,q2⟩=>?_)
 subst ex
 obtain rfl:u=Value.ref a:=rx
 exact⟨b3g I2 g,b7n hu I2 g ry fun w' s3 I3 rw'=>⟨v,H2,I3,rw',q2⟩⟩
theorem b9z(hu:X.A.units+1<cLine)(hi:PE X i ty)(ho:PE X o td):PC X .In i o (a9A ty td):=by
 intro pins s σ H Q I h
 refine thn (hi pins s σ H _ I h) fun iv s1 ⟨y,H1,I1,ry,q1⟩=>thn (ho pins s1 σ H1 _ I1 q1) fun u s2 ⟨x,H2,I2,rx,a,ov,ex,g,q2⟩=>?_
 subst ex
 obtain rfl:u=Value.ref a:=rx
 exact c7J hu I2 g ry fun s3 I3=>⟨.bl ov.isSome,H2,I3,rfl,q2⟩
theorem b6O(hu:X.A.units+1<cLine)(hi:PE X i ty)(ho:PE X o td):PC X .NotIn i o (a2l ty td):=by
 intro pins s σ H Q I h
 refine thn (hi pins s σ H _ I h) fun iv s1 ⟨y,H1,I1,ry,q1⟩=>thn (ho pins s1 σ H1 _ I1 q1) fun u s2 ⟨x,H2,I2,rx,a,ov,ex,g,q2⟩=>?_
 subst ex
 obtain rfl:u=Value.ref a:=rx
 exact c2x hu I2 g ry fun s3 I3=>⟨.bl (!ov.isSome),H2,I3,rfl,q2⟩
theorem c1v(hu:X.A.units+1<cLine)(ho:PE X o td)(hi:PE X i ty)(hv:PE X value tv)(hs:a1J value (some (.Subscript o i pos')) pos.line X.env=pure false) :
  PS X (.Assign [.Subscript o i pos'] value pos) (a4c td ty tv):=by
 intro pins s σ H D I h
 refine wpAny_Assign_Subscript (thn (hv pins s σ H _ I h) fun r s1 ⟨v,H1,I1,rv,q1⟩=>thn (ho pins s1 σ H1 _ I1 q1) fun u s2 ⟨x,H2,I2,rx,q2⟩=>thn (hi pins s2 σ H2 _ I2 q2) fun iv s3 ⟨y,H3,I3,ry,a,H4,ex,g,q3⟩=>?_) hs
 subst ex
 obtain rfl:u=Value.ref a:=rx
 exact b7m hu I3 g ry rv fun s4 I4=>⟨σ,H4,I4,q3⟩
end
theorem b3f{P:u4}(h:Heap)(hb:V4<h.objs.size):Q7 P w H (h.push { cls:=.type "dict",data:=.dict #[] }) h.objs.size (.dK []):=
 ⟨E9 _,beq_eq_false_iff_ne.mpr (Ne.symm (j8 hb)),[],.nil,b6a h⟩
theorem c0g{P:u4}(h:Heap)(hb:V4<h.objs.size):Q7 P w H (h.push { cls:=.type "dict",data:=.dict #[] }) h.objs.size (.dT []):=
 ⟨E9 _,beq_eq_false_iff_ne.mpr (Ne.symm (j8 hb)),[],.nil,_,#[],0,d7 _ rfl,⟨rfl,rfl,rfl⟩,rfl,rfl,a2K⟩
def a6J:TE:=fun _ H Q=>∀p,H p=none->Q (.ref p) (upd H p (.dK []))
def b3W:TE:=fun _ H Q=>∀p,H p=none->Q (.ref p) (upd H p (.dT []))
section
theorem b9v:PE X (.Dict [] [] pos) a6J:=fun pins s σ H Q I h=>
 wpAny_Dict_empty ⟨.ref s.heap.objs.size,_,I.laid (a:=s.heap.objs.size) (o:=.dK []) (t':=s.toks) (fun _ _ q=>b8 _ q) (d3 _) (b3f s.heap I.big),rfl,h _ (I.hok.fresh (d3 _))⟩
theorem b9u:PE X (.Dict [] [] pos) b3W:=fun pins s σ H Q I h=>
 wpAny_Dict_empty ⟨.ref s.heap.objs.size,_,I.laid (a:=s.heap.objs.size) (o:=.dT []) (t':=s.toks) (fun _ _ q=>b8 _ q) (d3 _) (c0g s.heap I.big),rfl,h _ (I.hok.fresh (d3 _))⟩
end
def b3U:List (TE×TE)->St->Hp->(List (V×V)->Hp->Prop)->Prop
 | [],_,H,Q=>Q [] H
 | (tk,tv)::r,σ,H,Q=>tk σ H fun x H1=>tv σ H1 fun y H2=>b3U r σ H2 fun ps H3=>Q ((x,y)::ps) H3
abbrev VV:List (V×V)->List (Value×Value)->Prop:=Paired fun p q=>C7 p.1 q.1/\C7 p.2 q.2
def PPs(X:Cx)(pos:Pos)(keys:List (Option Expr))(values:List Expr)(trs:List (TE×TE)):Prop:=
 ∀(pins:List (Addr×Obj)) (s:d4) (σ:St) (H:Hp) (Q:List (V×V)->Hp->Prop),Inv X pins σ H s->b3U trs σ H Q ->
  wpAny (model X.prog X.w) X.A (evalPairs (pairTrees keys values X.env pos)) (fun vs s'=>∃ps H',Inv X pins σ H' s'/\VV ps vs/\Q ps H') X.xe s
theorem c1x:PPs X pos [] [] []:=fun pins s σ H Q I h=>pairTrees_nil_walk ⟨[],H,I,.nil,h⟩
theorem b9n{k v:Expr}{ks:List (Option Expr)}{vs:List Expr}{tk tv:TE}{trs:List (TE×TE)}(hk:PE X k tk)(hv:PE X v tv)(hr:PPs X pos ks vs trs) :
  PPs X pos (some k::ks) (v::vs) ((tk,tv)::trs):=fun pins s σ H Q I h=>
 pairTrees_cons_walk (thn (hk pins s σ H _ I h) fun u s1 ⟨x,H1,I1,rx,q1⟩=>thn (hv pins s1 σ H1 _ I1 q1) fun w2 s2 ⟨y,H2,I2,ry,q2⟩=>
  thn (hr pins s2 σ H2 _ I2 q2) fun ws s3 ⟨ps,H3,I3,rel,q3⟩=>⟨(x,y)::ps,H3,I3,.cons ⟨rx,ry⟩ rel,q3⟩)
def a6X(kvs more:List (Key×V)):List (Key×V):=more.foldl (fun acc kv=>a1u acc kv.1 kv.2) kvs
theorem KV.merge:∀ {more:List (Key×V)} {rs:List (Key×Value)} {kvs:List (Key×V)} {vs:List (Key×Value)},KV more rs->KV kvs vs->KV (a6X kvs more) (merged vs rs):=by
 intro more rs kvs vs r
 unfold KV at r
 induction r generalizing kvs vs with
 | nil=>intro q;exact q
 | @cons p q ps qs h t ih=>
  intro r0
  have e:KV (a1u kvs p.1 p.2) (c5V vs q.1 q.2):=by
   have:=r0.put p.1 h.2
   rw[<-h.1];exact this
  exact ih e
theorem a5e:∀(more kvs:List (Key×V)),(a6X kvs more).length<=kvs.length+more.length
 | [],kvs=>by show kvs.length<=kvs.length+0;omega
 | p::r,kvs=>by
  have h1:=a5e r (a1u kvs p.1 p.2)
  have h2:=a4l kvs p.1 p.2
  show(a6X (a1u kvs p.1 p.2) r).length<=_
  rw[y8];omega
theorem a9h{P:u4}{w:World}:∀ {kvs:List (Key×V)} {ws:List (Value×Value)},VV (kvs.map fun kv=>(kV kv.1,kv.2)) ws->∃rs,Carries (Q2 P w) ws rs/\KV kvs rs
 | [],_,r=>by rw[b5X]at r;cases r;exact⟨[],True.intro,.nil⟩
 | p::kvs,_,r=>by
  rw[F6]at r
  cases r with
  | @cons a b as bs h t=>
   obtain⟨rs,c,q⟩:=a9h (P:=P) (w:=w) t
   obtain⟨b1,b2⟩:=b
   exact⟨(p.1,b2)::rs,⟨a8T h.1,rfl,c⟩,.cons ⟨rfl,h.2⟩ q⟩
def b8D(trs:List (TE×TE)):TE:=fun σ H Q=>∀p,H p=none->b3U trs σ (upd H p (.dK [])) fun ps H2=>H2 p=some (.dK [])/\∃kvs:List (Key×V),ps=kvs.map (fun kv=>(kV kv.1,kv.2))/\kvs.length<=15/\Q (.ref p) (upd H2 p (.dK (a6X [] kvs)))
theorem c1G{keys:List (Option Expr)}{values:List Expr}{trs:List (TE×TE)}(h:PPs X pos keys values trs)(hall:keys.all (·.isSome)=true)(hl:keys.length=values.length)(h0:keys≠[])
  (h15:keys.length<=15):PE X (.Dict keys values pos) (b8D trs):=by
 intro pins s σ H Q I q
 have hn:=I.hok.fresh (d3 s.heap.objs.size)
 have I1:=I.laid (a:=s.heap.objs.size) (o:=.dK []) (h':=s.heap.push { cls:=.type "dict",data:=.dict #[] }) (t':=s.toks) (fun _ _ q=>b8 _ q) (d3 _) (b3f s.heap I.big)
 refine wpAny_Dict_walk (knd:=Q2 X.prog X.w) hall hl h0 h15 (thn (h pins _ σ _ _ I1 (q _ hn)) fun ws s2 ⟨ps,H2,I2,rel,e,kvs,ep,lk,q2⟩=>?_)
 subst ep
 obtain⟨rs,c,rk⟩:=a9h (P:=X.prog) (w:=X.w) rel
 obtain⟨z,hd,vs0,r0,dd⟩:=c0h I2.hok e
 cases r0
 refine⟨rs,c,dd,fun h' dd' hs=>⟨.ref s.heap.objs.size,_,?_,rfl,q2⟩⟩
 have hz:(a6X [] kvs).length<=i8:=by
  have h1:=a5e kvs []
  rw[a4U]at h1
  rw[sizeLine_eq];omega
 have he:∃q,h'.get? s.heap.objs.size=some q:=let⟨q,_,_,hq,_⟩:=dd'; ⟨q,hq⟩
 exact a7P I2 (by rw[e];exact True.intro) hs he (b4Z hz hd (rk.merge .nil) dd')
structure M1(X:Cx)(o:Expr)(m:Str)(apos:Pos)(e:Expr)(cpos:Pos):Prop where
 base:a0a o m X.env (eval o X.env)=eval o X.env
 few:((W7 cpos (d9 [e] X.env)).all (fun x => !x.1)&&(a4W cpos (a0z [] X.env)).all (fun x=>x.1.isSome)
  && decide (([e]:List Expr).length+([]:List b0D).length+(if([]:List b0D).isEmpty then 0 else 1)<30))=true
 line:(apos.endLine == cpos.line)=true
 trees:W7 cpos (d9 [e] X.env)=[(false,eval e X.env)]
structure M2(X:Cx)(o:Expr)(m:Str)(apos:Pos)(e f:Expr)(cpos:Pos):Prop where
 base:a0a o m X.env (eval o X.env)=eval o X.env
 few:((W7 cpos (d9 [e,f] X.env)).all (fun x => !x.1)&&(a4W cpos (a0z [] X.env)).all (fun x=>x.1.isSome)
  && decide (([e,f]:List Expr).length+([]:List b0D).length+(if([]:List b0D).isEmpty then 0 else 1)<30))=true
 line:(apos.endLine == cpos.line)=true
 trees:W7 cpos (d9 [e,f] X.env)=[(false,eval e X.env),(false,eval f X.env)]
section
variable {d:V}{r:Value}{o:Option V}{A:F2}{E:Value->d4->Prop}
end
section
variable {o f:Expr}{apos cpos:Pos}{td ty tx:TE}
end
section
variable {A:F2}{E:Value->d4->Prop}
end
section
variable {A:F2}{E:Value->d4->Prop}
end
end L2
namespace HT
open PySem PyProof.Rows
section
open PySem.SeqAt
open PySem.AutoSeq1 (wpAny_loadPart')
open PySem.MeetsSeq PySem.MeetsSeq2 PySem.MeetsSeq3
end
section
variable {prog:u4}{w:World}{A:F2}{E:Value->d4->Prop}{s:d4}
def sIx(n d:Nat):Option Int->Nat
 | none=>d
 | some v=>if v<0 then (v+(n:Int)).toNat else min v.toNat n
theorem b0Z(n d k:Nat):sIx n d (some (k:Int))=min k n:=by
 show(if(k:Int)<0 then ((k:Int)+(n:Int)).toNat else min (k:Int).toNat n)=min k n
 rw[if_neg (by omega),i9]
theorem c3W(n d:Nat)(hd:d<=n)(o:Option Int):sIx n d o<=n:=by
 cases o with
 | none=>exact hd
 | some v=>
  show(if v<0 then (v+(n:Int)).toNat else min v.toNat n)<=n
  by_cases hv:v<0
  ·rw[if_pos hv];omega
  ·rw[if_neg hv];exact Nat.min_le_right _ _
theorem b5S(v:Int)(n d:Nat):(if v<0 then max (v+(n:Int)) 0 else min v (n:Int))=((sIx n d (some v):Nat):Int):=by
 show(if v<0 then max (v+(n:Int)) 0 else min v (n:Int))=(((if v<0 then (v+(n:Int)).toNat else min v.toNat n):Nat):Int)
 by_cases hv:v<0
 ·simp only[if_pos hv];omega
 ·simp only[if_neg hv];omega
theorem b5f(lo hi:Option Int)(n:Nat):Builtin.Slice.sliceAdjust lo hi 1 (n:Int)=(((sIx n 0 lo:Nat):Int),((sIx n n hi:Nat):Int)):=by
 have h1:¬((1:Int)<0):=by omega
 unfold Builtin.Slice.sliceAdjust
 simp only[h1,if_false]
 refine Prod.ext ?_ ?_
 ·cases lo with
  | none=>rfl
  | some v=>exact b5S v n 0
 ·cases hi with
  | none=>rfl
  | some v=>exact b5S v n n
theorem b4w(i j:Nat):Builtin.Slice.slicePlaces (i:Int) (j:Int) 1=j - i:=by
 unfold Builtin.Slice.slicePlaces
 have h1:(1:Int) > 0:=by omega
 simp only[h1,if_true,Int.ediv_one]
 split <;> omega
theorem a8p{v:Value}{o:Option Int}{Q:Option Int->d4->Prop}(p:c2T v o)(h:Q o s):wpAny (model prog w) A (Builtin.Slice.slicePartIndex v) Q E s:=by
 cases p with
 | none=>exact slicePart_none h
 | int i t=>exact slicePart_int h
theorem a6K{sl:Addr}{vl vu:Value}{lo hi:Option Int}{n:Nat}{Q:Int×Int×Nat->d4->Prop}(hs:s.heap.IsSliceOf sl vl vu .none)(pl:c2T vl lo)(pu:c2T vu hi)
  (h:Q (((sIx n 0 lo:Nat):Int),1,sIx n n hi - sIx n 0 lo) s):wpAny (model prog w) A (Builtin.Slice.sliceApplied (.ref sl) (pure (n:Int))) Q E s:=by
 obtain⟨os,hos,hcs,hds⟩:=id hs
 unfold Builtin.Slice.sliceApplied Builtin.Slice.sliceFields
 refine a8 (a8 (b7W hos hds (x:=vl) rfl (a8 (b7W hos hds (x:=vu) rfl (a8 (b7W hos hds (x:=.none) rfl (b6 ?_)))))))
 refine a8 (slicePart_none ?_)
 show wpAny _ _ (if((1:Int) == 0)=true then _ else _) _ _ s
 rw[if_neg (by decide)]
 refine a8 (a8p pl (a8 (a8p pu (a8 (b6 ?_)))))
 show wpAny _ _ (match Builtin.Slice.sliceAdjust lo hi 1 (n:Int)with | (lo,hi)=>pure (lo,(1:Int),Builtin.Slice.slicePlaces lo hi 1)) _ _ s
 rw[b5f lo hi n]
 show wpAny _ _ (pure (((sIx n 0 lo:Nat):Int),(1:Int),Builtin.Slice.slicePlaces ((sIx n 0 lo:Nat):Int) ((sIx n n hi:Nat):Int) 1)) _ _ s
 rw[b4w]
 exact b6 h
theorem b9o(xs:Array Value)(i k:Nat):((z5 k).filterMap fun(m:Nat)=>xs[((i:Int)+(m:Int) * 1).toNat]?).toArray=((xs.toList.drop i).take k).toArray:=by
 have e:(fun(m:Nat)=>xs[((i:Int)+(m:Int) * 1).toNat]?)=fun m=>xs[i+m]?:=by
  funext m
  have:((i:Int)+(m:Int) * 1).toNat=i+m:=by omega
  rw[this]
 rw[e]
 have:=pick_run xs i k
 rw[List.filterMap_map]at this
 have e2:((fun x=>xs[x]?) ∘ fun x=>i+x)=fun m=>xs[i+m]?:=rfl
 rw[e2]at this
 rw[this]
theorem a6q{t sl:Addr}{items:Array Value}{vl vu:Value}{lo hi:Option Int}{Q:Value->d4->Prop}(ht:IsTup s.heap t items)(hs:s.heap.IsSliceOf sl vl vu .none)(pl:c2T vl lo)(pu:c2T vu hi)
  (hw:¬(sIx items.size 0 lo=0/\sIx items.size items.size hi=items.size))
  (h:Q (.ref s.heap.objs.size) { s with heap:=s.heap.push { cls:=.type "tuple",data:=.seq ((items.toList.drop (sIx items.size 0 lo)).take (sIx items.size items.size hi - sIx items.size 0 lo)).toArray } })
  (hsz:items.size<=i8):wpAny (model prog w) A (b0C (.ref t) (.ref sl)) Q E s:=by
 have htake:sizeOk (.seq ((items.toList.drop (sIx items.size 0 lo)).take (sIx items.size items.size hi - sIx items.size 0 lo)).toArray):=by
  show((items.toList.drop (sIx items.size 0 lo)).take (sIx items.size items.size hi - sIx items.size 0 lo)).toArray.size<=i8
  rw[g7,C9,a9w,z9]
  omega
 have hj:sIx items.size items.size hi<=items.size:=c3W _ _ (d3 _) hi
 obtain⟨os,hos,hcs,hds⟩:=id hs
 have hTs:s.TypeIs (.ref sl) "slice" := ⟨os,hos,hcs⟩
 unfold b0C
 try with_reducible refine L5 ?_
 first | refine a8 (b6 ?_) | skip
 refine a8 (wpAny_sequenceKey ht.typeIs (by decide) ?_)
 refine a8 (D6 (name:=Str.ofString "__getitem__") ht.typeIs a0w
  (E7 a0w ht.typeIs entry_tuple_getitem ?_ (args_tuple_getitem _ _)))
 show wpAny _ _ (Builtin.Tuple.tupleItemsOf (.ref t) >>= _) _ _ s
 refine a8 (tupleItemsOf_ ht ?_)
 refine a8 (a7R hTs ?_)
 rw[if_pos (by decide)]
 refine a8 (a6K hs pl pu ?_)
 have hno:¬((((sIx items.size 0 lo:Nat):Int) == 0&&(1:Int) == 1&&(sIx items.size items.size hi - sIx items.size 0 lo) == items.size)=true):=by
  intro q
  rw[T4,T4]at q
  have q1:((sIx items.size 0 lo:Nat):Int)=0:=eq_of_beq q.1.1
  have q2:sIx items.size items.size hi - sIx items.size 0 lo=items.size:=eq_of_beq q.2
  exact hw ⟨by omega,by omega⟩
 show wpAny _ _ (if(((sIx items.size 0 lo:Nat):Int) == 0&&(1:Int) == 1&&(sIx items.size items.size hi - sIx items.size 0 lo) == items.size)=true then _ else _) _ _ s
 rw[if_neg hno,b9o]
 first
  | exact a8 (m:=Builtin.Tuple.tupleExact _) (v0 (b6 ⟨_,rfl,b6 h⟩) htake)
  | exact a8 (m:=Builtin.Tuple.tupleExact _) (v0 (a8 (b6 (b6 ⟨_,rfl,b6 h⟩))) htake)
  | exact a8 (a8 (m:=Builtin.Tuple.tupleExact _) (v0 (b6 (b6 ⟨_,rfl,b6 h⟩)) htake))
  | exact a8 (a8 (m:=Builtin.Tuple.tupleExact _) (v0 (b6 ⟨_,rfl,b6 h⟩) htake))
end
end HT
namespace L2
open PySem PySem.Spec PyProof.Rows
variable{X:Cx}{n:Nat}{pins:List (Addr×Obj)}{σ:St}{H:Hp}{s:d4}{xs:List V}{us:List Value}
abbrev TO:=St->Hp->(Option Int->Hp->Prop)->Prop
def PO(X:Cx)(e:Option Expr)(t:TO):Prop:=
 ∀(pins:List (Addr×Obj)) (s:d4) (σ:St) (H:Hp) (Q:Option Int->Hp->Prop),Inv X pins σ H s->t σ H Q ->
  wpAny (model X.prog X.w) X.A (evalPart e X.env) (fun u s'=>∃o H',Inv X pins σ H' s'/\c2T u o/\Q o H') X.xe s
def a2k:TO:=fun _ H Q=>Q none H
def a7o(t:TE):TO:=fun σ H Q=>t σ H fun x H1=>∃i,x=.int i/\Q (some i) H1
section
variable {e:Expr}{te:TE}{lo hi:Option Expr}{tl th:TO}{pos p2:Pos}
theorem c1z:PO X none a2k:=by
 intro pins s σ H Q I h
 rw[evalPart_none]
 exact b6 ⟨none,H,I,.none,h⟩
theorem c1y(h:PE X e te):PO X (some e) (a7o te):=by
 intro pins s σ H Q I hw
 rw[evalPart_some]
 refine thn (h pins s σ H _ I hw) fun u s1 ⟨x,H1,I1,r1,q1⟩=>?_
 obtain⟨i,rfl,q⟩:=q1
 obtain⟨t,rfl⟩:=r1
 exact⟨some i,H1,I1,.int i t,q⟩
def SlR(X:Cx)(r:V->Option Int->Option Int->Hp->VK->Prop):Prop:=
 ∀(pins:List (Addr×Obj)) (s:d4) (σ:St) (H:Hp) (x:V) (v vl vu:Value) (lo hi:Option Int) (sl:Addr) (Q:VK),Inv X pins σ H s->C7 x v->s.heap.IsSliceOf sl vl vu .none->c2T vl lo->c2T vu hi->r x lo hi H Q ->
  ∃T id,c2Q (.type T) "__getitem__" = pure (some (.builtin id))/\s.TypeIs v T/\wpAny (model X.prog X.w) X.A (b0C v (.ref sl)) (EP X pins σ Q) X.xe s
theorem SlR.or{r r':V->Option Int->Option Int->Hp->VK->Prop}(h:SlR X r)(h':SlR X r'):SlR X (fun x lo hi H Q=>r x lo hi H Q\/r' x lo hi H Q):=by
 intro pins s σ H x v vl vu lo hi sl Q I rx hs pl pu q
 rcases q with q | q
 ·exact h pins s σ H x v vl vu lo hi sl Q I rx hs pl pu q
 ·exact h' pins s σ H x v vl vu lo hi sl Q I rx hs pl pu q
def tSl(r:V->Option Int->Option Int->Hp->VK->Prop)(te:TE)(tl th:TO):TE:=fun σ H Q=>te σ H fun x H1=>tl σ H1 fun l H2=>th σ H2 fun u H3=>r x l u H3 Q
theorem b9r{r:V->Option Int->Option Int->Hp->VK->Prop}(hr:SlR X r)(he:PE X e te)(hl:PO X lo tl)(hu:PO X hi th):PE X (.Subscript e (.Slice lo hi none p2) pos) (tSl r te tl th):=by
 intro pins s σ H Q I h
 refine Subscript_ (thn (he pins s σ H _ I h) fun v s1 ⟨x,H1,I1,r1,q1⟩=>?_)
 refine wpAny_Slice (thn (hl pins s1 σ H1 _ I1 q1) fun vl s2 ⟨l,H2,I2,pl,q2⟩=>thn (hu pins s2 σ H2 _ I2 q2) fun vu s3 ⟨u,H3,I3,pu,q3⟩=>?_)
 rw[evalPart_none]
 refine b6 ?_
 have I4:Inv X pins σ H3 { s3 with heap:=s3.heap.push { cls:=.type "slice",data:=.fields #[vl,vu,.none] } }:=I3.kept (t':=s3.toks) fun b ob q=>b8 _ q
 obtain⟨T,id,hT,ht,hg⟩:=hr pins { s3 with heap:=s3.heap.push { cls:=.type "slice",data:=.fields #[vl,vu,.none] } } σ H3 x v vl vu l u s3.heap.objs.size Q I4 r1 (Heap.IsSliceOf.new ..) pl pu q3
 show wpAny (model X.prog X.w) X.A (c3t e (.Slice lo hi none p2) v (.ref s3.heap.objs.size)) (EP X pins σ Q) X.xe { s3 with heap:=s3.heap.push { cls:=.type "slice",data:=.fields #[vl,vu,.none] } }
 exact tail_any (ops:=[.ref s3.heap.objs.size,v]) ht hT hg (by with_unfolding_all rfl)
def a4N(xs:List V)(lo hi:Option Int):List V:=(xs.drop (HT.sIx xs.length 0 lo)).take (HT.sIx xs.length xs.length hi - HT.sIx xs.length 0 lo)
theorem a7s(xs:List V)(lo hi:Option Int):(a4N xs lo hi).length<=xs.length:=by
 unfold a4N
 rw[C9,a9w]
 omega
def c7x(K:Fg):V->Option Int->Option Int->Hp->VK->Prop:=fun x lo hi H Q=>∃a xs,x=.ref a/\SqT K H a xs /\
 ¬(HT.sIx xs.length 0 lo=0/\HT.sIx xs.length xs.length hi=xs.length)/\∀p,H p=none->Q (.ref p) (upd H p (.tup (a4N xs lo hi)))
theorem c3C:SlR X (c7x X.K):=by
 intro pins s σ H x v vl vu lo hi sl Q I rx hs pl pu h
 obtain⟨a,xs,rfl,hx,hw,q⟩:=h
 cases rx
 obtain⟨its,r,ht,hz⟩:=I.tuple hx
 have hlen:its.toArray.size=xs.length:=by rw[g7];exact r.length.symm
 refine⟨"tuple",_,a0w.lookup,ht.typeIs,?_⟩
 refine HT.a6q ht hs pl pu (by rw[hlen];exact hw) ?_ (by rw[hlen];exact hz)
 rw[hlen]
 refine⟨.ref s.heap.objs.size,_,I.laid (t':=s.toks) (o:=.tup (a4N xs lo hi)) (fun b ob q=>b8 _ q) (d3 _) ?_,rfl,q _ (I.hok.fresh (d3 _))⟩
 exact⟨A1 (a7s xs lo hi) hz,_,(r.drop (HT.sIx xs.length 0 lo)).take (HT.sIx xs.length xs.length hi - HT.sIx xs.length 0 lo),IsTup.new _ _⟩
end
def ixN(n:Nat)(i:Int):Option Nat:=if 0<=i then (if i<n then some i.toNat else none)else if -(n:Int)<=i then some (i+n).toNat else none
def atI{α:Type}(xs:List α)(i:Int):Option α:=(ixN xs.length i).bind fun j=>xs[j]?
theorem b5J{i:Int}{j:Nat}(h:ixN n i=some j):seqIndex? i n=some j/\j<n /\ -(n:Int)<=i/\i<n:=by
 unfold ixN at h
 by_cases h0:0<=i
 ·rw[if_pos h0]at h
  by_cases h1:i<n
  ·rw[if_pos h1]at h
   have e:i.toNat=j:=Option.some.inj h
   exact⟨by rw[c7p h0 h1,e],by omega,by omega,h1⟩
  ·rw[if_neg h1]at h;cases h
 ·rw[if_neg h0]at h
  by_cases h1 : -(n:Int)<=i
  ·rw[if_pos h1]at h
   have e:(i+n).toNat=j:=Option.some.inj h
   exact⟨by rw[c5W (by omega) h1,e],by omega,h1,by omega⟩
  ·rw[if_neg h1]at h;cases h
theorem b1F{α:Type}{xs:List α}{i:Int}{v:α}(h:atI xs i=some v):∃j,seqIndex? i xs.length=some j/\xs[j]? = some v/\j<xs.length /\ -(xs.length:Int)<=i/\i<xs.length:=by
 unfold atI at h
 cases e:ixN xs.length i with
 | none=>rw[e]at h;cases h
 | some j=>
  rw[e]at h
  obtain⟨h1,h2,h3,h4⟩:=b5J e
  exact⟨j,h1,h,h2,h3,h4⟩
theorem a1E{α:Type}{xs:List α}{j:Nat}{v:α}(h:xs[j]? = some v):atI xs (j:Int)=some v:=by
 have hj:j<xs.length:=(j6.mp h).1
 have e:ixN xs.length (j:Int)=some j:=by
  unfold ixN
  rw[if_pos (by omega),if_pos (by omega)];simp
 unfold atI;rw[e];exact h
def b1K(b:Expr):Prop:=∀o i,b7Z b false o i=operate [o,i] (b0C o i)
def IxR(X:Cx)(r:R2):Prop:=
 ∀(value slice:Expr) (pins:List (Addr×Obj)) (s:d4) (σ:St) (H:Hp) (x y:V) (v u:Value) (Q:VK),Inv X pins σ H s->C7 x v->C7 y u->r x y H Q ->
  b7Z slice false v u=operate [v,u] (b0C v u)->wpAny (model X.prog X.w) X.A (c3t value slice v u) (EP X pins σ Q) X.xe s
def MtR(X:Cx)(id:String)(r:V->List V->Hp->VK->Prop):Prop:=
 ∀(pins:List (Addr×Obj)) (s:d4) (σ:St) (H:Hp) (x:V) (xs:List V) (v:Value) (us:List Value) (Q:VK),Inv X pins σ H s->C7 x v->E6 xs us->r x xs H Q ->
  wpAny (model X.prog X.w) X.A (call (.builtin id) (v::us)) (EP X pins σ Q) X.xe s
section
variable {a b:Expr}{ta tb:TE}{pos:Pos}
theorem IxR.or{r r':R2}(h:IxR X r)(h':IxR X r'):IxR X (fun x y H Q=>r x y H Q\/r' x y H Q):=by
 intro value slice pins s σ H x y v u Q I rx ry q hs
 rcases q with q | q
 ·exact h value slice pins s σ H x y v u Q I rx ry q hs
 ·exact h' value slice pins s σ H x y v u Q I rx ry q hs
theorem c6H{r:R2}(hr:IxR X r)(ha:PE X a ta)(hb:PE X b tb)(hs:b1K b):PE X (.Subscript a b pos) (tOp r ta tb):=by
 intro pins s σ H Q I h
 exact Subscript_ (c5w ha hb I h fun v u s2 x y H2 I2 rx ry q=>hr a b pins s2 σ H2 x y v u Q I2 rx ry q (hs _ _))
def c6s(K:Fg):R2:=fun x y H Q=>∃p xs i v,x=.ref p/\y=.int i/\SqL K H p xs/\atI xs i=some v/\Q v H
def c6q(K:Fg):R2:=fun x y H Q=>∃p xs i v,x=.ref p/\y=.int i/\SqT K H p xs/\atI xs i=some v/\Q v H
def c6r:R2:=fun x y H Q=>∃z i c,x=.str z/\y=.int i/\z.length<=i8/\atI z.cps.toList i=some c/\Q (.str ⟨#[c]⟩) H
theorem c2o:IxR X (c6s X.K):=by
 intro value slice pins s σ H x y v u Q I rx ry h hs
 obtain⟨p,xs,i,z,rfl,rfl,hq,he,q⟩:=h
 cases rx
 obtain⟨t,rfl⟩:=ry
 obtain⟨its,r,pl,hz⟩:=I.list hq
 obtain⟨j,h1,h2,h3,h4,h5⟩:=b1F he
 obtain⟨w,ew,rw'⟩:=r.get h2
 have hl:=r.length
 have hn:=a5E
 have fin:EP X pins σ Q w s:=⟨z,H,I,rw',q⟩
 by_cases h0:0<=i
 ·have hj:i.toNat=j:=by
   rw[c7p h0 h5]at h1
   exact Option.some.inj h1
  exact item_listR pl.isList h0 (by omega) (by rw[hj];simpa using ew) fin hs
 ·have hj:(i+(its.toArray.size:Int)).toNat=j:=by
   rw[c5W (by omega) h4]at h1
   rw[g7,<-hl]
   exact Option.some.inj h1
  exact c5Q (x:=w) pl.isList.typeIs slot_list_getitem.lookup
   (wpAny_getItem_list_neg (Q:=fun r s'=>r=w/\EP X pins σ Q r s') pl.isList (by omega) (by rw[g7] <;> omega) (by omega) (by rw[hj];simpa using ew) ⟨rfl,fin⟩) hs
theorem c5o:IxR X (c6q X.K):=by
 intro value slice pins s σ H x y v u Q I rx ry h hs
 obtain⟨p,xs,i,z,rfl,rfl,hq,he,q⟩:=h
 cases rx
 obtain⟨t,rfl⟩:=ry
 obtain⟨its,r,pl,hz⟩:=I.tuple hq
 obtain⟨j,h1,h2,h3,h4,h5⟩:=b1F he
 obtain⟨w,ew,rw'⟩:=r.get h2
 have hl:=r.length
 have hn:=a5E
 have fin:EP X pins σ Q w s:=⟨z,H,I,rw',q⟩
 exact c5Q (x:=w) pl.typeIs slot_tuple_getitem.lookup
  (getItem_tuple (j:=j) (Q:=fun r s'=>r=w/\EP X pins σ Q r s') pl (by omega) (by omega) (by rw[g7,<-hl];exact h1) (by simpa using ew) ⟨rfl,fin⟩) hs
theorem c5p:IxR X c6r:=by
 intro value slice pins s σ H x y v u Q I rx ry h hs
 obtain⟨z,i,c,rfl,rfl,hz,he,q⟩:=h
 obtain⟨t,rfl⟩:=rx
 obtain⟨t',rfl⟩:=ry
 obtain⟨j,h1,h2,h3,h4,h5⟩:=b1F he
 have hl:z.cps.toList.length=z.length:=by simp[Str.length]
 rw[hl]at h1 h4 h5
 have hn:=a5E
 exact tail_any (typeIs_str s z t) slot_str_getitem.lookup (getItem_str (c:=c) (by
  have e1:decide (i < -(2 ^ 63:Int))=false:=c8T (by omega)
  have e2:decide (i ≥ 2 ^ 63)=false:=c8T (by omega)
  rw[e1,e2,c7e]) (by rw[h1];simpa using h2) ⟨.str ⟨#[c]⟩,H,I.tok _,⟨_,rfl⟩,q⟩) hs
def rIx(K:Fg):R2:=fun x y H Q=>c6s K x y H Q\/c6q K x y H Q\/c6r x y H Q
theorem c5q:IxR X (rIx X.K):=c2o.or (c5o.or c5p)
theorem b4M(its:List Value)(n j:Nat)(u:Value):Obj.mapSeq (·.setIfInBounds j u) { cls:=.type "list",data:=.seq its.toArray n }={ cls:=.type "list",data:=.seq (its.set j u).toArray n }:=by
 simp[Obj.mapSeq]
theorem Inv.lst{pins:List (Addr×Obj)}{σ:St}{H:Hp}{s:d4}{p:Addr}{xs:List V}(I:Inv X pins σ H s)(h:H p=some (.lst xs)) :
  ∃(its:List Value) (n:Nat),E6 xs its/\s.heap.get? p=some { cls:=.type "list",data:=.seq its.toArray n }/\xs.length<=i8:=by
 obtain⟨z,its,n,r,e⟩:=I.hok p _ h
 exact⟨its,n,r,e,z⟩
theorem Inv.lstUpd{p:Addr}{ys:List V}{its its':List Value}{n':Nat}{f:Obj->Obj}(I:Inv X pins σ H s)(h:H p=some (.lst xs))
  (ho:s.heap.get? p=some { cls:=.type "list",data:=.seq its.toArray n }) (hf:f { cls:=.type "list",data:=.seq its.toArray n }={ cls:=.type "list",data:=.seq its'.toArray n' }) (r:E6 ys its') (hz:ys.length<=i8) (t:Nat) :
  Inv X pins σ (upd H p (.lst ys)) { s with heap:=s.heap.update p f,toks:=t }:=by
 have e:(s.heap.update p f).get? p=some { cls:=.type "list",data:=.seq its'.toArray n' }:=by
  rw[G0 f ho (by rw[hf] <;> rfl),hf]
 refine I.write (x:=p) (e:=p) (by rw[h];trivial) (.inl rfl) (fun b u hb q=>(a1i _ _ (Ne.symm hb)).trans q) ⟨_,e⟩ ?_
 exact⟨hz,its',n',r,e⟩
def c6p:V->V->V->Hp->(Hp->Prop)->Prop:=fun o i v H Q=>∃p xs k j,o=.ref p/\i=.int k/\H p=some (.lst xs)/\ixN xs.length k=some j/\Q (upd H p (.lst (xs.set j v)))
theorem b8J:c0s X c6p:=by
 intro pins s σ H o i v ov iv u Q I ro ri rv h
 obtain⟨p,xs,k,j,rfl,rfl,hp,hj,q⟩:=h
 cases ro
 obtain⟨t,rfl⟩:=ri
 obtain⟨its,n,r,ho,hz⟩:=I.lst hp
 obtain⟨h1,h2,h3,h4⟩:=b5J hj
 have hl:=r.length
 have hn:=a5E
 have I':Inv X pins σ (upd H p (.lst (xs.set j v))) { s with heap:=s.heap.update p (Obj.mapSeq (·.setIfInBounds j u)) }:=
  I.lstUpd hp ho (b4M its n j u) (r.set rv j) (by rw[a0K];exact hz) s.toks
 by_cases h0:0<=k
 ·have hk:k.toNat=j:=by
   rw[c7p h0 h4]at h1
   exact Option.some.inj h1
  exact PySem.W.ki_setAt ho h0 (by omega) (by rw[g7,<-hl];exact h4) (by rw[hk];exact⟨_,I',q⟩)
 ·have hk:(k+(its.toArray.size:Int)).toNat=j:=by
   rw[c5W (by omega) h3]at h1
   rw[g7,<-hl]
   exact Option.some.inj h1
  exact PySem.W.ki_setBack ho (by omega) (by rw[g7,<-hl];exact h3) (by omega) (by rw[hk];exact⟨_,I',q⟩)
theorem b0P(lo hi:Option Int)(n:Nat):(a3T lo hi none n).1=((HT.sIx n 0 lo:Nat):Int)/\(a3T lo hi none n).2.1=((HT.sIx n n hi:Nat):Int)/\(a3T lo hi none n).2.2=1:=by
 refine⟨?_,?_,rfl⟩
 ·cases lo with
  | none=>simp[a3T,HT.sIx]
  | some i=>
   simp only[a3T,HT.sIx,c0D,show(1:Int) > 0 by decide,if_true]
   by_cases h:i<0
   ·simp only[h,if_true] <;> omega
   ·simp only[h,if_false] <;> omega
 ·cases hi with
  | none=>simp[a3T,HT.sIx]
  | some i=>
   simp only[a3T,HT.sIx,c0D,show(1:Int) > 0 by decide,if_true]
   by_cases h:i<0
   ·simp only[h,if_true] <;> omega
   ·simp only[h,if_false] <;> omega
theorem a9B(its:List Value)(lo hi:Option Int):slicePick its.toArray lo hi none=((its.drop (HT.sIx its.length 0 lo)).take (HT.sIx its.length its.length hi - HT.sIx its.length 0 lo)).toArray:=by
 obtain⟨h1,h2,h3⟩:=b0P lo hi its.toArray.size
 unfold slicePick
 rw[h1,h2,h3]
 simp only[sliceRange_one,pick_run,g7] <;> rfl
def c3Z(K:Fg):V->Option Int->Option Int->Hp->VK->Prop:=fun x lo hi H Q=>∃a xs,x=.ref a/\SqL K H a xs/\∀p,H p=none->Q (.ref p) (upd H p (.lst (a4N xs lo hi)))
theorem b5p:SlR X (c3Z X.K):=by
 intro pins s σ H x v vl vu lo hi sl Q I rx hs pl pu h
 obtain⟨a,xs,rfl,hx,q⟩:=h
 cases rx
 obtain⟨its,r,ht,hz⟩:=I.list hx
 have hlen:=r.length
 refine⟨"list",_,slot_list_getitem.lookup,ht.isList.typeIs,?_⟩
 refine wpAny_getItem_list_slice ht.isList hs pl pu .none (by simp) ?_ (by rw[g7] <;> omega)
 rw[a9B,<-hlen]
 refine⟨.ref s.heap.objs.size,_,I.laid (t':=s.toks) (o:=.lst (a4N xs lo hi)) (fun b ob q=>b8 _ q) (d3 _) ?_,rfl,q _ (I.hok.fresh (d3 _))⟩
 exact⟨A1 (a7s xs lo hi) hz,_,0,(r.drop (HT.sIx xs.length 0 lo)).take (HT.sIx xs.length xs.length hi - HT.sIx xs.length 0 lo),d7 _ rfl⟩
def L9:V->Bool
 | .non=>true
 | .bl _=>true
 | .int _=>true
 | .str _=>true
 | _=>false
def eqV:V->V->Bool
 | .non,.non=>true
 | .bl a,.bl b=>a == b
 | .bl a,.int b=>(if a then 1 else 0) == b
 | .int a,.bl b=>a == (if b then 1 else 0)
 | .int a,.int b=>a == b
 | .str a,.str b=>a == b
 | _,_=>false
theorem b4Y{A:F2}{y x:V}{u v:Value}(ry:C7 y u)(rx:C7 x v)(fy:L9 y=true)(fx:L9 x=true):SeqAt.EqAt A s u v (eqV y x):=by
 cases y with
 | non=>
  cases ry
  cases x with
  | non=>cases rx;exact SeqAt.EqAt.same _
  | bl b=>cases rx;exact SeqAt.EqAt.none_bool b
  | int b=>obtain⟨t,rfl⟩:=rx;exact SeqAt.EqAt.none_int b t
  | str b=>obtain⟨t,rfl⟩:=rx;exact SeqAt.EqAt.none_str b t
  | _=>exact absurd (show false=true from fx) j5
 | bl a=>
  cases ry
  cases x with
  | non=>cases rx;exact SeqAt.EqAt.bool_none a
  | bl b=>cases rx;exact SeqAt.EqAt.bool_bool a b
  | int b=>obtain⟨t,rfl⟩:=rx;exact SeqAt.EqAt.bool_int a b t
  | str b=>obtain⟨t,rfl⟩:=rx;exact SeqAt.EqAt.bool_str a b t
  | _=>exact absurd (show false=true from fx) j5
 | int a=>
  obtain⟨t',rfl⟩:=ry
  cases x with
  | non=>cases rx;exact SeqAt.EqAt.int_none a t'
  | bl b=>cases rx;exact SeqAt.EqAt.int_bool a t' b
  | int b=>obtain⟨t,rfl⟩:=rx;exact SeqAt.EqAt.int_int a t' b t
  | str b=>obtain⟨t,rfl⟩:=rx;exact SeqAt.EqAt.int_str a t' b t
  | _=>exact absurd (show false=true from fx) j5
 | str a=>
  obtain⟨t',rfl⟩:=ry
  cases x with
  | non=>cases rx;exact SeqAt.EqAt.str_none a t'
  | bl b=>cases rx;exact SeqAt.EqAt.str_bool a t' b
  | int b=>obtain⟨t,rfl⟩:=rx;exact SeqAt.EqAt.str_int a t' b t
  | str b=>obtain⟨t,rfl⟩:=rx;exact SeqAt.EqAt.str_str a t' b t
  | _=>exact absurd (show false=true from fx) j5
 | _=>exact absurd (show false=true from fy) j5
def eqU(x:V)(u:Value):Bool:=match u with
 | .none=>eqV .non x
 | .bool b=>eqV (.bl b) x
 | .int i _=>eqV (.int i) x
 | .str z _=>eqV (.str z) x
 | _=>false
theorem c0d{x y:V}{u:Value}(r:C7 y u)(f:L9 y=true):eqU x u=eqV y x:=by
 cases y with
 | non=>cases r;rfl
 | bl b=>cases r;rfl
 | int i=>obtain⟨t,rfl⟩:=r;rfl
 | str z=>obtain⟨t,rfl⟩:=r;rfl
 | _=>exact absurd (show false=true from f) j5
theorem a6u{x:V}:∀ {xs:List V} {us:List Value},E6 xs us->xs.all L9=true->us.any (eqU x)=xs.any fun y=>eqV y x
 | _,_,.nil,_=>rfl
 | y::xs,u::us,.cons r t,f=>by
  rw[b3J,T4]at f
  rw[a0x,a0x,c0d r f.1,a6u t f.2]
theorem a4k{A:F2}{x:V}{v:Value}(rx:C7 x v)(fx:L9 x=true):∀ {xs:List V} {us:List Value},E6 xs us->xs.all L9=true->∀u∈us,SeqAt.EqAt A s u v (eqU x u)
 | _,_,.nil,_=>fun u hu=>by cases hu
 | y::xs,u::us,.cons r t,f=>fun u' hu=>by
  rw[b3J,T4]at f
  rcases d8.mp hu with rfl | hu
  ·rw[c0d r f.1];exact b4Y r rx f.1 fx
  ·exact a4k rx fx t f.2 u' hu
def inV(x:V)(xs:List V):Bool:=xs.any fun y=>eqV y x
def rIn(K:Fg)(neg:Bool):R2:=fun x y H Q=>∃p xs,y=.ref p/\(SqL K H p xs\/SqT K H p xs)/\L9 x=true/\xs.all L9=true/\Q (.bl (if neg then !inV x xs else inV x xs)) H
theorem b0j:OpR X (o9 .In) (rIn X.K false):=by
 intro pins s σ H x y v u Q I rx ry h
 obtain⟨p,xs,rfl,hq,fx,fs,q⟩:=h
 cases ry
 rcases hq with hq | hq
 ·obtain⟨its,r,pl,hz⟩:=I.list hq
  refine SeqAt.in_listAt (eqU x) pl.isList (fun w hw=>a4k rx fx r fs w (by simpa using hw)) ⟨.bl _,H,I,rfl,?_⟩
  rw[show its.toArray.any (eqU x)=its.any (eqU x) by simp,a6u r fs]
  exact q
 ·obtain⟨its,r,pl,hz⟩:=I.tuple hq
  refine SeqAt.in_tupleAt (eqU x) pl (fun w hw=>a4k rx fx r fs w (by simpa using hw)) ⟨.bl _,H,I,rfl,?_⟩
  rw[show its.toArray.any (eqU x)=its.any (eqU x) by simp,a6u r fs]
  exact q
theorem b1i:OpR X (o9 .NotIn) (rIn X.K true):=by
 intro pins s σ H x y v u Q I rx ry h
 obtain⟨p,xs,rfl,hq,fx,fs,q⟩:=h
 cases ry
 rcases hq with hq | hq
 ·obtain⟨its,r,pl,hz⟩:=I.list hq
  refine SeqAt.notIn_listAt (eqU x) pl.isList (fun w hw=>a4k rx fx r fs w (by simpa using hw)) ⟨.bl _,H,I,rfl,?_⟩
  rw[show its.toArray.any (eqU x)=its.any (eqU x) by simp,a6u r fs]
  exact q
 ·obtain⟨its,r,pl,hz⟩:=I.tuple hq
  refine SeqAt.notIn_tupleAt (eqU x) pl (fun w hw=>a4k rx fx r fs w (by simpa using hw)) ⟨.bl _,H,I,rfl,?_⟩
  rw[show its.toArray.any (eqU x)=its.any (eqU x) by simp,a6u r fs]
  exact q
theorem b1h:OpR X (o9 .NotIn) (fun x y H Q=>∃i j,x=.str i/\y=.str j/\Q (.bl (!(!(Builtin.Str.occurrences j i 0 j.length 1).isEmpty))) H):=by
 intro pins s σ H x y v u Q I rx ry h
 obtain⟨i,j,rfl,rfl,q⟩:=h
 obtain⟨t,rfl⟩:=rx
 obtain⟨t',rfl⟩:=ry
 exact notIn_str ⟨.bl _,H,I,rfl,q⟩
theorem b1D:R8 X (.builtin "len") (fun xs H Q=>∃p ys,xs=[.ref p]/\(SqL X.K H p ys\/SqT X.K H p ys)/\Q (.int ys.length) H):=by
 intro pins s σ H xs us Q I r h
 obtain⟨p,ys,rfl,hq,q⟩:=h
 obtain⟨u,rfl,rx⟩:=a2j r
 cases rx
 have hn:=a5E
 rcases hq with hq | hq
 ·obtain⟨its,r',pl,hz⟩:=I.list hq
  have hlen:=r'.length
  exact Calls.call_len_list pl.isList (by simp only[g7] <;> omega) ⟨.int ys.length,H,I.tok _,⟨s.toks+1,by rw[g7,hlen]⟩,q⟩
 ·obtain⟨its,r',pl,hz⟩:=I.tuple hq
  have hlen:=r'.length
  exact len_tuple pl (by simp only[g7] <;> omega) ⟨.int ys.length,H,I.tok _,⟨s.toks+1,by rw[g7,hlen]⟩,q⟩
theorem b1C:R8 X (.builtin "len") (fun xs H Q=>∃z,xs=[.str z]/\z.length<=i8/\Q (.int z.length) H):=by
 intro pins s σ H xs us Q I r h
 obtain⟨z,rfl,hz,q⟩:=h
 obtain⟨u,rfl,t,rfl⟩:=a2j r
 have hn:=a5E
 exact len_str (by omega) ⟨.int z.length,H,I.tok _,⟨_,rfl⟩,q⟩
theorem R8.or{f:Value}{r r':List V->Hp->VK->Prop}(h:R8 X f r)(h':R8 X f r'):R8 X f (fun xs H Q=>r xs H Q\/r' xs H Q):=by
 intro pins s σ H xs us Q I rs q
 rcases q with q | q
 ·exact h pins s σ H xs us Q I rs q
 ·exact h' pins s σ H xs us Q I rs q
theorem b1B:R8 X (.type "list") (fun xs H Q=>∃p ys,xs=[.ref p]/\(SqL X.K H p ys\/SqT X.K H p ys)/\∀l,H l=none->Q (.ref l) (upd H l (.lst ys))):=by
 intro pins s σ H xs us Q I r h
 obtain⟨p,ys,rfl,hq,q⟩:=h
 obtain⟨u,rfl,rx⟩:=a2j r
 cases rx
 have fin:∀(its:List Value),E6 ys its->ys.length<=i8->∀(h':Heap) (c':Nat),(∀b o',s.heap.get? b=some o'->h'.get? b=some o') ->
   h'.get? s.heap.objs.size=some { cls:=.type "list",dict:=none,data:=.seq its.toArray c',slots := #[] }->EP X pins σ Q (.ref s.heap.objs.size) { s with heap:=h' }:=fun its r' hz h' c' kp e=>
  ⟨.ref s.heap.objs.size,_,I.laid (t':=s.toks) kp (d3 _) (show Q7 X.prog X.w _ h' _ (.lst ys)from⟨hz,its,c',r',e⟩),rfl,q _ (I.hok.fresh (d3 _))⟩
 rcases hq with hq | hq
 ·obtain⟨its,r',pl,hz⟩:=I.list hq
  have hlen:=r'.length
  obtain⟨o,ho,hc,n,hd⟩:=pl.isList
  exact call_list_seq p (.inl rfl) ho hc hd (fun h' c' kp e=>fin its r' hz h' c' kp e) (by simp only[g7] <;> omega)
 ·obtain⟨its,r',pl,hz⟩:=I.tuple hq
  have hlen:=r'.length
  obtain⟨o,ho,hc,n,hd⟩:=pl
  exact call_list_seq p (.inr rfl) ho hc hd (fun h' c' kp e=>fin its r' hz h' c' kp e) (by simp only[g7] <;> omega)
def tyV(K:Fg)(T:String)(x:V)(H:Hp):Prop:=match x with
 | .str _=>T = "str"
 | .int _=>T = "int"
 | .ref p=>(T = "list" /\ ∃xs,SqL K H p xs)\/(T = "tuple" /\ ∃o,K.lookup p=some o/\o.cls=.type "tuple" /\ o.dict=none) \/
   (T = "dict" /\ ((∃kvs,H p=some (.dK kvs))\/∃kvs,H p=some (.dT kvs)))\/(T = "set" /\ ∃S n,H p=some (.set S n))
 | _=>False
theorem b8r{T:String}{x:V}{v:Value}(I:Inv X pins σ H s)(r:C7 x v)(ty:tyV X.K T x H) :
  s.TypeIs v T/\∀a,v=.ref a->∃ob,s.heap.get? a=some ob/\ob.dict=none:=by
 cases x with
 | str z=>
  obtain⟨t,rfl⟩:=r
  cases (show T = "str" from ty)
  exact⟨typeIs_str s z t,fun _ e=>nomatch e⟩
 | int i=>
  obtain⟨t,rfl⟩:=r
  cases (show T = "int" from ty)
  exact⟨typeIs_int s i t,fun _ e=>nomatch e⟩
 | ref p=>
  cases r
  rcases ty with ⟨rfl,xs,hq⟩ | ⟨rfl,o,hk,hc,hd⟩ | ⟨rfl,hk⟩ | ⟨rfl,S,n,hk⟩
  ·obtain⟨its,_,pl,_⟩:=I.list hq
   refine⟨pl.isList.typeIs,fun a e=>?_⟩
   cases e
   obtain⟨o,n,e,c,hd,_⟩:=pl
   exact⟨o,e,hd⟩
  ·refine⟨⟨o,I.kIn p o hk,hc⟩,fun a e=>?_⟩
   cases e
   exact⟨o,I.kIn _ o hk,hd⟩
  ·have z:∃o,s.heap.get? p=some o/\o.ExactDict:=by
    rcases hk with ⟨kvs,hk⟩ | ⟨kvs,hk⟩
    ·obtain⟨_,_,_,_,o,_,_,e,ex,_⟩:=I.hok p _ hk
     exact⟨o,e,ex⟩
    ·obtain⟨_,_,_,_,o,_,_,e,ex,_⟩:=I.hok p _ hk
     exact⟨o,e,ex⟩
   obtain⟨o,e,ex⟩:=z
   refine⟨⟨o,e,ex.1⟩,fun a e2=>?_⟩
   cases e2
   exact⟨o,e,ex.2.1⟩
  ·obtain⟨o,_,_,_,e,ex,_⟩:=I.hok p _ hk
   refine⟨⟨o,e,ex.1⟩,fun a e2=>?_⟩
   cases e2
   exact⟨o,e,ex.2.1⟩
 | _=>exact False.elim ty
def b3X(K:Fg)(T:String)(r:V->List V->Hp->VK->Prop)(to:TE):TE:=fun σ H Q=>to σ H fun x H1=>tyV K T x H1/\r x [] H1 Q
def tBM(K:Fg)(T:String)(r:V->List V->Hp->VK->Prop)(to:TE)(t:TA):TE:=fun σ H Q=>to σ H fun x H1=>tyV K T x H1/\t σ H1 fun xs H2=>r x xs H2 Q
variable {o e:Expr}{es:List Expr}{to:TE}{t:TA}{name:Str}{apos cpos:Pos}{T id:String}{r:V->List V->Hp->VK->Prop}
theorem c4F(pa:c2S T)(slot:Slot T name id)(hty:typeOf (.builtin id)=pure (.type "method_descriptor"))(hm:MtR X id r)(ho:PE X o to)
  (hbase:a0a o name X.env (eval o X.env)=eval o X.env:=by rfl) (hline:(apos.endLine == cpos.line)=true:=by rfl):PE X (.Call (.Attribute o name apos) [] [] cpos) (b3X X.K T r to):=by
 intro pins s σ H Q I h
 refine wpAny_Call_method0_late hbase hline (thn (ho pins s σ H _ I h) fun v s1 ⟨x,H1,I1,r1,ty,q1⟩=>?_)
 obtain⟨h1,h2⟩:=b8r I1 r1 ty
 exact⟨T,id,pa,slot,hty,h1,h2,Calls.callWith_builtin rfl (PySem.evalArgs_none (hm pins s1 σ H1 x [] v [] Q I1 r1 .nil q1))⟩
theorem c6J(pa:c2S T)(slot:Slot T name id)(hty:typeOf (.builtin id)=pure (.type "method_descriptor"))(hm:MtR X id r)(ho:PE X o to)(ha:PA X (e::es) t)
  (hbase:a0a o name X.env (eval o X.env)=eval o X.env:=by rfl)
  (hfew:((W7 cpos (d9 (e::es) X.env)).all (fun x => !x.1)&&(a4W cpos (a0z [] X.env)).all (fun x=>x.1.isSome)
   && decide ((e::es).length+([]:List b0D).length+(if([]:List b0D).isEmpty then 0 else 1)<30))=true:=by rfl)
  (hline:(apos.endLine == cpos.line)=true:=by rfl) (hs:d9 (e::es) X.env=(false,eval e X.env)::d9 es X.env:=by rfl) (hplain:(W7 cpos (d9 es X.env)).any (·.1)=false:=by rfl) :
  PE X (.Call (.Attribute o name apos) (e::es) [] cpos) (tBM X.K T r to t):=by
 intro pins s σ H Q I h
 refine wpAny_Call_method_late hbase hfew hline rfl (thn (ho pins s σ H _ I h) fun v s1 ⟨x,H1,I1,r1,ty,q1⟩=>?_)
 obtain⟨h1,h2⟩:=b8r I1 r1 ty
 refine⟨T,id,pa,slot,hty,h1,h2,?_⟩
 have hA:=ha cpos pins s1 σ H1 _ I1 q1
 rw[hs]at hA ⊢
 refine Calls.callWith_builtin (by show(false||(W7 cpos (d9 es X.env)).any (·.1))=false;rw[hplain] <;> rfl) (Calls.evalArgs_plain ?_)
 exact thn hA fun us s2 ⟨vs,H2,I2,r2,q2⟩=>hm pins s2 σ H2 x vs v us Q I2 r1 r2 q2
end
def MtM(X:Cx)(id:String)(r:V->List V->Hp->VK->Prop):Prop:=
 ∀(pins:List (Addr×Obj)) (s:d4) (σ:St) (H:Hp) (x:V) (xs:List V) (v:Value) (us:List Value) (Q:VK),Inv X pins σ H s->C7 x v->E6 xs us->r x xs H Q ->
  wpAny (model X.prog X.w) X.A (call (.builtin id) (v::us)) (EP X pins σ Q) X.xe s
theorem E6.one:∀ {x:V} {us:List Value},E6 [x] us->∃u,us=[u]/\C7 x u
 | _,_,.cons r .nil=>⟨_,rfl,r⟩
theorem E6.zero:∀ {us:List Value},E6 [] us->us=[]
 | _,.nil=>rfl
theorem E6.dropLast(h:E6 xs us):E6 xs.dropLast us.dropLast:=by
 induction h with
 | nil=>exact .nil
 | cons r t ih=>
  cases t with
  | nil=>exact .nil
  | cons q t'=>exact .cons r ih
theorem b4X{α:Type}(l:List α):l.eraseIdx (l.length - 1)=l.dropLast:=by
 induction l with
 | nil=>rfl
 | cons a r ih=>
  cases r with
  | nil=>rfl
  | cons b r=>
   have e:(a::b::r).length - 1=((b::r).length - 1)+1:=by
    have h1:(a::b::r).length=r.length+2:=rfl
    have h2:(b::r).length=r.length+1:=rfl
    omega
   rw[e,List.eraseIdx_cons_succ,ih]
   all_goals rfl
section
variable {l b:Addr}{ys zs:List V}
theorem Inv.lset{its its':List Value}{f:Array Value->Array Value}{t':Nat}(I:Inv X pins σ H s)(hH:H l=some (.lst xs))
  (e:s.heap.get? l=some { cls:=.type "list",data:=.seq its.toArray n }) (hf:f its.toArray=its'.toArray) (hv:E6 ys its') (hz:ys.length<=i8) :
  Inv X pins σ (upd H l (.lst ys)) { s with heap:=s.heap.update l (Obj.mapSeq f),toks:=t' }:=by
 have q:=PySem.IsL.update e f
 rw[hf]at q
 refine I.write (x:=l) (e:=l) (by rw[hH];exact trivial) (.inl rfl) (fun b' u hb hu=>(a1i s.heap (Obj.mapSeq f) (Ne.symm hb)).trans hu) ⟨_,q⟩ ?_
 exact⟨hz,its',_,hv,q⟩
theorem Inv.lnew{its:List Value}{t':Nat}(I:Inv X pins σ H s)(hv:E6 ys its)(hz:ys.length<=i8) :
  Inv X pins σ (upd H s.heap.objs.size (.lst ys)) { s with heap:=s.heap.push { cls:=.type "list",data:=.seq its.toArray },toks:=t' }:=
 I.laid (fun _ _ q=>b8 _ q) (d3 _) ⟨hz,its,0,hv,d7 _ rfl⟩
theorem Inv.fresh(I:Inv X pins σ H s):H s.heap.objs.size=none:=I.hok.fresh (d3 _)
theorem Inv.lstM(I:Inv X pins σ H s)(hH:H l=some (.lst xs)):xs.length<=i8/\∃(its:List Value) (n:Nat),E6 xs its/\xs.length=its.length/\s.heap.get? l=some { cls:=.type "list",data:=.seq its.toArray n }:=by
 obtain⟨z,its,n,r,e⟩:=I.hok l _ hH
 exact⟨z,its,n,r,r.length,e⟩
theorem b9I(h:n<=i8):Builtin.List.listTooLong n=false:=by
 unfold Builtin.List.listTooLong
 exact c8T (by omega)
end
section
def c1i:V->List V->Hp->VK->Prop:=fun x vs H Q=>∃l xs y,x=.ref l/\vs=[y]/\H l=some (.lst xs)/\xs.length<i8/\Q .non (upd H l (.lst (xs++[y])))
theorem a6W:MtM X "list.append" c1i:=by
 intro pins s σ H x vs v us Q I rx rv h
 obtain⟨l,xs,y,rfl,rfl,hH,hz,q⟩:=h
 cases rx
 obtain⟨u,rfl,ru⟩:=rv.one
 obtain⟨z,its,n,r,hl,e⟩:=I.lstM hH
 refine c2R F.slot_list_append ⟨_,e,rfl⟩ F.entry_list_append (F.args_list_append_2 _ _) (PySem.list_append l its.toArray n u (by rw[g7];omega)) ⟨e,?_⟩
 refine⟨.non,_,I.lset (its':=its++[u]) hH e (by simp) (r.append (.cons ru .nil)) ?_,rfl,q⟩
 rw[j3,O3]
 omega
def c1h:V->List V->Hp->VK->Prop:=fun x vs H Q=>∃l b xs zs,x=.ref l/\vs=[.ref b]/\H l=some (.lst xs)/\H b=some (.lst zs)/\xs.length+zs.length<=i8/\Q .non (upd H l (.lst (xs++zs)))
theorem b6Y:MtM X "list.extend" c1h:=by
 intro pins s σ H x vs v us Q I rx rv h
 obtain⟨l,b,xs,zs,rfl,rfl,hH,hB,hz,q⟩:=h
 cases rx
 obtain⟨u,rfl,ru⟩:=rv.one
 cases ru
 obtain⟨z,its,n,r,hl,e⟩:=I.lstM hH
 obtain⟨z2,its2,n2,r2,hl2,e2⟩:=I.lstM hB
 have hsz:its.toArray.size+its2.toArray.size<=i8:=by rw[g7,g7];omega
 have hlong:¬(!its.toArray.isEmpty&&Builtin.List.listTooLong (its.toArray.size+its2.toArray.size))=true:=by
  rw[b9I hsz,Bool.and_false]
  exact j5
 refine c2R F.slot_list_extend ⟨_,e,rfl⟩ F.entry_list_extend (F.args_list_extend_2 _ _)
  (AutoSeq1.list_extend_list_list_0 l its.toArray n b its2.toArray n2 hlong (by rw[g7];omega) (by omega)) ⟨e,e2,?_⟩
 refine⟨.non,_,I.lset (its':=its++its2) hH e (by simp) (r.append r2) ?_,rfl,q⟩
 rw[j3]
 omega
def c7y:V->List V->Hp->VK->Prop:=fun x vs H Q=>∃l xs y,x=.ref l/\vs=[]/\H l=some (.lst xs)/\xs[xs.length - 1]? = some y/\Q y (upd H l (.lst xs.dropLast))
theorem c5d:MtM X "list.pop" c7y:=by
 intro pins s σ H x vs v us Q I rx rv h
 obtain⟨l,xs,y,rfl,rfl,hH,hy,q⟩:=h
 cases rx
 have hus:=rv.zero
 subst hus
 obtain⟨z,its,n,r,hl,e⟩:=I.lstM hH
 obtain⟨u,hu,ru⟩:=r.get hy
 have hy':its.toArray[its.toArray.size - 1]? = some u:=by
  show its.toArray[its.length - 1]? = some u
  rw[<-C2,<-hl]
  exact hu
 refine c2R F.slot_list_pop ⟨_,e,rfl⟩ F.entry_list_pop (F.args_list_pop_1 _) (MeetsSeq.list_pop_last l its.toArray n u hy' (by rw[g7];omega)) ⟨e,?_⟩
 refine⟨y,_,I.lset (its':=its.dropLast) hH e ?_ r.dropLast ?_,ru,q⟩
 ·show its.toArray.eraseIdxIfInBounds (its.toArray.size - 1)=its.dropLast.toArray
  rw[g7,List.eraseIdxIfInBounds_toArray,b4X]
 ·rw[List.length_dropLast]
  omega
def c7z:R2:=fun x y H Q=>∃l b xs zs,x=.ref l/\y=.ref b/\H l=some (.lst xs)/\H b=some (.lst zs)/\xs.length+zs.length<=i8/\∀p,H p=none->Q (.ref p) (upd H p (.lst (xs++zs)))
theorem c4T:OpR X (Y0 .Add) c7z:=by
 intro pins s σ H x y v u Q I rx ry h
 obtain⟨l,b,xs,zs,rfl,rfl,hH,hB,hz,q⟩:=h
 cases rx
 cases ry
 obtain⟨z,its,n,r,hl,e⟩:=I.lstM hH
 obtain⟨z2,its2,n2,r2,hl2,e2⟩:=I.lstM hB
 refine PySem.P.add_list e e2 ?_ (by rw[g7,g7];omega)
 have ea:its.toArray++its2.toArray=(its++its2).toArray:=by simp
 rw[ea]
 exact⟨.ref _,_,I.lnew (t':=s.toks) (r.append r2) (by rw[j3];omega),rfl,q _ I.fresh⟩
end
section
variable {prog:u4}{w:World}{A:F2}{E:Value->d4->Prop}
set_option maxRecDepth 100000 in
end
section
end
end L2
namespace Att
open PySem PySem.W PySem.Calls PyProof.Rows
theorem a7z{P:Params}{h:Heap}:∀(ns:List Int) (vs:List Value),WellAll P h vs (ns.map WData.int)->c3v vs ns:=by
 intro ns
 induction ns with
 | nil=>
  intro vs w
  rw[b5X]at w
  cases w
  exact .nil
 | cons n ns ih=>
  intro vs w
  rw[F6]at w
  cases w with
  | cons a b=>
   cases a
   exact .cons _ _ (ih _ b)
theorem b6z{l:OpenLaw}{n:Nat}(hn:l.most=some n){P:Params}{h:Heap}{args:List WData}{vals:List Value}
  (hpre:l.row.toRowW.claim.pre args=true) (hwl:WellAll P h vals args) :
  ∃a vs ns,vals=[Value.ref a]/\args=[WData.list (ns.map WData.int)]/\h.get? a=some { cls:=.type "list",data:=.seq vs.toArray }/\c3v vs ns/\ns.length<=n:=by
 have hsh:WShape.hasAll [] args [.list .int]=true:=(pre_splitW hpre).1
 have hc:l.pre.holds [] { args:=args }=true:=(pre_splitW hpre).2
 obtain⟨d,r,rfl,h1,h2⟩:=hasAllW_cons hsh
 obtain rfl:=hasAllW_nil h2
 obtain⟨xs,rfl,h3⟩:=hasW_list h1
 obtain⟨ns,rfl⟩:=items_int h3
 have hlen:ns.length<=n:=by
  unfold OpenLaw.pre at hc
  have h4:(WTm.not (.lt (.lit (.int (n:Int))) (.len (.arg 0)))).holds [] { args:=[.list (ns.map .int)] }=true:=by
   have h4:=(holds_andW hc).1
   rw[hn]at h4
   exact h4
  have h5:=condW_of h4 (w_not (w_lt w_lit (w_len_list (w_arg rfl))))
  rw[a9]at h5
  refine Nat.le_of_not_lt fun q=>?_
  have q':(n:Int)<((ns.length:Nat):Int):=by omega
  first
   | (rw[c8U q']at h5;exact absurd h5 (by decide))
   | (simp at h5;omega)
 cases hwl with
 | cons w1 w2=>
  cases w2
  cases w1 with
  | list ho hall=>exact⟨_,_,ns,rfl,rfl,ho,a7z ns _ hall,hlen⟩
theorem b6J(l:OpenLaw)(args:List WData):l.row.toRowW.claim.post args (.bool true) args=true:=
 postW_of (r:=l.row.toRowW) (X:=(true == true))
  (show WShape.has [] (.bool true) .bool=true by first | rfl | decide | simp[WShape.has,WShape.arms,WShape.armsAll])
  (show(WTm.eq .res (.lit (.bool true))).value [] { args:=args,res:=some (.bool true),after:=args }=some (.bool (true == true))from w_eq_bool (w_res rfl) w_lit) rfl
theorem b3x{l:OpenLaw}{n:Nat}{q:u4}{loose:List Str}{XP:(Str->Option Value)->Heap->Prop}{YP:World->Heap->Prop}{d:DefRec}
  (hn:l.most=some n) (hdf:d.params.defaults=[])
  (call:∀(w:World) (s₀ s₁:d4) (mg mb:Str->Option Value) (fa:Addr) (o:Obj) (pm cd doc:Value) (a:Addr) (vs:List Value) (ns:List Int),
   Ground q loose [] XP w s₀ mg mb s₁.heap->YP w s₁.heap ->
   s₁.heap.get? fa=some o->o.data=.func (docDef d.name d.params d.body d.scope pm cd doc)->s₁.heap.CodeRec cd d.name->mg d.name=some (.ref fa) ->
   s₁.heap.get? a=some { cls:=.type "list",data:=.seq vs.toArray }->c3v vs ns->ns.length<=n->s₁.gens = #[] ->
   a1r (model l.prog w) b8a (.call (.ref fa) ⟨[.ref a],[]⟩) (fun r s'=>r=.ok (.ret (.bool true))/\OldK s₁.heap s'.heap/\s'.os=s₁.os/\b0E s'.gens) s₁) :
  WalkO q loose XP YP l.row.toRowW d [] (fun f vs=>b1L f vs):=by
 intro w s₀ s₁ mg mb G Y fa o pm cd doc dV kV ho hd hcd hD hmg hg args vals as hpre hlay hrd hwl hlo
 obtain rfl:dV=.none:=Dflts.none hD hdf
 obtain rfl:kV=.none:=Dflts.noKw hD
 obtain⟨a,vs,ns,rfl,rfl,hobj,hints,hlen⟩:=b6z hn hpre hwl
 refine enter_call (a2M (call w s₀ s₁ mg mb fa o pm cd doc a vs ns G Y ho (fd_plain hd) hcd hmg hobj hints hlen hg) fun r s' hq=>?_)
 obtain⟨rfl,h2,h3,h4⟩:=hq
 exact⟨.inl ⟨.bool true,.bool true,[],rfl,fun _=>rfl,.bool true,b6J l _,fun _=>⟨b1T,fun _ hm=>(nomatch hm)⟩⟩,h2,h3,h4⟩
section
variable {prog:u4}{w:World}{A:F2}{E:Value->d4->Prop}{s:d4}{K:Frag}
end
end Att
namespace L2
open PySem PySem.Spec PyProof.Rows
theorem a6G:∀ {vs:List Value} {ns:List Int},c3v vs ns->E6 (ns.map V.int) vs
 | _,_,.nil=>.nil
 | _,_,.cons n t h=>.cons ⟨t,rfl⟩ (a6G h)
def c2G(H:Hp):Prop:=∀b,H b=none\/∃o xs,H b=some (.frz o (.lst xs))
theorem b9R{P:u4}{w:World}{K:Fg}{mg mb:Str->Option Value}{CX:CXT}{k:Nat}{fa a:Addr}{fd:Y1}{x:Str}{sp:Sp}{s₁:d4}{vs:List Value}{ns:List Int}
  (KX:K.In s₁.heap) (hns:s₁.heap.Ns o8 mg) (hb:s₁.heap.Ns builtinsNs mb) (hbb:∀x:Str,x ≠ "__name__" -> mb x=R4 x) (hlim:s₁.heap.NoLimit) (hg:s₁.gens = #[])
  (ha:s₁.heap.get? a=some { cls:=.type "list",data:=.seq vs.toArray }) (hi:c3v vs ns) (hl:ns.length<=i8) (hr:O9 k b8a)
  (F:∀base:Heap,K.In base->base.Ns o8 mg->K6 P w K mg base CX k fa fd [x] sp) (hbind:∀(s:d4) (u:Value),b8b s fd ⟨[u],[]⟩ [(x,u)])
  (hsp:∀H:Hp,c2G H->SqL K H a (ns.map V.int)->sp [.ref a] H (fun v _=>v=.bl true) fun _ _ _=>False)
  (hCX:∀H e s',CX [] H s₁ (fun _ _ _=>False) e s'->False) :
  a1r (model P w) b8a (.call (.ref fa) ⟨[.ref a],[]⟩) (fun r s'=>r=.ok (.ret (.bool true))/\OldK s₁.heap s'.heap/\s'.os=s₁.os/\b0E s'.gens) s₁:=by
 have rv:=a6G hi
 have lenV:=hi.length
 have core:∀H:Hp,c2G H->SqL K H a (ns.map V.int)->HOk P w H s₁.heap->(∀b,H b≠none->b=a)->(H a≠none->K.lookup a=none) ->
   a1r (model P w) b8a (.call (.ref fa) ⟨[.ref a],[]⟩) (fun r s'=>r=.ok (.ret (.bool true))/\OldK s₁.heap s'.heap/\s'.os=s₁.os/\b0E s'.gens) s₁:=by
  intro H hO hS hok hA hK
  have base_of:∀ {b:Addr} {o:Obj},s₁.heap.get? b=some o->H b=none->(b1t s₁.heap H).get? b=some o:=fun e n=>b9Z e n
  have noA:∀ {b:Addr} {o:Obj} {es:Array Y4} {ep:Nat},s₁.heap.get? b=some o->o.data=.dict es ep->H b=none:=fun {b o es ep} e d=>by
   cases q:H b with
   | none=>rfl
   | some u=>
    have e':b=a:=hA b (by rw[q];simp)
    subst e'
    rw[ha]at e;cases e
    have d':Data.seq vs.toArray _=Data.dict es ep:=d
    cases d'
  have nsK:∀ {b:Addr} {m:Str->Option Value},s₁.heap.Ns b m->(b1t s₁.heap H).Ns b m:=fun {b m} ⟨o,es,ep,e,d,r⟩=>⟨o,es,ep,base_of e (noA e d),d,r⟩
  have hKb:K.In (b1t s₁.heap H):=fun b o e=>base_of (KX b o e) (by
   cases q:H b with
   | none=>rfl
   | some u=>
    have e':b=a:=hA b (by rw[q];simp)
    subst e'
    rw[hK (by rw[q];simp)]at e;cases e)
  have hM:Mod K mg (b1t s₁.heap H):=⟨hKb,nsK hns,⟨mb,nsK hb,hbb⟩,let⟨mc,h1,h2⟩:=hlim; ⟨mc,nsK h1,h2⟩⟩
  have e0:b5h P w K mg (b1t s₁.heap H) b8a [] s₁ H:=⟨rfl,hM,fun b o e=>c2e e,b7K (b7j _ _),trivial,fun b hb=>absurd (show b∈([]:List Addr)from hb) (by simp),hok,.of_eq hg⟩
  refine a2M ((F _ hKb (nsK hns)).run b8a [] s₁ H ⟨[.ref a],[]⟩ [.ref a] [.ref a] _ _ hr e0 (hbind s₁ (.ref a)) (.cons rfl .nil) (hsp H hO hS)) fun r s' h=>?_
  cases r with
  | error e=>exact(hCX H e s' h).elim
  | ok fl=>
   cases fl with
   | next=>exact False.elim h
   | brk=>exact False.elim h
   | cont=>exact False.elim h
   | ret u=>
    obtain⟨v,H',os,bare,un,hok',r',q⟩:=h
    have q':v=.bl true:=q
    subst q'
    obtain rfl:u=Value.bool true:=r'
    refine⟨rfl,OldK.of_keep fun b o e=>?_,os,bare⟩
    cases q:H b with
    | none=>exact un.keep b o e q (by intro z;exact absurd (show b∈([]:List Addr)from z) (by simp)) (by simp)
    | some u=>
     rcases hO b with z | ⟨ob,xs,z⟩
     ·rw[q]at z;cases z
     ·have z2:=un.frzs b ob _ z
      obtain⟨e1,_⟩:=hok b _ z
      obtain⟨e2,_⟩:=hok' b _ z2
      rw[e]at e1;cases e1
      exact e2
 cases hk:K.lookup a with
 | some o=>
  have e:=KX a o hk
  rw[ha]at e
  cases e
  refine core (fun _=>none) (fun _=>.inl rfl) (.inr ⟨_,vs.toArray,_,hk,rfl,rfl,rfl,by rw[g7,lenV];exact hl,by simpa using rv⟩) (fun b u z=>by have z':(none:Option HO)=some u:=z;cases z') (fun b z=>absurd rfl z) fun z=>absurd rfl z
 | none=>
  refine core (fun b=>if b=a then some (.frz { cls:=.type "list",data:=.seq vs.toArray } (.lst (ns.map V.int)))else none) (fun b=>?_) (.inl (.inr ⟨{ cls:=.type "list",data:=.seq vs.toArray },if_pos rfl⟩)) (fun b u z=>?_) (fun b z=>?_) fun _=>hk
  ·by_cases hb:b=a
   ·exact .inr ⟨_,_,if_pos hb⟩
   ·exact .inl (if_neg hb)
  ·by_cases hb:b=a
   ·have z':=(if_pos hb).symm.trans z
    cases z'
    subst hb
    exact⟨ha,by rw[a9];exact hl,vs,_,rv,ha⟩
   ·have z':=(if_neg hb).symm.trans z
    cases z'
  ·by_cases hb:b=a
   ·exact hb
   ·exact absurd (if_neg hb) z
theorem c0S{l:PySem.W.OpenLaw}{n k:Nat}{q:u4}{loose:List Str}{XP:(Str->Option Value)->Heap->Prop}{YP:World->Heap->Prop}{d:DefRec}{K:Params->Fg}{CX:World->CXT}{sp:World->Sp}{x:Str}
  (hn:l.most=some n) (hn2:n<=i8) (hdf:d.params.defaults=[]) (hr:O9 k b8a)
  (hY:∀(w:World) (h:Heap),YP w h->(K w.params).In h)
  (F:∀(w:World) (mg:Str->Option Value) (fa:Addr) (h:Heap),(K w.params).In h->h.Ns o8 mg->mg d.name=some (.ref fa) ->
   ∃fd:Y1,(∀(s:d4) (u:Value),b8b s fd ⟨[u],[]⟩ [(x,u)]) /\
    ∀base:Heap,(K w.params).In base->base.Ns o8 mg->K6 l.prog w (K w.params) mg base (CX w) k fa fd [x] (sp w))
  (hsp:∀(w:World) (H:Hp) (a:Addr) (ns:List Int),ns.length<=n->c2G H->SqL (K w.params) H a (ns.map V.int)->sp w [.ref a] H (fun v _=>v=.bl true) fun _ _ _=>False)
  (hCX:∀(w:World) (H:Hp) (s:d4) (e:Value) (s':d4),CX w [] H s (fun _ _ _=>False) e s'->False) :
  PySem.W.WalkO q loose XP YP l.row.toRowW d [] (fun f vs=>b1L f vs):=by
 refine Att.b3x hn hdf fun w s₀ s₁ mg mb fa o pm cd doc a vs ns G Y ho hd hcd hmg hobj hints hlen hg=>?_
 have KX:=hY w _ Y
 obtain⟨fd,hb,hF⟩:=F w mg fa _ KX G.T.g hmg
 exact b9R KX G.T.g G.T.b G.T.builtins G.T.nolimit hg hobj hints (A1 hlen hn2) hr hF hb (fun H hO hS=>hsp w H a ns hlen hO hS) fun H e s'=>hCX w H s₁ e s'
abbrev CX0:CXT:=fun _ _ _ _ _ _=>False
abbrev E0:XK:=fun _ _ _=>False
theorem b5D{X:Cx}:a5J CX0 X E0:=fun _ _ _ _ _ _ _ h=>h.elim
structure Fun(K:Fg)(x qual:Str)(st:Stmt)(f:Addr)(fd:Y1):Prop where
 ex:∃(oc:Value) (od:Option Addr) (kV doc pm:Value) (an:Option Addr) (cdv ct:Value) (osl:Array (Option Value)),
  fd=a0c x qual (a2w st) (a0G st) (g8 st) .none kV doc pm an cdv ct/\K.lookup f=some ⟨oc,od,.func fd,osl⟩/\a4R K cdv qual=true
 kp:T0 K (.ref f)=true
section
variable {P:u4}{w:World}{K:Fg}{mg:Str->Option Value}{base:Heap}
theorem Fun.ok{x qual:Str}{st:Stmt}{f:Addr}{fd:Y1}{N ps:List Str}{k:Nat}{sp:Sp}(F:Fun K x qual st f fd)(S:z4 N ps (g8 st))(len:∀vs H Q E,sp vs H Q E->vs.length=ps.length)
  (hbody:∀(cdv:Value) (A:F2) (outer:List Env) (s:d4) (H:Hp) (vs:List V) (Q:VK) (E:XK),O9 k (A.deeper (b1U qual (g8 st) s.heap.objs.size f cdv))->sp vs H Q E ->
   ∃t,PSs (b3h CX0 P w K mg base N qual (g8 st) f cdv A outer s H E).nox (a0G st) t/\t { nx:=fun _ H'=>Q .non H',rt:=Q } (a6c N vs) H):K6 P w K mg base CX0 (k+1) f fd ps sp:=by
 obtain⟨oc,od,kV,doc,pm,an,cdv,ct,osl,rfl,lk,hcd⟩:=F.ex
 refine c6Y lk hcd S len fun A outer s H vs Q E hr hsp=>?_
 obtain⟨t,h,q⟩:=hbody cdv A outer s H vs Q E hr hsp
 exact⟨t,h.nox,q⟩
theorem Fun.binds{x qual:Str}{st:Stmt}{f:Addr}{fd:Y1}{ps:List Str}(F:Fun K x qual st f fd)
  (h:∀(kV doc pm:Value) (an:Option Addr) (cdv ct:Value) (us:List Value),us.length=ps.length->bindArgs (a0c x qual (a2w st) (a0G st) (g8 st) .none kV doc pm an cdv ct) ⟨us,[]⟩=pure (ps.zip us)):a3b K fd ps []:=by
 obtain⟨oc,od,kV,doc,pm,an,cdv,ct,osl,rfl,lk,hcd⟩:=F.ex
 exact .all (h kV doc pm an cdv ct)
theorem c5u{x qual:Str}{st:Stmt}{f:Addr}{oc:Value}{od an:Option Addr}{osl:Array (Option Value)}{kV doc pm cdv ct:Value}(l:K.lookup f=some ⟨oc,od,.func (a0c x qual (a2w st) (a0G st) (g8 st) .none kV doc pm an cdv ct),osl⟩)
  (c:a4R K cdv qual=true) (k:T0 K (.ref f)=true):Fun K x qual st f (a0c x qual (a2w st) (a0G st) (g8 st) .none kV doc pm an cdv ct):=⟨⟨oc,od,kV,doc,pm,an,cdv,ct,osl,rfl,l,c⟩,k⟩
end
theorem b3a{A:F2}{k:Nat}(hr:O9 k A):A.units+1<cLine:=Nat.lt_of_le_of_lt (Nat.add_le_add_left (by decide:1<=64) _) hr.units
section
variable {X:Cx}
end
theorem c5r{A B:Prop}(h:B):if false=true then A else B:=by
 rw[if_neg j5]
 exact h
theorem b2X{A B:Prop}(h:A):if true=true then A else B:=by
 rw[if_pos rfl]
 exact h
theorem a1n{c A B:Prop}[Decidable c](h1:c->A)(h2:¬c->B):if c then A else B:=by
 by_cases h:c
 ·rw[if_pos h]
  exact h1 h
 ·rw[if_neg h]
  exact h2 h
def o6(H H':Hp):Prop:=∀b o,H b=some o->H' b=some o
theorem o6.refl(H:Hp):o6 H H:=fun _ _ h=>h
theorem o6.trans{H H1 H2:Hp}(a:o6 H H1)(b:o6 H1 H2):o6 H H2:=fun c o h=>b c o (a c o h)
theorem o6.free{H H':Hp}(e:o6 H H'){l:Addr}(h:H' l=Option.none):H l=Option.none:=by
 cases q:H l with
 | none=>rfl
 | some o=>
  rw[e l o q]at h
  cases h
section
variable {κ:Type}[DecidableEq κ]
theorem c0T{kvs:List (κ×V)}{k:κ}{v:V}(h:a2C kvs k=some v):k∈kvs.map (·.1):=by
 have q:(kvs.any fun kv=>decide (kv.1=k))=true:=by
  rw[a2V,h]
  all_goals rfl
 obtain⟨p,hp,e⟩:=T1.mp q
 exact q9.mpr ⟨p,hp,of_decide_eq_true e⟩
end
end L2
set_option maxHeartbeats 4000000
namespace L2
open PySem PySem.Spec PyProof.Rows
variable{env:Env}{scope:Scope}{X:Cx}{w:World}{s:d4}{elt iter:Expr}{elts ifs:List Expr}{p pos tp:Pos}{pins:List (Addr×Obj)}{σ:St}{H:Hp}{cl:List (Str×Addr)}{fp:List Addr}{tt:TT}{te:TE}{xs:List V}{us:List Value}{u:Value}{j:Nat}{ps:List Str}{sp:Sp}
theorem b1x:∀(names:List (Str×a4X)) (cs:List (Str×Addr)),(∀y∈names,y.2=.free->∃c,env.cells.lookup y.1=some c) ->
  (∀y c,cs.lookup y=some c->env.cells.lookup y=some c) ->
  ∃cl,(forIn names cs (fun(x:Str×a4X) (r:List (Str×Addr))=>(if(x.2 == NameKind.free)=true then (do let c <-cellOf env x.1;pure (ForInStep.yield ((x.1,c)::r)))else pure (ForInStep.yield r):Sem (ForInStep (List (Str×Addr)))))=(pure cl:Sem (List (Str×Addr)))) /\
   (∀y c,cl.lookup y=some c->env.cells.lookup y=some c)/\(∀y,(y,NameKind.free)∈names\/(cs.lookup y).isSome=true->(cl.lookup y).isSome=true)
 | [],cs,_,h=>⟨cs,rfl,h,fun y q=>q.elim (fun z=>absurd z (by simp)) id⟩
 | (n,k)::r,cs,hc,h=>by
  by_cases e:(k == NameKind.free)=true
  ·have ek:k=.free:=by simpa using e
   obtain⟨c,hcc⟩:=hc (n,k) D4 ek
   have h':∀y d,((n,c)::cs).lookup y=some d->env.cells.lookup y=some d:=by
    intro y d q
    rw[E3]at q
    cases eq:y == n with
    | true=>
     rw[eq]at q
     have e2:y=n:=by simpa using eq
     cases q;rw[e2];exact hcc
    | false=>rw[eq]at q;exact h y d q
   obtain⟨cl,h1,h2,h3⟩:=b1x r ((n,c)::cs) (fun y hy=>hc y (D0 _ hy)) h'
   refine⟨cl,?_,h2,fun y q=>h3 y ?_⟩
   ·rw[c5M]
    show((if(k == NameKind.free)=true then (do let c <-cellOf env n;pure (ForInStep.yield ((n,c)::cs)))else pure (ForInStep.yield cs):Sem (ForInStep (List (Str×Addr)))) >>= _)=_
    rw[if_pos e]
    have ec:cellOf env n=pure c:=by unfold cellOf;rw[hcc]
    rw[ec]
    exact h1
   ·rcases q with q | q
    ·rcases d8.mp q with q | q
     ·cases q
      right
      simp[E3]
     ·exact .inl q
    ·right
     rw[E3]
     cases y == n
     ·exact q
     ·rfl
  ·obtain⟨cl,h1,h2,h3⟩:=b1x r cs (fun y hy=>hc y (D0 _ hy)) h
   refine⟨cl,?_,h2,fun y q=>h3 y ?_⟩
   ·rw[c5M]
    show((if(k == NameKind.free)=true then (do let c <-cellOf env n;pure (ForInStep.yield ((n,c)::cs)))else pure (ForInStep.yield cs):Sem (ForInStep (List (Str×Addr)))) >>= _)=_
    rw[if_neg e]
    exact h1
   ·rcases q with q | q
    ·rcases d8.mp q with q | q
     ·cases q
      exact absurd rfl e
     ·exact .inl q
    ·exact .inr q
theorem a5H(hc:∀y∈scope.names,y.2=.free->∃c,env.cells.lookup y.1=some c) :
  ∃cl,closureFor scope env=pure cl/\(∀y c,cl.lookup y=some c->env.cells.lookup y=some c)/\∀y,(y,NameKind.free)∈scope.names->(cl.lookup y).isSome=true:=by
 obtain⟨cl,h1,h2,h3⟩:=b1x scope.names [] hc (fun y c q=>by cases q)
 refine⟨cl,?_,h2,fun y q=>h3 y (.inl q)⟩
 unfold closureFor
 first
  | exact h1
  | (show(forIn scope.names [] _ >>= fun r=>pure r)=_;rw[h1];rfl)
theorem L3{env:Env}:∀ {names:List (Str×a4X)} {y:Str} {k:a4X},
  (names.map fun(n,k)=>if(k == NameKind.free&&env.scope.kind == .function&&env.kindOf n == some .cell)then (n,NameKind.cell)else (n,k)).lookup y=some k ->
  names.lookup y=some k\/(names.lookup y=some .free/\k=.cell)
 | [],_,_,h=>by cases h
 | (n,k0)::r,y,k,h=>by
  have ih := @L3 env r y k
  rw[F6]at h
  rw[E3]
  cases hx:y == n with
  | true=>
   by_cases hc:(k0 == NameKind.free&&env.scope.kind == .function&&env.kindOf n == some .cell)=true
   ·have e2:k0=.free:=by simp at hc;exact hc.1.1
    dsimp only at h
    rw[if_pos hc,E3,hx]at h
    cases h
    exact .inr ⟨by rw[e2],rfl⟩
   ·dsimp only at h
    rw[if_neg hc,E3,hx]at h
    exact .inl h
  | false=>
   by_cases hc:(k0 == NameKind.free&&env.scope.kind == .function&&env.kindOf n == some .cell)=true
   ·dsimp only at h
    rw[if_pos hc,E3,hx]at h
    exact ih h
   ·dsimp only at h
    rw[if_neg hc,E3,hx]at h
    exact ih h
def hid(x:Str)(N:List Str):List Str:=N.map fun y=>if y=x then ("." : Str)++x else y
def T6(X:Cx)(scope:Scope)(cl:List (Str×Addr))(C:Addr)(x:Str)(fp:List Addr)(s3:d4)(H3:Hp):Cx:=
 { X with N:=x::hid x X.N,s₀:=s3,H₀:=H3,env:=b7M scope cl C X.env,outer:=X.stack,stack:=X.stack,ex:=fp,fn:=fun _=>false,pn:=[],xe:=fun _ _=>False }
structure N9(N:List Str)(osc sc:Scope)(x:Str):Prop where
 kind:sc.kind=.function
 cell:∀y∈sc.names,y.2≠.cell
 names:∀y∈sc.names,y.2=.local->sc.names.lookup y.1=some .local
 own:sc.names.lookup x=some .local
 fr:∀y∈sc.names,y.2=.free->osc.names.lookup y.1=some .cell\/osc.names.lookup y.1=some .free
 see:∀y∈hid x N,sc.names.lookup y≠some .local
 dot:sc.names.lookup (("." : Str)++x)=none
 nd:(x::hid x N).Nodup
def V1(wi:TI)(tt:TT)(te:TE):TE:=fun σ H Q=>wi σ H fun J H1=>∀D,H1 D=none->∃W:Nat->Nat->List V->Hp->Prop,
 (∃m,W 0 m [] (upd H1 D (.lst [])))/\∀i m ys H2,W i m ys H2->H2 D=some (.lst ys) /\
  ((J.stop i H2 /\ Q (.ref D) H2) \/ (J.go i H2 /\ ∀ x H3,J.yld i H2 x H3 -> tt (some x :: σ) H3 fun ok H4 => if ok = true then
    te (some x::σ) H4 (fun y H5=>H5 D=some (.lst ys)/\ys.length<i8/\∃m',m'<m/\W (i+1) m' (ys++[y]) (upd H5 D (.lst (ys++[y]))))
    else ∃m',m'<m/\W (i+1) m' ys H4))
def PTs(X:Cx)(ifs:List Expr)(t:TT):Prop:=
 ∀(pins:List (Addr×Obj)) (s:d4) (σ:St) (H:Hp) (Q:Bool->Hp->Prop),Inv X pins σ H s->t σ H Q ->
  wpAny (model X.prog X.w) X.A (forIn ifs true fun c r=>if r=true then do let ok <-isTrue c X.env (eval c X.env);pure (ForInStep.yield ok)else pure (ForInStep.yield r)) (TP X pins σ Q) X.xe s
def V0:TT:=fun _ H Q=>Q true H
theorem c1p:PTs X [] V0:=fun _ _ _ H _ I h=>wpAny_tests_nil ⟨H,I,h⟩
theorem c1o{c:Expr}{t:TT}(h:PT X c t):PTs X [c] t:=fun pins s σ H Q I hq=>wpAny_tests_one (h pins s σ H Q I hq)
theorem b0q{prog:u4}{A:F2}{R:b1V->d4->Prop}{target:Expr}{it acc:Value}(I:Nat->d4->Prop)
  (turn:∀n s,I n s->wpAny (model prog w) A (a1j it) (fun r s₁=>match r with
   | none=>R (.ok .next) s₁
   | some v=>wpAny (model prog w) A (a3U target it v) (fun _ s₂=>wpAny (model prog w) A (a9S target env v) (fun _ s₃=>
     wpAny (model prog w) A (forIn ifs true fun c r=>if r=true then do let ok <-isTrue c env (eval c env);pure (ForInStep.yield ok)else pure (ForInStep.yield r)) (fun ok s₄=>
      if ok=true then wpAny (model prog w) A (eval elt env) (fun x s₅=>
       wpAny (model prog w) A (call (.builtin "list.append") [acc,x]) (fun _ s₆=>∃m,m<n/\I m s₆) (fun _ _=>False) s₅) (fun _ _=>False) s₄
      else ∃m,m<n/\I m s₄) (fun _ _=>False) s₃) (fun _ _=>False) s₂) (fun _ _=>False) s₁) (fun _ _=>False) s)
  (n:Nat) (h:I n s) :
  a1r (model prog w) A (.compLoop (.ListComp elt [⟨target,iter,ifs,0⟩] scope pos) 0 it acc env) R s:=by
 have up:∀ {α:Type} {m:Sem α} {Q:α->d4->Prop} {E:Value->d4->Prop} {s:d4},wpAny (model prog w) A m Q (fun _ _=>False) s->wpAny (model prog w) A m Q E s:=
  fun h=>V2 h (fun _ _ q=>q) fun _ _ f=>f.elim
 refine codeAny_loop rfl I (fun n s hI=>?_) n h
 refine wpAny_noted ?_
 rw[compTurn_list]
 refine a8 (c3s (a8 (up (thn (turn n s hI) fun r s₁ h₁=>?_))))
 cases r with
 | none=>exact b6 h₁
 | some v=>
  refine a8 (up (thn h₁ fun _ s₂ h₂=>a8 (up (thn h₂ fun _ s₃ h₃=>a8 (up (thn h₃ fun ok s₄ h₄=>?_))))))
  cases ok with
  | false=>exact b6 ⟨rfl,by simpa using h₄⟩
  | true=>
   rw[if_pos rfl]at h₄
   exact a8 (a8 (up (thn h₄ fun x s₅ h₅=>a8 (up (thn h₅ fun _ s₆ h₆=>b6 (b6 ⟨rfl,h₆⟩))))))
section
variable {x:Str}{px:Pos}
theorem c0m{s3:d4}{h4:Heap}{tk:Nat}(hc:N9 X.N X.env.scope scope x)(I:Inv X pins σ H s3)
  (hcl:∀y c,cl.lookup y=some c->X.env.cells.lookup y=some c) (hcl2:∀y,(y,NameKind.free)∈scope.names->(cl.lookup y).isSome=true)
  (fpo:∀b∈fp,a4P X pins H b) (fpl:∀b∈fp,b<s3.heap.objs.size)
  (hn:h4.Ns s3.heap.objs.size (fun _=>none)) (k:∀b o,s3.heap.get? b=some o->h4.get? b=some o) :
  Inv (T6 X scope cl s3.heap.objs.size x fp s3 H) [] (none::σ) H { s3 with heap:=h4,toks:=tk }:=by
 have low:∀x y,(T6 X scope cl s3.heap.objs.size x fp s3 H).env.cells.lookup y=cl.lookup y:=fun _ _=>rfl
 have below:∀y c,cl.lookup y=some c->c<s3.heap.objs.size:=fun y c e=>by
  obtain⟨v,q⟩:=I.cell y c (hcl y c e)
  exact q.lt
 have kinds:∀y,((T6 X scope cl s3.heap.objs.size x fp s3 H).env.kindOf y=some .cell\/(T6 X scope cl s3.heap.objs.size x fp s3 H).env.kindOf y=some .free)->scope.names.lookup y=some .free:=by
  intro y hy
  rcases hy with hy | hy
  ·rcases L3 hy with q | ⟨q,_⟩
   ·exact absurd rfl (hc.cell _ (y7 q))
   ·exact q
  ·rcases L3 hy with q | ⟨q,z⟩
   ·exact q
   ·cases z
 refine⟨⟨I.ok.mod,?_,I.ok.glob,I.ok.blt,d3 _,fun y z c h1 h2=>?_,fun y hy=>?_,fun y c h=>?_,I.ok.hd,I.ok.frames,.inl rfl,fun b hb=>⟨?_,fun y c e z=>?_⟩,fun b o e=>I.bs b o e,A1 I.ok.bsz I.sz,fun b o e hb=>?_,fun b hb hf=>?_,I.stack,I.stkFree⟩,
  rfl,I.bare,Un.kept k,⟨_,hn,fun i y v h1 h2 h3=>?_⟩,fun y c e=>?_,I.fresh,fun y c e=>?_,fun p hp=>absurd (show p∈([]:List (Addr×Obj))from hp) (by simp),I.hok.kept k,?_⟩
 ·exact hc.kind
 ·exact I.ok.inj y z c (hcl _ _ h1) (hcl _ _ h2)
 ·have:=hcl2 y (y7 (kinds y hy))
  exact V5.mp this
 ·cases h
 ·exact j8 (fpl b hb)
 ·exact(fpo b hb).2.2.2.2.1 y c (hcl y c e) z
 ·rcases(fpo b hb).2.2.2.1 with q | q
  ·exact I.ok.noex b o e q
  ·exact absurd (w4 (d6 (I.ok.bs b o e).1) q) (F7 _)
 ·rcases d8.mp (I.stkSub b hf)with e | e
  ·exact(fpo b hb).2.1 e
  ·exact(fpo b hb).2.2.1 e
 ·-- the names
  have h1:(x::hid x X.N)[i]? = some y:=h1
  cases i with
  | zero=>cases h2
  | succ i=>
   have h1:(hid x X.N)[i]? = some y:=h1
   have h2:σ[i]? = some (some v):=h2
   have my:y∈hid x X.N:=P4 h1
   have h3:(a6F scope X.env).names.lookup y=some .local\/(a6F scope X.env).names.lookup y=some .cell\/(a6F scope X.env).names.lookup y=some .free:=h3
   have hf:scope.names.lookup y=some .free:=by
    rcases h3 with q | q
    ·rcases L3 q with q | ⟨_,z⟩
     ·exact absurd q (hc.see y my)
     ·cases z
    ·exact kinds y q
   have hy:X.N[i]? = some y:=by
    unfold hid at h1
    rw[b7]at h1
    cases e:X.N[i]? with
    | none=>rw[e]at h1;cases h1
    | some z=>
     rw[e]at h1
     by_cases ez:z=x
     ·rw[a1G,if_pos ez]at h1
      have h1:=Option.some.inj h1
      subst h1
      rw[hc.dot]at hf
      cases hf
     ·rw[a1G,if_neg ez]at h1
      exact h1
   obtain⟨m,_,hl⟩:=I.loc
   obtain⟨c,hcc⟩:=V5.mp (hcl2 y (y7 hf))
   have vis:Vis X.env.scope y:=by
    rcases hc.fr _ (y7 hf) rfl with q | q
    ·exact .inr (.inl q)
    ·exact .inr (.inr q)
   obtain⟨u,ru,lk⟩:=hl i y v hy h2 vis
   refine⟨u,ru,.inr ⟨?_,c,hcc,?_⟩⟩
   ·rcases h3 with q | q
    ·rcases L3 q with q | ⟨_,z⟩
     ·exact absurd q (hc.see y my)
     ·cases z
    ·exact q
   ·have hce:=hcl y c hcc
    rcases lk with ⟨q,_⟩ | ⟨_,c',e',z⟩
    ·rcases hc.fr _ (y7 hf) rfl with q' | q'
     ·have q:X.env.scope.names.lookup y=some .local:=q
      rw[show X.env.scope.names.lookup y=some NameKind.cell from q']at q
      cases q
     ·have q:X.env.scope.names.lookup y=some .local:=q
      rw[show X.env.scope.names.lookup y=some NameKind.free from q']at q
      cases q
    ·rw[e']at hce
     cases hce
     obtain⟨o,ho,hd⟩:=z
     exact⟨o,k _ _ ho,hd⟩
 ·obtain⟨v,o,ho,hd⟩:=I.cell y c (hcl y c e)
  exact⟨v,o,k _ _ ho,hd⟩
 ·exact I.freeC y c (hcl y c e)
 ·show(none::σ).length=(x::hid x X.N).length
  have:=I.len
  simp[hid,this]
theorem a9a{H1:Hp}{s2:d4}{it:Addr}{tn:Nat->Heap->Prop}{J:It}{Q:VK}{E:Value->d4->Prop}
  {RR:Value->Addr->b1V->d4->Prop} (hc:N9 X.N X.env.scope scope x) (hcalm:X.calm=true)
  (hcl:∀y c,cl.lookup y=some c->X.env.cells.lookup y=some c) (hcl2:∀y,(y,NameKind.free)∈scope.names->(cl.lookup y).isSome=true)
  (ht:∀C fp s3 H3,PTs (T6 X scope cl C x fp s3 H3) ifs tt) (he:∀C fp s3 H3,PE (T6 X scope cl C x fp s3 H3) elt te)
  (I:Inv X pins σ H1 s2) (T:b1I X.prog X.w X.K (.Name x px) J fp it tn) (st:tn 0 s2.heap) (fpo:∀b∈fp,a4P X pins H1 b)
  (h:∀D,H1 D=none->∃W:Nat->Nat->List V->Hp->Prop,
   (∃m,W 0 m [] (upd H1 D (.lst [])))/\∀i m ys H2,W i m ys H2->H2 D=some (.lst ys) /\
   ((J.stop i H2 /\ Q (.ref D) H2) \/ (J.go i H2 /\ ∀ x H3,J.yld i H2 x H3 -> tt (some x :: σ) H3 fun ok H4 => if ok = true then
     te (some x::σ) H4 (fun y H5=>H5 D=some (.lst ys)/\ys.length<i8/\∃m',m'<m/\W (i+1) m' (ys++[y]) (upd H5 D (.lst (ys++[y]))))
     else ∃m',m'<m/\W (i+1) m' ys H4)))
  (hRR:∀D C s' H' m,Inv X pins σ H' s'->s'.heap.Ns C m->H' C=none->C≠X.env.locals->X.s₀.heap.objs.size<=C->(∀y c,X.env.cells.lookup y=some c->c≠C)->(∀p∈X.pn++pins,p.1≠C)->Q (.ref D) H'->RR (.ref D) C (.ok .next) s') :
  wpAny (model X.prog X.w) X.A (newList []) (fun acc s₃=>wpAny (model X.prog X.w) X.A (newFunctionEnv scope X.env.globals cl [] X.env.qual none .none (some X.env)) (fun cenv s₄=>
   a1r (model X.prog X.w) X.A (.compStart (.ListComp elt [⟨.Name x px,iter,ifs,0⟩] scope pos) 0 (.ref it) acc { cenv with scope:=a6F scope X.env }) (RR acc cenv.locals) s₄) E s₃) E s2:=by
 refine v0 (hd:=by size_fits) ?_
 have I3:=I.lnew (ys:=[]) (its:=[]) (t':=s2.toks) .nil (by show 0<=i8;exact E9 _)
 obtain⟨W,⟨m0,w0⟩,turn⟩:=h _ I.fresh
 generalize hD:s2.heap.objs.size=D at I3 w0 turn ⊢
 generalize hs3:({ s2 with heap:=s2.heap.push { cls:=.type "list",data:=.seq ([]:List Value).toArray } }:d4)=s3
 have hs3':({ s2 with heap:=s2.heap.push { cls:=.type "list",data:=.seq ([]:List Value).toArray },toks:=s2.toks }:d4)=s3:=hs3
 rw[hs3']at I3
 have keep3:∀b o,s2.heap.get? b=some o->s3.heap.get? b=some o:=fun b o e=>by rw[<-hs3];exact b8 _ e
 have fpl:∀b∈fp,b<s3.heap.objs.size:=fun b hb=>by
  obtain⟨o,e,_⟩:=T.obj _ _ st b hb
  exact d6 (keep3 b o e)
 have fpD:∀b∈fp,b≠D:=fun b hb z=>by
  obtain⟨o,e,_⟩:=T.obj _ _ st b hb
  exact absurd (d6 e) (by rw[z,hD];exact F7 _)
 have fpo3:∀b∈fp,a4P X pins (upd H1 D (.lst [])) b:=fun b hb=>⟨by rw[g6 (fpD b hb)];exact(fpo b hb).1,(fpo b hb).2⟩
 show wpAny _ _ _ _ _ s3
 refine c7l hc.cell (by intro y hy;simp at hy) (fun h₁ hns₁ hsb₁=>?_) hc.kind
 dsimp only[newEnv]at hns₁ hsb₁ ⊢
 have keep4:∀b o,s3.heap.get? b=some o->h₁.get? b=some o:=fun b o e=>hsb₁.extBut b o (j8 (d6 e)) (b8 _ e)
 have I4:=c0m (tk:=s3.toks+([]:List (Str×Value)).length) hc I3 hcl hcl2 fpo3 fpl hns₁ keep4
 have st4:tn 0 h₁:=T.keep _ _ _ st fun b hb o e=>keep4 b o (keep3 b o e)
 have loop:∀s₄:d4,s₄={ s3 with heap:=h₁,toks:=s3.toks+([]:List (Str×Value)).length } ->
   a1r (model X.prog X.w) X.A (.compLoop (.ListComp elt [⟨.Name x px,iter,ifs,0⟩] scope pos) 0 (.ref it) (.ref D) (b7M scope cl s3.heap.objs.size X.env)) (RR (.ref D) s3.heap.objs.size) s₄:=by
  rintro s₄ rfl
  have stat:∀ {H':Hp},(∀b∈fp,H' b=none)->∀b∈fp,a4P (T6 X scope cl s3.heap.objs.size x fp s3 (upd H1 D (.lst []))) [] H' b:=fun hn b hb=>
   ⟨hn b hb,j8 (fpl b hb),fun hf=>by
    rcases d8.mp (I3.stkSub b hf)with e | e
    ·exact(fpo b hb).2.1 e
    ·exact(fpo b hb).2.2.1 e,.inl hb,fun y c e=>(fpo b hb).2.2.2.2.1 y c (hcl y c e),fun p hp=>absurd (show p∈([]:List (Addr×Obj))from hp) (by simp)⟩
  refine b0q (env:=b7M scope cl s3.heap.objs.size X.env) (fun n s'=>∃i ys H',Inv (T6 X scope cl s3.heap.objs.size x fp s3 (upd H1 D (.lst []))) [] (none::σ) H' s'/\tn i s'.heap/\(∀b∈fp,H' b=none)/\W i n ys H') ?_ m0
   ⟨0,[],_,I4,st4,fun b hb=>(fpo3 b hb).1,w0⟩
  rintro n s5 ⟨i,ys,H5,I5,st5,fr5,w5⟩
  obtain⟨hDy,alt⟩:=turn i n ys H5 w5
  rcases alt with ⟨stop,q⟩ | ⟨go,step⟩
  ·refine V2 (T.done (T6 X scope cl s3.heap.objs.size x fp s3 (upd H1 D (.lst []))) rfl rfl rfl hcalm i [] s5 _ H5 (fun _ _=>False) I5 (stat fr5) st5 stop) (fun r s6 ⟨hr,I6⟩=>?_) fun _ _ f=>f
   subst hr
   obtain⟨m6,n6,_⟩:=I6.loc
   have J6:Inv X pins σ H5 s6:=by
    refine I3.call' (ch:=fp) I6.os I6.base I6.hok I6.bare fun b hb=>?_
    obtain⟨_,f1,f2,f3,f4,f5⟩:=fpo3 b hb
    exact⟨f3,f1,f4,f5⟩
   refine hRR D _ s6 H5 m6 J6 n6 I6.free (a9q I3.lt) I3.sz (fun y c e z=>?_) (fun p hp z=>?_) q
   ·obtain⟨v,q⟩:=I3.cell y c e
    exact absurd q.lt (by rw[z];exact F7 _)
   ·exact absurd (d6 (I3.pin p hp).1) (by rw[z];exact F7 _)
  ·refine V2 (T.item (T6 X scope cl s3.heap.objs.size x fp s3 (upd H1 D (.lst []))) rfl rfl rfl hcalm i [] s5 _ H5 (fun _ _=>False) I5 (stat fr5) st5 go) (fun r s6 ⟨u,hr,h6⟩=>?_) fun _ _ f=>f
   subst hr
   refine thn h6 fun _ s6 ⟨xv,H6,I6,r6,y6,st6,fr6⟩=>?_
   have I6':=I6.pinned (stat fr6) (T.obj _ _ st6)
   refine b3L (a6b (i:=0) I6' ?nd rfl (.inl ?loc) r6 (fun s7 I7=>?_) (.inr ?loc))
   case nd=>exact hc.nd
   case loc=>exact a0S hc.own
   have I7:Inv (T6 X scope cl s3.heap.objs.size x fp s3 (upd H1 D (.lst []))) ([]++a5v fp s6.heap) (some xv::σ) H6 s7:=I7
   have again:∀ {s8:d4} {H8:Hp} {ys8:List V},Inv (T6 X scope cl s3.heap.objs.size x fp s3 (upd H1 D (.lst []))) ([]++a5v fp s6.heap) (some xv::σ) H8 s8->(∃m',m'<n/\W (i+1) m' ys8 H8) ->
     ∃m,m<n/\∃i ys H',Inv (T6 X scope cl s3.heap.objs.size x fp s3 (upd H1 D (.lst []))) [] (none::σ) H' s8/\tn i s8.heap/\(∀b∈fp,H' b=none)/\W i m ys H':=by
    rintro s8 H8 ys8 I8 ⟨m',hm,w8⟩
    refine⟨m',hm,i+1,ys8,H8,(I8.unpinned (pins:=[])).weak rfl (fun j v e=>?_),T.keep _ _ _ st6 fun b hb o e=>(I8.pin (b,o) (o7 _ (o7 _ (a0U hb e)))).1,fun b hb=>?_,w8⟩
    ·cases j with
     | zero=>cases e
     | succ j=>exact e
    ·obtain⟨o,e,d⟩:=T.obj _ _ st6 b hb
     exact(I8.pin (b,o) (o7 _ (o7 _ (a0U hb e)))).2.1
   refine thn (ht _ fp s3 _ _ s7 _ H6 _ I7 (step xv H6 y6)) (fun ok s8 ⟨H8,I8,q8⟩=>?_)
   cases ok with
   | false=>exact again I8 (by simpa using q8)
   | true=>
    rw[if_pos rfl]at q8
    rw[if_pos rfl]
    refine thn (he _ fp s3 _ _ s8 _ H8 _ I8 q8) (fun v s9 ⟨y,H9,I9,r9,hD9,hz9,w9⟩=>?_)
    refine V2 (a6W (X:=T6 X scope cl s3.heap.objs.size x fp s3 (upd H1 D (.lst []))) _ s9 _ H9 (.ref D) [y] (.ref D) [v] (fun _ H'=>H'=upd H9 D (.lst (ys++[y]))) I9 rfl (.cons r9 .nil) ⟨D,ys,y,rfl,rfl,hD9,hz9,rfl⟩) (fun _ s10 ⟨_,H10,I10,_,e10⟩=>?_) fun _ _ f=>f
    subst e10
    exact again I10 w9
 exact c5R (loop _ rfl) (T.self X.A 0 _ _ _ st4 (loop _ rfl))
theorem a8Z(hc:N9 X.N X.env.scope scope x)(I:Inv X pins σ H s):∀y∈scope.names,y.2=.free->∃c,X.env.cells.lookup y.1=some c:=by
 intro y hy e
 rcases hc.fr y hy e with q | q
 ·exact I.ok.has y.1 (.inl q)
 ·exact I.ok.has y.1 (.inr q)
theorem c1I{wi:TI}(hc:N9 X.N X.env.scope scope x)(hcalm:X.calm=true)(hi:PI X (.Name x px) iter wi)
  (ht:∀cl C fp s3 H3,PTs (T6 X scope cl C x fp s3 H3) ifs tt) (he:∀cl C fp s3 H3,PE (T6 X scope cl C x fp s3 H3) elt te)
  (hs:∀x,M5 iter X.env x=pure x:=by intro _;rfl) :
  PE X (.ListComp elt [⟨.Name x px,iter,ifs,0⟩] scope pos) (V1 wi tt te):=by
 intro pins s σ H Q I h
 obtain⟨cl,hclos,hcl,hcl2⟩:=a5H (a8Z hc I)
 rw[eval_ListComp]
 refine a5P (use:=none) rfl hs hclos hc.kind hc.names (thn (hi pins s σ H _ I h) fun v s1 h1=>thn h1 fun itv s2 ⟨it,fp,tn,J,H2,e,I2,T,st,fpo,R⟩=>?_)
 subst e
 refine a9a (RR:=fun acc C=>compPost (model X.prog X.w) X.A X.xe none (EP X pins σ Q) acc C) (Q:=Q) hc hcalm hcl hcl2 (ht cl) (he cl) I2 T st fpo R ?_
 intro D C s' H' m I' n f1 f2 f3 f4 f5 q
 exact⟨m,n,fun h' sb=>⟨.ref D,H',I'.turned (t':=s'.toks) (fun b o hb e=>(sb.2 b hb).trans e) f1 f2 (.inr f3) f4 f5,rfl,q⟩⟩
theorem b4v{wi:TI}{i:Nat}{y:Str}{py spos:Pos}(hN:X.N.Nodup)(hiy:X.N[i]? = some y)(hy:X.env.scope.names.lookup y=some .local)(hc:N9 X.N X.env.scope scope x)(hcalm:X.calm=true)(hi:PI X (.Name x px) iter wi)
  (ht:∀cl C fp s3 H3,PTs (T6 X scope cl C x fp s3 H3) ifs tt) (he:∀cl C fp s3 H3,PE (T6 X scope cl C x fp s3 H3) elt te)
  (hsw:a1J (.ListComp elt [⟨.Name x px,iter,ifs,0⟩] scope pos) (some (.Name y py)) spos.line X.env=pure true:=by rfl)
  (hs:∀x,M5 iter X.env x=pure x:=by intro _;rfl) :
  PS X (.Assign [.Name y py] (.ListComp elt [⟨.Name x px,iter,ifs,0⟩] scope pos) spos) (fun D σ H=>V1 wi tt te σ H fun v H1=>D.nx (σ.set i (some v)) H1):=by
 intro pins s σ H D I h
 obtain⟨cl,hclos,hcl,hcl2⟩:=a5H (a8Z hc I)
 rw[exec_Assign_Name_used _ _ _ _ hsw]
 refine a8 (c3s (a8 ?_))
 show wpAny _ X.A (do let _ <-comprehension (.ListComp elt [⟨.Name x px,iter,ifs,0⟩] scope pos) scope X.env _ (newList []) false (eval iter X.env) (some (a9S (.Name y py) X.env))) _ _ s
 refine a8 (V2 (a5P (use:=some (a9S (.Name y py) X.env)) (Q:=fun _ s'=>SP X pins D .next s') rfl hs hclos hc.kind hc.names
  (thn (hi pins s σ H _ I h) fun v s1 h1=>thn h1 fun itv s2 ⟨it,fp,tn,J,H2,e,I2,T,st,fpo,R⟩=>?_)) (fun _ s' hq=>b6 (b6 hq)) fun _ _ e=>e)
 subst e
 refine a9a (RR:=fun acc C=>compPost (model X.prog X.w) X.A X.xe (some (a9S (.Name y py) X.env)) (fun _ s'=>SP X pins D .next s') acc C) (Q:=fun v H1=>D.nx (σ.set i (some v)) H1) hc hcalm hcl hcl2 (ht cl) (he cl) I2 T st fpo R ?_
 intro E C s' H' m I' n f1 f2 f3 f4 f5 q
 show wpAny _ _ (a9S (.Name y py) X.env (.ref E)) _ _ _
 refine b3L (b0b (v:=.ref E) I' hN hiy (.inl hy) rfl (fun s'' I'' ch=>?_) (.inr hy))
 obtain⟨a,sb,ha⟩:=ch
 have hCa:C≠a:=by
  rcases ha with e | e
  ·rw[e];exact f2
  ·exact fun z=>f4 y a e z.symm
 exact⟨m,n.sameBut sb hCa,fun h' sb'=>⟨_,_,I''.turned (t':=s''.toks) (fun b o hb e=>(sb'.2 b hb).trans e) f1 f2 (.inr f3) f4 f5,q⟩⟩
end
section
theorem OpR.imp{f:Value->Value->Sem Value}{r r':R2}(h:OpR X f r)(i:∀x y H Q,r' x y H Q->r x y H Q):OpR X f r':=fun pins s σ H x y u v Q I rx ry q=>h pins s σ H x y u v Q I rx ry (i _ _ _ _ q)
theorem R8.imp{f:Value}{r r':List V->Hp->VK->Prop}(h:R8 X f r)(i:∀xs H Q,r' xs H Q->r xs H Q):R8 X f r':=fun pins s σ H xs us Q I rx q=>h pins s σ H xs us Q I rx (i _ _ _ q)
theorem IxR.imp{r r':R2}(h:IxR X r)(i:∀x y H Q,r' x y H Q->r x y H Q):IxR X r':=by
 intro value slice pins s σ H x y v u Q I rx ry q hs
 exact h value slice pins s σ H x y v u Q I rx ry (i _ _ _ _ q) hs
theorem SlR.imp{r r':V->Option Int->Option Int->Hp->VK->Prop}(h:SlR X r)(i:∀x lo hi H Q,r' x lo hi H Q->r x lo hi H Q):SlR X r':=fun pins s σ H x v vl vu lo hi sl Q I rx hs pl pu q=>h pins s σ H x v vl vu lo hi sl Q I rx hs pl pu (i _ _ _ _ _ q)
def a0R:R2:=fun x y H Q=>match x,y with
 | .int i,.int j=>Q (.int (i+j)) H
 | .str i,.str j=>i.length+j.length<=i8/\Q (.str (i++j)) H
 | .ref a,.ref b=>match H a,H b with
  | some (.lst xs),some (.lst ys)=>xs.length+ys.length<=i8/\∀p,H p=none->Q (.ref p) (upd H p (.lst (xs++ys)))
  | _,_=>False
 | _,_=>False
theorem c1U:OpR X (Y0 .Add) a0R:=by
 refine(c4U.or (b4E.or c4T)).imp fun x y H Q h=>?_
 unfold a0R at h
 split at h
 ·exact .inl ⟨_,_,rfl,rfl,h⟩
 ·exact .inr (.inl ⟨_,_,rfl,rfl,h.1,h.2⟩)
 ·split at h
  ·exact .inr (.inr ⟨_,_,_,_,rfl,rfl,by assumption,by assumption,h.1,h.2⟩)
  ·exact h.elim
 ·exact h.elim
def q2I(C:Int->Int->Prop)(g:Int->Int->V):R2:=fun x y H Q=>match x,y with
 | .int i,.int j=>C i j/\Q (g i j) H
 | _,_=>False
def b2D(g:Int->Int->V):R2:=fun x y H Q=>match x,y with
 | .int i,.int j=>Q (g i j) H
 | _,_=>False
theorem b4u{f:Value->Value->Sem Value}{C:Int->Int->Prop}{g:Int->Int->V}(h:OpR X f (rI C g)):OpR X f (q2I C g):=h.imp fun x y H Q q=>by
 unfold q2I at q
 split at q
 ·exact⟨_,_,rfl,rfl,q.1,q.2⟩
 ·exact q.elim
theorem a6m{f:Value->Value->Sem Value}{g:Int->Int->V}(h:OpR X f (rI0 g)):OpR X f (b2D g):=h.imp fun x y H Q q=>by
 unfold b2D at q
 split at q
 ·exact⟨_,_,rfl,rfl,q⟩
 ·exact q.elim
abbrev b6G:R2:=b2D fun i j=>.int (i - j)
abbrev b4p:R2:=q2I c2K fun i j=>.int (i * j)
abbrev a9G:R2:=q2I (fun _ j=>0<j) fun i j=>.int (i % j)
abbrev c1k:R2:=q2I (fun _ j=>0<j/\j<2 ^ 64) fun i j=>.int (i / j)
abbrev qLt:R2:=b2D fun i j=>.bl (decide (i<j))
abbrev qLe:R2:=b2D fun i j=>.bl (decide (i<=j))
abbrev qGt:R2:=b2D fun i j=>.bl (decide (j<i))
abbrev qGe:R2:=b2D fun i j=>.bl (decide (j<=i))
theorem c1N:OpR X (Y0 .Sub) b6G:=a6m c4I
theorem c1P:OpR X (Y0 .Mult) b4p:=b4u c4Q
theorem c1Q:OpR X (Y0 .Mod) a9G:=b4u c4R
theorem c1T:OpR X (Y0 .FloorDiv) c1k:=b4u (opI fun i j _ _ _ _ _ hc q=>by
 have hl:j.natAbs.log2<9000:=by
  have:j.natAbs<2 ^ 64:=by have:=hc.1;have:=hc.2;omega
  by_cases h0:j.natAbs=0
  ·rw[h0];decide +kernel
  ·exact b7I ((Nat.log2_lt h0).mpr this) (by decide)
 refine floordiv_int (by omega) ?_ (.inl (PyProof.noPylong_of_log2 hl))
 rw[Int.fdiv_eq_ediv_of_nonneg _ (by omega)]
 exact q)
theorem c4K:OpR X (o9 .Lt) qLt:=a6m c6N
theorem c4L:OpR X (o9 .LtE) qLe:=a6m c6O
theorem c4N:OpR X (o9 .Gt) qGt:=a6m c6P
theorem c4O:OpR X (o9 .GtE) qGe:=a6m c6Q
def qIx:R2:=fun x y H Q=>match x,y with
 | .ref p,.int i=>match H p with
  | some (.lst xs)=>∃v,atI xs i=some v/\Q v H
  | some (.tup xs)=>∃v,atI xs i=some v/\Q v H
  | _=>False
 | .str z,.int i=>z.length<=i8/\∃c,atI z.cps.toList i=some c/\Q (.str ⟨#[c]⟩) H
 | _,_=>False
theorem c7E:IxR X qIx:=c5q.imp fun x y H Q h=>by
 unfold qIx at h
 split at h
 ·split at h
  ·obtain⟨v,e,q⟩:=h
   exact .inl ⟨_,_,_,v,rfl,rfl,SqL.of (by assumption),e,q⟩
  ·obtain⟨v,e,q⟩:=h
   exact .inr (.inl ⟨_,_,_,v,rfl,rfl,SqT.of (by assumption),e,q⟩)
  ·exact h.elim
 ·obtain⟨z,c,e,q⟩:=h
  exact .inr (.inr ⟨_,_,c,rfl,rfl,z,e,q⟩)
 ·exact h.elim
def qSl:V->Option Int->Option Int->Hp->VK->Prop:=fun x lo hi H Q=>match x with
 | .ref a=>match H a with
  | some (.lst xs)=>∀p,H p=none->Q (.ref p) (upd H p (.lst (a4N xs lo hi)))
  | some (.tup xs)=>¬(HT.sIx xs.length 0 lo=0/\HT.sIx xs.length xs.length hi=xs.length)/\∀p,H p=none->Q (.ref p) (upd H p (.tup (a4N xs lo hi)))
  | _=>False
 | _=>False
theorem c7q:SlR X qSl:=(b5p.or c3C).imp fun x lo hi H Q h=>by
 unfold qSl at h
 split at h
 ·split at h
  ·exact .inl ⟨_,_,rfl,SqL.of (by assumption),h⟩
  ·exact .inr ⟨_,_,rfl,SqT.of (by assumption),h.1,h.2⟩
  ·exact h.elim
 ·exact h.elim
def W6:List V->Hp->VK->Prop:=fun xs H Q=>match xs with
 | [.ref p]=>match H p with
  | some (.lst ys)=>Q (.int ys.length) H
  | some (.tup ys)=>Q (.int ys.length) H
  | _=>False
 | [.str z]=>z.length<=i8/\Q (.int z.length) H
 | _=>False
theorem b7y:R8 X (.builtin "len") W6:=(b1D.or b1C).imp fun xs H Q h=>by
 unfold W6 at h
 split at h
 ·split at h
  ·exact .inl ⟨_,_,rfl,.inl (SqL.of (by assumption)),h⟩
  ·exact .inl ⟨_,_,rfl,.inr (SqT.of (by assumption)),h⟩
  ·exact h.elim
 ·exact .inr ⟨_,rfl,h.1,h.2⟩
 ·exact h.elim
def b9e:List V->Hp->VK->Prop:=fun xs H Q=>match xs with
 | [.int i]=>Q (.int (if i<0 then -i else i)) H
 | _=>False
theorem b7C:R8 X (.builtin "abs") b9e:=c0o.imp fun xs H Q h=>by
 unfold b9e at h
 split at h
 ·exact⟨_,rfl,h⟩
 ·exact h.elim
def b1b:V->V->V->Hp->(Hp->Prop)->Prop:=fun o i v H Q=>match o,i with
 | .ref p,.int k=>match H p with
  | some (.lst xs)=>∃j,ixN xs.length k=some j/\Q (upd H p (.lst (xs.set j v)))
  | _=>False
 | _,_=>False
theorem c6a:c0s X b1b:=by
 intro pins s σ H o i v u1 u2 u3 Q I r1 r2 r3 h
 refine b8J pins s σ H o i v u1 u2 u3 Q I r1 r2 r3 ?_
 unfold b1b at h
 split at h
 ·split at h
  ·obtain⟨j,e,q⟩:=h
   exact⟨_,_,_,j,rfl,rfl,by assumption,e,q⟩
  ·exact h.elim
 ·exact h.elim
def Q3(xs ys:List V):Bool:=(z5 (min xs.length ys.length)).all (fun j=>eqV (xs.getD j .non) (ys.getD j .non))&&xs.length == ys.length
def eqO(x y:V)(H:Hp):Option Bool:=if b2u x y=true then some (decide (x=y))else match x,y with
 | .ref a,.ref b=>match H a,H b with
  | some (.tup xs),some (.tup ys)=>if xs.all L9=true/\ys.all L9=true then some (Q3 xs ys)else none
  | some (.lst xs),some (.lst ys)=>if xs.all L9=true/\ys.all L9=true then some (Q3 xs ys)else none
  | _,_=>none
 | .non,.ref a=>match H a with
  | some (.tup _)=>some false
  | _=>none
 | .ref a,.non=>match H a with
  | some (.tup _)=>some false
  | _=>none
 | _,_=>none
def qEq:R2:=fun x y H Q=>∃b,eqO x y H=some b/\Q (.bl b) H
def qNe:R2:=fun x y H Q=>∃b,eqO x y H=some b/\Q (.bl (!b)) H
theorem a4I{A:F2}{ys:List V}{ws:List Value}(rx:E6 xs us)(ry:E6 ys ws)(fx:xs.all L9=true)(fy:ys.all L9=true) :
  ∀j (h1:j<us.toArray.size) (h2:j<ws.toArray.size),SeqAt.EqAt A s us.toArray[j] ws.toArray[j] (eqV (xs.getD j .non) (ys.getD j .non)):=by
 intro j h1 h2
 have l1:=rx.length
 have l2:=ry.length
 have h1':j<us.length:=by simpa using h1
 have h2':j<ws.length:=by simpa using h2
 have e1:xs[j]? = some (xs[j]'(by omega)):=by simp
 have e2:ys[j]? = some (ys[j]'(by omega)):=by simp
 obtain⟨u,hu,ru⟩:=rx.get e1
 obtain⟨w,hw,rw'⟩:=ry.get e2
 have z1:us.toArray[j]=u:=by
  have:us[j]? = some us[j]:=by simp
  rw[this]at hu
  simpa using hu
 have z2:ws.toArray[j]=w:=by
  have:ws[j]? = some ws[j]:=by simp
  rw[this]at hw
  simpa using hw
 rw[z1,z2]
 have g1:xs.getD j .non=xs[j]'(by omega):=by simp[M9,e1]
 have g2:ys.getD j .non=ys[j]'(by omega):=by simp[M9,e2]
 rw[g1,g2]
 exact b4Y ru rw' (E4.mp fx _ (y9 _)) (E4.mp fy _ (y9 _))
theorem c3g{x y:V}{v:Value}{k:Bool}(I:Inv X pins σ H s)(hu:X.A.units<cLine)(rx:C7 x v)(ry:C7 y u)(hs:¬b2u x y=true)(e:eqO x y H=some k) :
  SeqAt.RcAt X.A s v u k/\SeqAt.RcNeAt X.A s v u (!k):=by
 unfold eqO at e
 rw[if_neg hs]at e
 split at e
 ·rename_i a b
  cases rx
  cases ry
  split at e
  ·rename_i xs ys ha hb
   split at e
   ·rename_i hf
    cases e
    obtain⟨us,r1,t1,_⟩:=I.tuple (SqT.of ha)
    obtain⟨ws,r2,t2,_⟩:=I.tuple (SqT.of hb)
    have l1:=r1.length
    have l2:=r2.length
    have q1:=SeqAt.RcAt.tuples (A:=X.A) t1 t2 hu (a4I r1 r2 hf.1 hf.2)
    have q2:=SeqAt.RcNeAt.tuples (A:=X.A) t1 t2 hu (a4I r1 r2 hf.1 hf.2)
    simp only[g7,<-l1,<-l2]at q1 q2
    exact⟨q1,q2⟩
   ·cases e
  ·rename_i xs ys ha hb
   split at e
   ·rename_i hf
    cases e
    obtain⟨us,r1,t1,_⟩:=I.list (SqL.of ha)
    obtain⟨ws,r2,t2,_⟩:=I.list (SqL.of hb)
    have l1:=r1.length
    have l2:=r2.length
    by_cases hl:us.toArray.size=ws.toArray.size
    ·have q1:=SeqAt.RcAt.lists (A:=X.A) t1.isList t2.isList hl hu (a4I r1 r2 hf.1 hf.2)
     have q2:=SeqAt.RcNeAt.lists (A:=X.A) t1.isList t2.isList hl hu (a4I r1 r2 hf.1 hf.2)
     have hl':xs.length=ys.length:=by simpa[<-l1,<-l2]using hl
     have ef:Q3 xs ys=(z5 us.toArray.size).all fun j=>eqV (xs.getD j .non) (ys.getD j .non):=by
      unfold Q3
      rw[hl',a9r,g7,<-l1,hl']
      simp
     rw[ef]
     exact⟨q1,q2⟩
    ·have hl2:(us.toArray.size != ws.toArray.size)=true:=by simpa using hl
     have q1:=SeqAt.RcAt.lists_lengths (A:=X.A) t1.isList t2.isList hl2 hu
     have q2:=SeqAt.RcNeAt.lists_lengths (A:=X.A) t1.isList t2.isList hl2 hu
     have ef:Q3 xs ys=false:=by
      unfold Q3
      have:¬xs.length=ys.length:=by simpa[<-l1,<-l2]using hl
      simp[this]
     rw[ef]
     exact⟨q1,q2⟩
   ·cases e
  ·cases e
 ·cases rx
  cases ry
  split at e
  ·cases e
   obtain⟨us,_,t1,_⟩:=I.tuple (SqT.of (by assumption))
   exact⟨SeqAt.RcAt.none_tuple t1 hu,SeqAt.RcNeAt.none_tuple t1 hu⟩
  ·cases e
 ·cases rx
  cases ry
  split at e
  ·cases e
   obtain⟨us,_,t1,_⟩:=I.tuple (SqT.of (by assumption))
   exact⟨SeqAt.RcAt.tuple_none t1 hu,SeqAt.RcNeAt.tuple_none t1 hu⟩
  ·cases e
 ·cases e
theorem c4P(hu:X.A.units<cLine):OpR X (o9 .Eq) qEq:=by
 intro pins s σ H x y v u Q I rx ry h
 obtain⟨k,e,q⟩:=h
 by_cases hs:b2u x y=true
 ·unfold eqO at e
  rw[if_pos hs]at e
  cases e
  exact c6R pins s σ H x y v u Q I rx ry ⟨hs,q⟩
 ·exact(c3g I hu rx ry hs e).1 _ _ _ _ ⟨.bl k,H,I,rfl,q⟩
theorem c4J(hu:X.A.units<cLine):OpR X (o9 .NotEq) qNe:=by
 intro pins s σ H x y v u Q I rx ry h
 obtain⟨k,e,q⟩:=h
 by_cases hs:b2u x y=true
 ·unfold eqO at e
  rw[if_pos hs]at e
  cases e
  exact c6M pins s σ H x y v u Q I rx ry ⟨hs,q⟩
 ·exact(c3g I hu rx ry hs e).2 _ _ _ _ ⟨.bl (!k),H,I,rfl,q⟩
def qIn(neg:Bool):R2:=fun x y H Q=>match x,y with
 | .str i,.str j=>Q (.bl (if neg then !(!(Builtin.Str.occurrences j i 0 j.length 1).isEmpty)else !(Builtin.Str.occurrences j i 0 j.length 1).isEmpty)) H
 | x,.ref p=>match H p with
  | some (.lst xs)=>L9 x=true/\xs.all L9=true/\Q (.bl (if neg then !inV x xs else inV x xs)) H
  | some (.tup xs)=>L9 x=true/\xs.all L9=true/\Q (.bl (if neg then !inV x xs else inV x xs)) H
  | _=>False
 | _,_=>False
theorem c4M:OpR X (o9 .In) (qIn false):=(b6R.or b0j).imp fun x y H Q h=>by
 unfold qIn at h
 split at h
 ·exact .inl ⟨_,_,rfl,rfl,h⟩
 ·split at h
  ·exact .inr ⟨_,_,rfl,.inl (SqL.of (by assumption)),h.1,h.2.1,h.2.2⟩
  ·exact .inr ⟨_,_,rfl,.inr (SqT.of (by assumption)),h.1,h.2.1,h.2.2⟩
  ·exact h.elim
 ·exact h.elim
theorem b6P:OpR X (o9 .NotIn) (qIn true):=(b1h.or b1i).imp fun x y H Q h=>by
 unfold qIn at h
 split at h
 ·exact .inl ⟨_,_,rfl,rfl,h⟩
 ·split at h
  ·exact .inr ⟨_,_,rfl,.inl (SqL.of (by assumption)),h.1,h.2.1,h.2.2⟩
  ·exact .inr ⟨_,_,rfl,.inr (SqT.of (by assumption)),h.1,h.2.1,h.2.2⟩
  ·exact h.elim
 ·exact h.elim
def Z5:V->List V->Hp->VK->Prop:=fun x vs H Q=>match x,vs with
 | .ref l,[y]=>match H l with
  | some (.lst xs)=>xs.length<i8/\Q .non (upd H l (.lst (xs++[y])))
  | _=>False
 | _,_=>False
theorem b4L:MtR X "list.append" Z5:=fun pins s σ H x xs v us Q I rx rv h=>by
 refine a6W pins s σ H x xs v us Q I rx rv ?_
 unfold Z5 at h
 split at h
 ·split at h
  ·exact⟨_,_,_,rfl,rfl,by assumption,h.1,h.2⟩
  ·exact h.elim
 ·exact h.elim
def a4b:List V->Option (List Str)
 | []=>some []
 | .str s::r=>(a4b r).map (s :: ·)
 | _=>none
theorem a5n(ss:List Str):a4b (ss.map V.str)=some ss:=by
 induction ss with
 | nil=>rfl
 | cons s r ih=>simp[a4b,ih]
theorem a3g:∀ {xs:List V} {us:List Value} {ss:List Str},E6 xs us->a4b xs=some ss->StrsAre us ss
 | _,_,ss,.nil,e=>by cases e;exact .nil
 | x::xs,_,ss,.cons r t,e=>by
  cases x with
  | str s=>
   obtain⟨k,rfl⟩:=r
   cases e2:a4b xs with
   | none=>simp[a4b,e2]at e
   | some ss2=>
    simp[a4b,e2]at e
    subst e
    exact .cons _ _ (a3g t e2)
  | _=>simp[a4b]at e
def a2D(x:V)(H:Hp):Option String:=match x with
 | .non=>some "NoneType"
 | .bl _=>some "bool"
 | .int _=>some "int"
 | .str _=>some "str"
 | .ref a=>match H a with
  | some (.lst _)=>some "list"
  | some (.tup _)=>some "tuple"
  | some (.dK _)=>some "dict"
  | some (.dT _)=>some "dict"
  | _=>none
 | _=>none
def b4Q(t c:String):Bool:=t == c||(t == "bool" && c == "int")
def a6Y:List String:=["int","bool","str","list","tuple","dict"]
theorem c5i(K:Fg):∀t ∈ "NoneType" :: a6Y,∀c∈a6Y,c2L K (.type t) (.type c)=some (b4Q t c):=by
 intro t ht c hc
 simp only[a6Y,d8,j7,or_false]at ht hc
 rcases ht with rfl | rfl | rfl | rfl | rfl | rfl | rfl <;> rcases hc with rfl | rfl | rfl | rfl | rfl | rfl <;> kernel_rfl
theorem c5Y{K:Fg}{x:V}{t:String}(h:a2D x H=some t):a7e K H x (.type t)/\t ∈ "NoneType" :: a6Y:=by
 unfold a2D at h
 split at h
 ·cases h;exact⟨.non,by decide⟩
 ·cases h;exact⟨.bl _,by decide⟩
 ·cases h;exact⟨.int _,by decide⟩
 ·cases h;exact⟨.str _,by decide⟩
 ·split at h
  ·cases h;exact⟨.lst (by assumption),by decide⟩
  ·cases h;exact⟨.tup (by assumption),by decide⟩
  ·cases h;exact⟨.dK (by assumption),by decide⟩
  ·cases h;exact⟨.dT (by assumption),by decide⟩
  ·cases h
 ·cases h
def a3N:List V->Hp->VK->Prop:=fun xs H Q=>match xs with
 | [x,.ty c]=>∃t,a2D x H=some t/\c∈a6Y/\Q (.bl (b4Q t c)) H
 | _=>False
theorem b7z:R8 X (.builtin "isinstance") a3N:=fun pins s σ H xs us Q I r h=>by
 unfold a3N at h
 split at h
 ·obtain⟨t,e,hc,q⟩:=h
  obtain⟨u,u2,rfl,ru,ru2⟩:=b8q r
  cases ru2
  obtain⟨ty,ht⟩:=c5Y (K:=X.K) e
  exact b7f I ru ty (c5i X.K t ht _ hc) fun tk=>⟨.bl _,H,I.tok _,rfl,q⟩
 ·exact h.elim
def b6I:V->V->Hp->VK->Prop:=fun x y H Q=>match x,y with
 | .ref p,.int i=>match H p with
  | some (.lst xs)=>0<=i/\∃v,xs[i.toNat]? = some v/\Q v H
  | _=>False
 | _,_=>False
theorem c6W:c5E X b6I:=fun pins s σ H o i ov iv Q I r1 r2 h=>by
 unfold b6I at h
 split at h
 ·split at h
  ·obtain⟨h0,v,e,q⟩:=h
   cases r1
   obtain⟨t,rfl⟩:=r2
   obtain⟨its,r,pl,hz⟩:=I.list (SqL.of (by assumption))
   obtain⟨u,eu,ru⟩:=r.get e
   have hl:=(j6.mp e).1
   have hn:=a5E
   exact wpAny_getItem_list pl.isList h0 (by omega) (by simpa using eu) ⟨v,H,I,ru,q⟩
  ·exact h.elim
 ·exact h.elim
def b4r:R2:=fun x y H Q=>y=.non/\Q (.bl (!decide (x=.non))) H
theorem b6Q:OpR X (o9 .IsNot) b4r:=c1V
structure D9(P:u4)(w:World)(K:Fg)(mg:Str->Option Value)(base:Heap)(k:Nat)(x:Str)(ps:List Str)(sp:Sp):Prop where
 ex:∃f fd,K6 P w K mg base CX0 k f fd ps sp/\mg x=some (.ref f)/\T0 K (.ref f)=true/\a3b K fd ps []
theorem c4w{k:Nat}{x:Str}{e:Expr}{es:List Expr}{t:TA}{p:Pos}(C:D9 X.prog X.w X.K X.mg X.base k x ps sp)(hr:O9 j X.A)(hk:k<=j)(hg:Gl X x)(ha:PA X (e::es) t)
  (hdb:(x == ("__debug__" : Str))=false:=by decide) (he:d9 (e::es) X.env=(false,eval e X.env)::d9 es X.env:=by rfl) (hpl:(W7 pos (d9 es X.env)).any (·.1)=false:=by rfl) :
  PE X (.Call (.Name x p) (e::es) [] pos) (u0 sp [] E0 t):=by
 obtain⟨f,fd,F,hm,hkp,hb⟩:=C.ex
 exact c1K F (hr.mono hk) hg hm hkp hb .nil b5D ha hdb he hpl
theorem b7w{P:u4}{K:Fg}{mg:Str->Option Value}{base:Heap}{k:Nat}{x q:Str}{st:Stmt}{f:Addr}{fd:Y1}(F:Fun K x q st f fd)(O:K6 P w K mg base CX0 k f fd ps sp)
  (hm:mg x=some (.ref f)) (hb:a3b K fd ps []):D9 P w K mg base k x ps sp:=⟨f,fd,O,hm,F.kp,hb⟩
def a1Z:List V->Hp->VK->Prop:=fun xs H Q=>match xs with
 | [.ref p]=>match H p with
  | some (.lst ys)=>∀l,H l=none->Q (.ref l) (upd H l (.lst ys))
  | some (.tup ys)=>∀l,H l=none->Q (.ref l) (upd H l (.lst ys))
  | _=>False
 | _=>False
theorem b5d:R8 X (.type "list") a1Z:=b1B.imp fun xs H Q h=>by
 unfold a1Z at h
 split at h
 ·split at h
  ·exact⟨_,_,rfl,.inl (SqL.of (by assumption)),h⟩
  ·exact⟨_,_,rfl,.inr (SqT.of (by assumption)),h⟩
  ·exact h.elim
 ·exact h.elim
end
def Its(x:Str):It:=⟨fun i _=>i<x.length,fun i H v H'=>H'=H/\∃c,x.cps[i]? = some c/\v=.str ⟨#[c]⟩,fun i _=>x.length<=i⟩
theorem b8t{P:u4}{K:Fg}{tg:Expr}(x:Str)(t:Tok)(it:Addr):b1I P w K tg (Its x) [it] it (fun i h=>h.IsStrIter it (a2B x) x t i) where
 mem:=by simp
 obj:=fun i h st b hb=>by
  have e:b=it:=by simpa using hb
  subst e
  obtain⟨o,e,c,d⟩:=st
  exact⟨o,e,fun v z=>by rw[d]at z;cases z⟩
 keep:=fun i h h' st k=>let⟨o,ho,r⟩:=st; ⟨o,k it (by simp) o ho,r⟩
 item:=by
  intro X hP hw hK hc i pins s σ H E I hf st hg
  subst hP hw hK
  have hi:i<x.cps.size:=hg
  obtain⟨f0,f1,f2,f3,f4,f5⟩:=hf it (by simp)
  have hx:x.cps[i]? = some x.cps[i]:=by simp[hi]
  have fin:∀h',h'.IsStrIter it (a2B x) x t (i+1)->Heap.SameBut it s.heap h'->∃u,some (Value.str ⟨#[x.cps[i]]⟩ s.toks)=some u /\
    wpAny (model X.prog X.w) X.A (a3U tg (.ref it) u) (fun _ s2=>∃v H',Inv X pins σ H' s2/\C7 v u/\(Its x).yld i H v H'/\s2.heap.IsStrIter it (a2B x) x t (i+1)/\∀b∈[it],H' b=none) E { s with heap:=h',toks:=s.toks+1 }:=by
   intro h' st' sb
   have I1:Inv X pins σ H { s with heap:=h',toks:=s.toks+1 }:=I.turned (t':=s.toks+1) (fun b o hb e=>(sb.2 b hb).trans e) f0 f1 f3 f4 f5
   obtain⟨o,e,c,d⟩:=id st'
   refine⟨_,rfl,b5L (s:={ s with heap:=h',toks:=s.toks+1 }) e c d ?_ ⟨.str ⟨#[x.cps[i]]⟩,H,I1,⟨_,rfl⟩,⟨rfl,_,hx,rfl⟩,st',fun b hb=>(hf b hb).1⟩⟩
   unfold a2B
   split <;> decide
  unfold a2B at st fin ⊢
  split at st
  ·rename_i ha
   simp only[ha]at fin ⊢
   exact wpAny_pyNext_ascii_item st hx fun h' st' sb=>fin h' st' sb
  ·rename_i ha
   simp only[ha]at fin ⊢
   exact wpAny_pyNext_wide_item st hx fun h' st' sb=>fin h' st' sb
 done:=by
  intro X hP hw hK hc i pins s σ H E I hf st hg
  subst hP hw hK
  have hi:x.cps.size<=i:=hg
  obtain⟨f0,f1,f2,f3,f4,f5⟩:=hf it (by simp)
  have hx:x.cps[i]? = none:=by simp[hi]
  unfold a2B at st
  split at st
  ·exact wpAny_pyNext_ascii_end (I.ok.hd hc) st hx fun h' eb=>⟨rfl,I.turned (t':=s.toks) (fun b o hb e=>eb b o hb e) f0 f1 f3 f4 f5⟩
  ·exact wpAny_pyNext_wide_end (I.ok.hd hc) st hx fun h' eb=>⟨rfl,I.turned (t':=s.toks) (fun b o hb e=>eb b o hb e) f0 f1 f3 f4 f5⟩
 self:=fun _ _ _ _ _ st h=>by
  unfold a2B at st
  split at st
  ·exact wpAny_pyIter_striter_ascii st h
  ·exact wpAny_pyIter_striter_wide st h
def c2q(tl:TE):TI:=fun σ H R=>tl σ H fun v H1=>∃x,v=.str x/\R (Its x) H1
section
variable {tg:Expr}
theorem c4r{l:Expr}{tl:TE}(hl:PE X l tl):PI X tg l (c2q tl):=by
 intro pins s σ H R I h
 refine thn (hl pins s σ H _ I h) fun v s1 ⟨y,H1,I1,r1,x,e,q1⟩=>?_
 subst e
 obtain⟨t,rfl⟩:=r1
 refine wpAny_pyIter_strU ?_
 have k:∀b u,s1.heap.get? b=some u->(s1.heap.push { cls:=.type (a2B x),data:=.fields #[.str x t,.int 0 0] }).get? b=some u:=fun b u q=>b8 _ q
 refine⟨s1.heap.objs.size,[s1.heap.objs.size],_,Its x,H1,rfl,I1.kept (t':=s1.toks) k,b8t x t _,⟨_,d7 _ rfl,rfl,rfl⟩,fun b hb=>?_,q1⟩
 have e:b=s1.heap.objs.size:=by simpa using hb
 subst e
 exact I1.fpOk (d3 _) I1.fresh
def U5:List V->Option (List Bool)
 | []=>some []
 | .bl b::r=>(U5 r).map (b :: ·)
 | _=>none
theorem a7d:∀ {xs:List V} {bs:List Bool} {i:Nat} {x:V},U5 xs=some bs->xs[i]? = some x->∃b,bs[i]? = some b/\x=.bl b
 | [],_,_,_,_,h=>by simp at h
 | y::r,bs,i,x,e,h=>by
  cases y with
  | bl b=>
   cases e2:U5 r with
   | none=>simp[U5,e2]at e
   | some bs2=>
    simp[U5,e2]at e
    subst e
    cases i with
    | zero=>simp at h;exact⟨b,rfl,h.symm⟩
    | succ i=>
     obtain⟨b',h1,h2⟩:=a7d (i:=i) e2 (by simpa using h)
     exact⟨b',by simpa using h1,h2⟩
  | _=>simp[U5]at e
theorem a7c:∀ {xs:List V} {bs:List Bool},U5 xs=some bs->xs.length=bs.length
 | [],_,e=>by cases e;rfl
 | y::r,bs,e=>by
  cases y with
  | bl b=>
   cases e2:U5 r with
   | none=>simp[U5,e2]at e
   | some bs2=>
    simp[U5,e2]at e
    subst e
    simp[a7c e2]
  | _=>simp[U5]at e
theorem b7F(bs:List Bool):((z5 bs.length).all fun i=>(bs[i]?).getD true)=bs.all id:=by
 rw[Q9,E4,E4]
 constructor
 ·intro h b hb
  obtain⟨i,hi,rfl⟩:=b7Q.mp hb
  have:=h i (by simpa using hi)
  simpa[hi]using this
 ·intro h i hi
  have hl:i<bs.length:=by simpa using hi
  have:=h bs[i] (y9 _)
  simpa[hl]using this
def b1d:List V->Hp->VK->Prop:=fun vs H Q=>match vs with
 | [.ref l]=>match H l with
  | some (.lst xs)=>∃bs,U5 xs=some bs/\Q (.bl (bs.all id)) H
  | _=>False
 | _=>False
theorem b7B(hc:X.calm=true):R8 X (.builtin "all") b1d:=fun pins s σ H xs us Q I r h=>by
 unfold b1d at h
 split at h
 ·split at h
  ·rename_i l _ ys hl
   obtain⟨bs,e,q⟩:=h
   obtain⟨u,rfl,ru⟩:=a2j r
   cases ru
   obtain⟨its,rv,pl,hz⟩:=I.list (SqL.of hl)
   have hlt:l<s.heap.objs.size:=by obtain⟨_,e,_⟩:=pl.isList;exact d6 e
   have hlen:=rv.length
   have hbl:=a7c e
   refine call_all_walk (a2A pl.isList ?_)
   refine⟨s.heap.objs.size,[s.heap.objs.size,l],[s.heap.objs.size],its.toArray.size,_,_,fun i=>(bs[i]?).getD true,rfl,Walks.list (A:=X.A.in1) (I.ok.hd hc) _ l (j8 hlt) its.toArray,
    ⟨⟨_,d7 _ rfl,rfl,rfl⟩,pl.isList.push _⟩,fun i v s' Q' E' hP hQ=>?_,fun h' tk hk=>?_⟩
   ·have hP:its[i]? = some v:=by simpa using hP
    have hi:i<ys.length:=by rw[hlen];exact(j6.mp hP).1
    have ey:ys[i]? = some ys[i]:=by simp[hi]
    obtain⟨b,eb,ez⟩:=a7d e ey
    obtain⟨u,eu,ru⟩:=rv.get ey
    rw[hP]at eu
    cases eu
    rw[ez]at ru
    cases ru
    simp only[eb,a3K]at hQ
    exact J8 hQ
   ·have e2:((z5 its.toArray.size).all fun i=>(bs[i]?).getD true)=bs.all id:=by
     rw[g7,<-hlen,hbl]
     exact b7F bs
    rw[e2]
    exact⟨.bl _,H,I.kept (t':=tk) fun b x e=>hk b x (fun hm=>by rw[c7.mp hm]at e;exact F7 _ (d6 e)) (b8 _ e),rfl,q⟩
  ·exact h.elim
 ·exact h.elim
end
section
theorem Inv.turnedL{h':Heap}{t':Nat}(I:Inv X pins σ H s)(k:∀b o,b∉fp->s.heap.get? b=some o->h'.get? b=some o)(hf:∀b∈fp,a4P X pins H b) :
  Inv X pins σ H { s with heap:=h',toks:=t' }:=by
 have nit:∀b u,H b=some u->b∉fp:=fun b u e z=>by rw[(hf b z).1]at e;cases e
 refine I.step (g':=s.gens) (d':=s.drawn) (ch:=fp) (fun b hb=>?_) (fun b o _ _ hc e _=>k b o hc e) (fun b o _ _ hc e _=>⟨o.slots,k b o hc e⟩) (fun _ _ _ _ n=>n)
  (fun b o hc e=>⟨o,k b o hc e⟩) (fun _ _ e=>e) (fun _ _ _ e=>e) (fun b ps e=>⟨#[],by rw[e];simp⟩) (fun m hm=>?_) (fun b u e=>?_) I.bare
 ·obtain⟨_,f1,_,f3,f4,f5⟩:=hf b hb
  exact⟨f3,f1,f4,f5⟩
 ·obtain⟨o,es,ep,ho,r⟩:=hm
  exact⟨o,es,ep,k _ o (fun z=>(hf _ z).2.1 rfl) ho,r⟩
 ·refine(I.hok b u e).stay (fun c v hc q=>k c v ?_ q) (fun _ q=>q) fun _ _ q=>q
  rcases hc with z | z
  ·rw[z];exact nit b u e
  ·exact nit c _ z
theorem Inv.pairL{h':Heap}{t':Nat}{x y:V}{v:Value}(I:Inv X pins σ H s)(hf:∀b∈fp,a4P X pins H b)(fl:∀b∈fp,b≠s.heap.objs.size)
  (rx:C7 x u) (ry:C7 y v) (ht:h'.get? s.heap.objs.size=some { cls:=.type "tuple",data:=.seq #[u,v] }) (k:∀b o,b∉fp->s.heap.get? b=some o->h'.get? b=some o) :
  Inv X pins σ (upd H s.heap.objs.size (.tup [x,y])) { s with heap:=h',toks:=t' }:=by
 have I1:Inv X pins σ (upd H s.heap.objs.size (.tup [x,y])) { s with heap:=s.heap.push { cls:=.type "tuple",data:=.seq #[u,v] },toks:=s.toks }:=
  I.laid (fun b u e=>b8 _ e) (d3 _) ⟨by show 2<=i8;decide,[u,v],.cons rx (.cons ry .nil),⟨_,d7 _ rfl,rfl,_,rfl⟩⟩
 refine Inv.turnedL (s:={ s with heap:=s.heap.push { cls:=.type "tuple",data:=.seq #[u,v] },toks:=s.toks }) (fp:=fp) I1 (fun b o hb e=>?_) fun b hb=>⟨by rw[g6 (fl b hb)];exact(hf b hb).1,(hf b hb).2⟩
 by_cases hz:b=s.heap.objs.size
 ·subst hz
  have e2:=d7 s.heap (o:={ cls:=.type "tuple",data:=.seq #[u,v] }) rfl
  rw[show(s.heap.push { cls:=.type "tuple",data:=.seq #[u,v] }).get? s.heap.objs.size=some o from e]at e2
  cases e2
  exact ht
 ·refine k b o hb ?_
  have e:(s.heap.push { cls:=.type "tuple",data:=.seq #[u,v] }).get? b=some o:=e
  rwa [Heap.get?_push_ne _ _ _ hz]at e
def Ite(K:Fg)(a:Addr):It:=
 ⟨fun i H=>∃xs x,SqL K H a xs/\xs[i]? = some x,fun i H v H'=>∃p x,H p=none/\v=.ref p/\H'=upd H p (.tup [.int i,x])/\∀xs,SqL K H a xs->xs[i]? = some x,fun i H=>∃xs,SqL K H a xs/\xs.length<=i⟩
theorem b6q{P:u4}{K:Fg}{x1}(a e it:Addr)(hne:e≠it):b1I P w K (.Tuple elts x1 tp) (Ite K a) [e,it] e (fun i h=>(∃old,IsEnum h e it i old)/\h.IsListIter it a i) where
 mem:=by simp
 obj:=fun i h st b hb=>by
  obtain⟨⟨old,he⟩,o,e1,c,d⟩:=st
  rcases d8.mp hb with rfl | hb
  ·exact⟨_,he,fun v z=>by
    have z':Data.fields _=Data.cell v:=z
    cases z'⟩
  ·have:b=it:=by simpa using hb
   subst this
   exact⟨o,e1,fun v z=>by rw[d]at z;cases z⟩
 keep:=fun i h h' st k=>by
  obtain⟨⟨old,he⟩,hi⟩:=st
  exact⟨⟨old,k e (by simp) _ he⟩,hi.at fun o q=>k it (by simp) o q⟩
 item:=by
  intro X hP hw hK hc i pins s σ H E I hf st hg
  subst hP hw hK
  obtain⟨⟨old,he⟩,hit⟩:=st
  obtain⟨xs,x,hq,hx⟩:=hg
  obtain⟨its,rv,p,hz⟩:=I.list hq
  obtain⟨u,hu,ru⟩:=rv.get hx
  refine wpAny_pyNext_enum_item he hit p.isList (x:=u) (by simpa using hu) hne fun h1 ho hit1 hT hsz hk=>?_
  refine⟨_,rfl,?_⟩
  refine wpAny_letOwnedTupleGo_enum (s:={ s with heap:=h1,toks:=s.toks+1 }) ho fun h2 he2 hs2=>?_
  have hs2:Heap.SameBut e h1 h2:=hs2
  have le:e≠s.heap.objs.size:=j8 (d6 he)
  have li:it≠s.heap.objs.size:=by obtain⟨_,q,_⟩:=hit;exact j8 (d6 q)
  have fl:∀b∈[e,it],b≠s.heap.objs.size:=fun b hb=>by
   rcases d8.mp hb with rfl | hb
   ·exact le
   ·have:b=it:=by simpa using hb
    subst this;exact li
  have I2:=I.pairL (h':=h2) (t':=s.toks+1) (x:=.int i) (y:=x) (u:=.int i s.toks) (v:=u) hf fl ⟨_,rfl⟩ ru ((hs2.2 _ (Ne.symm le)).trans hT) fun b o hb q=>by
   have n1:b≠e:=fun z=>hb (by simp[z])
   have n2:b≠it:=fun z=>hb (by simp[z])
   exact(hs2.2 b n1).trans (hk b o n1 n2 q)
  refine⟨.ref s.heap.objs.size,_,I2,rfl,⟨_,x,I.fresh,rfl,rfl,fun ys hy=>by rw[I.list_inj hy hq];exact hx⟩,⟨⟨u,by simpa using he2⟩,hit1.at fun o q=>(hs2.2 it (Ne.symm hne)).trans q⟩,fun b hb=>?_⟩
  rw[g6 (fl b hb)];exact(hf b hb).1
 done:=by
  intro X hP hw hK hc i pins s σ H E I hf st hg
  subst hP hw hK
  obtain⟨⟨old,he⟩,hit⟩:=st
  obtain⟨xs,hq,hx⟩:=hg
  obtain⟨its,rv,p,hz⟩:=I.list hq
  obtain⟨f0,f1,f2,f3,f4,f5⟩:=hf it (by simp)
  have hl:=rv.length
  exact wpAny_pyNext_enum_end (I.ok.hd hc) he hit p.isList (by simp;omega) fun h' eb=>⟨rfl,I.turned (t':=s.toks) (fun b o hb e=>eb b o hb e) f0 f1 f3 f4 f5⟩
 self:=fun _ _ _ _ _ st h=>by
  obtain⟨⟨old,he⟩,_⟩:=st
  exact wpAny_pyIter_enum he h
def a8V(K:Fg)(ta:TA):TI:=fun σ H R=>ta σ H fun vs H1=>∃a,vs=[.ref a]/\(∃xs,SqL K H1 a xs)/\R (Ite K a) H1
theorem c1B{x1}{a:Expr}{ta:TA}(hg:Gl X "enumerate")(hm:X.mg "enumerate" = none)(ha:PA X [a] ta)(hs:d9 [a] X.env=[(false,eval a X.env)]:=by rfl) :
  PI X (.Tuple elts x1 tp) (.Call (.Name "enumerate" p) [a] [] pos) (a8V X.K ta):=by
 intro pins s σ H R I h
 refine Call_ (a4m I hg hm boot_enumerate (P3 (thn (ha pos pins s σ H _ I h) fun us s1 ⟨vs,H1,I1,r1,q1⟩=>?_) hs rfl))
 obtain⟨b,e,⟨xs,hq⟩,q⟩:=q1
 subst e
 cases r1 with
 | cons r rr=>
  cases rr
  cases r
  obtain⟨its,rv,pl,hz⟩:=I1.list hq
  refine call_enumerate_list pl.isList fun h' he hit hsz hk=>?_
  have I2:Inv X pins σ H1 { s1 with heap:=h' }:=I1.kept (t':=s1.toks) hk
  refine wpAny_pyIter_enum he ⟨_,[s1.heap.objs.size+1,s1.heap.objs.size],_,_,H1,rfl,I2,b6q b (s1.heap.objs.size+1) s1.heap.objs.size (Nat.succ_ne_self _),⟨⟨_,he⟩,hit⟩,fun c hc=>?_,q⟩
  rcases d8.mp hc with rfl | hc
  ·exact I1.fpOk (by omega) (I1.hok.fresh (by omega))
  ·have:c=s1.heap.objs.size:=by simpa using hc
   subst this
   exact I1.fpOk (d3 _) (I1.hok.fresh (d3 _))
def Itz(K:Fg)(a b:Addr):It:=
 ⟨fun i H=>∃xs ys x y,SqL K H a xs/\SqL K H b ys/\xs[i]? = some x/\ys[i]? = some y,fun i H v H'=>∃p x y,H p=none/\v=.ref p/\H'=upd H p (.tup [x,y])/\(∀xs,SqL K H a xs->xs[i]? = some x)/\∀ys,SqL K H b ys->ys[i]? = some y,
  fun i H=>∃xs ys,SqL K H a xs/\SqL K H b ys/\(xs.length<=i\/ys.length<=i)⟩
theorem P6{h:Heap}{a b:Addr}{o o':Obj}(h1:h.get? a=some o)(h2:h.get? b=some o')(hc:o.cls≠o'.cls):a≠b:=fun z=>by
 subst z;rw[h1]at h2;cases h2;exact hc rfl
theorem b8s{P:u4}{K:Fg}{x1}(a b z TI TO i1 i2:Addr)(n1:TI≠z)(n2:TO≠z)(n3:i1≠z)(n4:i2≠z)(n5:TI≠TO)(n6:TI≠i1)(n7:TI≠i2)(n8:TO≠i1)(n9:TO≠i2)(n10:i1≠i2) :
  b1I P w K (.Tuple elts x1 tp) (Itz K a b) [z,TI,TO,i1,i2] z (fun i h=>IsZip h z TI TO .none/\IsPair h TI (.ref i1) (.ref i2)/\(∃u v,IsPair h TO u v)/\h.IsListIter i1 a i/\h.IsListIter i2 b i) where
 mem:=by simp
 obj:=fun i h st c hb=>by
  obtain⟨hz,hTI,⟨u,v,hTO⟩,⟨o1,e1,c1,d1⟩,⟨o2,e2,c2,d2⟩⟩:=st
  simp only[d8,j7,or_false]at hb
  rcases hb with rfl | rfl | rfl | rfl | rfl
  ·exact⟨_,hz,fun v z=>by
    have z':Data.fields _=Data.cell v:=z
    cases z'⟩
  ·exact⟨_,hTI,fun v z=>by
    have z':Data.seq _ _=Data.cell v:=z
    cases z'⟩
  ·exact⟨_,hTO,fun v z=>by
    have z':Data.seq _ _=Data.cell v:=z
    cases z'⟩
  ·exact⟨o1,e1,fun v z=>by rw[d1]at z;cases z⟩
  ·exact⟨o2,e2,fun v z=>by rw[d2]at z;cases z⟩
 keep:=fun i h h' st k=>by
  obtain⟨hz,hTI,⟨u,v,hTO⟩,h1,h2⟩:=st
  exact⟨k z (by simp) _ hz,k TI (by simp) _ hTI,⟨u,v,k TO (by simp) _ hTO⟩,h1.at fun o q=>k i1 (by simp) o q,h2.at fun o q=>k i2 (by simp) o q⟩
 item:=by
  intro X hP hw hK hc i pins s σ H E I hf st hg
  subst hP hw hK
  obtain⟨hz,hTI,⟨u,v,hTO⟩,h1,h2⟩:=st
  obtain⟨xs,ys,x,y,hqa,hqb,hx,hy⟩:=hg
  obtain⟨ia,ra,pa,za⟩:=I.list hqa
  obtain⟨ib,rb,pb,zb⟩:=I.list hqb
  obtain⟨ux,hux,rux⟩:=ra.get hx
  obtain⟨uy,huy,ruy⟩:=rb.get hy
  obtain⟨oa,la,ca,_⟩:=id pa.isList
  obtain⟨ob,lb,cb,_⟩:=id pb.isList
  obtain⟨o1,e1,c1,_⟩:=id h1
  obtain⟨o2,e2,c2,_⟩:=id h2
  have D:ZipApart z TI TO i1 i2 a b:=⟨n1,n2,n3,n4,n5,n6,n7,n8,n9,n10,
   P6 la hz (by rw[ca];intro z;injection z with z;revert z;decide),P6 la hTO (by rw[ca];intro z;injection z with z;revert z;decide),P6 la e1 (by rw[ca,c1];intro z;injection z with z;revert z;decide),P6 la e2 (by rw[ca,c2];intro z;injection z with z;revert z;decide),
   P6 lb hz (by rw[cb];intro z;injection z with z;revert z;decide),P6 lb hTO (by rw[cb];intro z;injection z with z;revert z;decide),P6 lb e1 (by rw[cb,c1];intro z;injection z with z;revert z;decide),P6 lb e2 (by rw[cb,c2];intro z;injection z with z;revert z;decide)⟩
  refine wpAny_pyNext_zip_item D hz hTI hTO h1 h2 pa.isList pb.isList (x:=ux) (y:=uy) (by simpa using hux) (by simpa using huy) fun h3 a1 a2 a3 a4 a5 a6 hk=>?_
  refine⟨_,rfl,?_⟩
  refine wpAny_letOwnedTupleGo_zip (s:={ s with heap:=h3 }) a1 fun h4 hz4 hs4=>?_
  have hs4:Heap.SameBut z h3 h4:=hs4
  have lz:z≠s.heap.objs.size:=j8 (d6 hz)
  have fl:∀c∈[z,TI,TO,i1,i2],c≠s.heap.objs.size:=fun c hc=>by
   simp only[d8,j7,or_false]at hc
   rcases hc with rfl | rfl | rfl | rfl | rfl
   ·exact lz
   ·exact j8 (d6 hTI)
   ·exact j8 (d6 hTO)
   ·exact j8 (d6 e1)
   ·exact j8 (d6 e2)
  have I2:=I.pairL (h':=h4) (t':=s.toks) (x:=x) (y:=y) (u:=ux) (v:=uy) hf fl rux ruy ((hs4.2 _ (Ne.symm lz)).trans a5) fun c o hc q=>by
   have m1:c≠z:=fun z=>hc (by simp[z])
   have m3:c≠TO:=fun z=>hc (by simp[z])
   have m4:c≠i1:=fun z=>hc (by simp[z])
   have m5:c≠i2:=fun z=>hc (by simp[z])
   exact(hs4.2 c m1).trans (hk c o m1 m3 m4 m5 q)
  refine⟨.ref s.heap.objs.size,_,I2,rfl,⟨_,x,y,I.fresh,rfl,rfl,fun zs hy=>by rw[I.list_inj hy hqa];exact hx,fun zs hy'=>by rw[I.list_inj hy' hqb];exact hy⟩,
   ⟨hz4,hs4.extBut _ _ n1 (hk _ _ n1 n5 n6 n7 hTI),⟨_,_,hs4.extBut _ _ n2 a2⟩,a3.extBut hs4.extBut n3,a4.extBut hs4.extBut n4⟩,fun c hc=>?_⟩
  rw[g6 (fl c hc)];exact(hf c hc).1
 done:=by
  intro X hP hw hK hc i pins s σ H E I hf st hg
  subst hP hw hK
  obtain⟨hz,hTI,⟨u,v,hTO⟩,h1,h2⟩:=st
  obtain⟨xs,ys,hqa,hqb,hx⟩:=hg
  obtain⟨ia,ra,pa,za⟩:=I.list hqa
  obtain⟨ib,rb,pb,zb⟩:=I.list hqb
  obtain⟨oa,la,ca,_⟩:=id pa.isList
  obtain⟨ob,lb,cb,_⟩:=id pb.isList
  obtain⟨o1,e1,c1,_⟩:=id h1
  obtain⟨o2,e2,c2,_⟩:=id h2
  have D:ZipApart z TI TO i1 i2 a b:=⟨n1,n2,n3,n4,n5,n6,n7,n8,n9,n10,
   P6 la hz (by rw[ca];intro z;injection z with z;revert z;decide),P6 la hTO (by rw[ca];intro z;injection z with z;revert z;decide),P6 la e1 (by rw[ca,c1];intro z;injection z with z;revert z;decide),P6 la e2 (by rw[ca,c2];intro z;injection z with z;revert z;decide),
   P6 lb hz (by rw[cb];intro z;injection z with z;revert z;decide),P6 lb hTO (by rw[cb];intro z;injection z with z;revert z;decide),P6 lb e1 (by rw[cb,c1];intro z;injection z with z;revert z;decide),P6 lb e2 (by rw[cb,c2];intro z;injection z with z;revert z;decide)⟩
  have la':=ra.length
  have lb':=rb.length
  have hend:ia.toArray[i]? = none\/ib.toArray[i]? = none:=by
   rcases hx with hx | hx
   ·left;simp;omega
   ·right;simp;omega
  refine wpAny_pyNext_zip_end (I.ok.hd hc) D hz hTI hTO h1 h2 pa.isList pb.isList hend fun h' hk=>⟨rfl,?_⟩
  refine I.turnedL (t':=s.toks) (fp:=[z,TI,TO,i1,i2]) (fun c o hc q=>?_) hf
  exact hk c o (fun z=>hc (by simp[z])) (fun z=>hc (by simp[z])) (fun z=>hc (by simp[z])) (fun z=>hc (by simp[z])) q
 self:=fun _ _ _ _ _ st h=>wpAny_pyIter_zip st.1 h
def c2p(K:Fg)(ta:TA):TI:=fun σ H R=>ta σ H fun vs H1=>∃a b,vs=[.ref a,.ref b]/\(∃xs,SqL K H1 a xs)/\(∃xs,SqL K H1 b xs)/\R (Itz K a b) H1
theorem c4q{x1}{a b:Expr}{ta:TA}(hg:Gl X "zip")(hm:X.mg "zip" = none)(ha:PA X [a,b] ta)(hs:d9 [a,b] X.env=[(false,eval a X.env),(false,eval b X.env)]:=by rfl)(hs2:d9 [b] X.env=[(false,eval b X.env)]:=by rfl) :
  PI X (.Tuple elts x1 tp) (.Call (.Name "zip" p) [a,b] [] pos) (c2p X.K ta):=by
 intro pins s σ H R I h
 refine Call_ (a4m I hg hm boot_zip (P3 (thn (ha pos pins s σ H _ I h) fun us s1 ⟨vs,H1,I1,r1,q1⟩=>?_) (by rw[hs,hs2]) (by rw[hs2];rfl)))
 obtain⟨c,d,e,⟨xs,hq⟩,⟨ys,hq'⟩,q⟩:=q1
 subst e
 cases r1 with
 | cons r rr=>
  cases rr with
  | cons r' rr=>
   cases rr
   cases r
   cases r'
   obtain⟨ia,ra,pa,za⟩:=I1.list hq
   obtain⟨ib,rb,pb,zb⟩:=I1.list hq'
   refine call_zip_2 pa.isList pb.isList fun h' hz hTI hTO h1 h2 hsz hk=>?_
   have I2:Inv X pins σ H1 { s1 with heap:=h' }:=I1.kept (t':=s1.toks) hk
   have N:∀n:Nat,n+2≠n+4/\n+3≠n+4/\n≠n+4/\n+1≠n+4/\n+2≠n+3/\n+2≠n/\n+2≠n+1/\n+3≠n/\n+3≠n+1/\n≠n+1:=fun n=>by omega
   obtain⟨m1,m2,m3,m4,m5,m6,m7,m8,m9,m10⟩:=N s1.heap.objs.size
   refine wpAny_pyIter_zip hz ⟨_,[s1.heap.objs.size+4,s1.heap.objs.size+2,s1.heap.objs.size+3,s1.heap.objs.size,s1.heap.objs.size+1],_,_,H1,rfl,I2,
    b8s c d (s1.heap.objs.size+4) (s1.heap.objs.size+2) (s1.heap.objs.size+3) s1.heap.objs.size (s1.heap.objs.size+1) m1 m2 m3 m4 m5 m6 m7 m8 m9 m10,⟨hz,hTI,⟨_,_,hTO⟩,h1,h2⟩,fun y hy=>?_,q⟩
   have:s1.heap.objs.size<=y:=by
    simp only[d8,j7,or_false]at hy
    rcases hy with rfl | rfl | rfl | rfl | rfl
    ·exact a4v _ _
    ·exact a4v _ _
    ·exact a4v _ _
    ·exact d3 _
    ·exact a4v _ _
   exact I1.fpOk this (I1.hok.fresh this)
end
def b1u(x y:Str)(N:List Str):List Str:=N.map fun z=>if z=x then ("." : Str)++x else if z=y then ("." : Str)++y else z
def Q4(X:Cx)(scope:Scope)(cl:List (Str×Addr))(C:Addr)(x y:Str)(fp:List Addr)(s3:d4)(H3:Hp):Cx:=
 { X with N:=x::y::b1u x y X.N,s₀:=s3,H₀:=H3,env:=b7M scope cl C X.env,outer:=X.stack,stack:=X.stack,ex:=fp,fn:=fun _=>false,pn:=[],xe:=fun _ _=>False }
structure a3F(N:List Str)(osc sc:Scope)(x y:Str):Prop where
 kind:sc.kind=.function
 cell:∀y∈sc.names,y.2≠.cell
 names:∀y∈sc.names,y.2=.local->sc.names.lookup y.1=some .local
 own:sc.names.lookup x=some .local
 own2:sc.names.lookup y=some .local
 fr:∀y∈sc.names,y.2=.free->osc.names.lookup y.1=some .cell\/osc.names.lookup y.1=some .free
 see:∀z∈b1u x y N,sc.names.lookup z≠some .local
 dot:sc.names.lookup (("." : Str)++x)=none
 dot2:sc.names.lookup (("." : Str)++y)=none
 nd:(x::y::b1u x y N).Nodup
def a8l(K:Fg)(wi:TI)(tt:TT)(te:TE):TE:=fun σ H Q=>wi σ H fun J H1=>∀D,H1 D=none->∃W:Nat->Nat->List V->Hp->Prop,
 (∃m,W 0 m [] (upd H1 D (.lst [])))/\∀i m ys H2,W i m ys H2->H2 D=some (.lst ys) /\
  ((J.stop i H2 /\ Q (.ref D) H2) \/ (J.go i H2 /\ ∀ x H3,J.yld i H2 x H3 -> ∃ a u v,x = .ref a /\ SqT K H3 a [u,v] /\ tt (some u :: some v :: σ) H3 fun ok H4 => if ok = true then
    te (some u::some v::σ) H4 (fun y H5=>H5 D=some (.lst ys)/\ys.length<i8/\∃m',m'<m/\W (i+1) m' (ys++[y]) (upd H5 D (.lst (ys++[y]))))
    else ∃m',m'<m/\W (i+1) m' ys H4))
section
variable {x x2:Str}{px py2 pt:Pos}{kt}
theorem b7o{s3:d4}{h4:Heap}{tk:Nat}(hc:a3F X.N X.env.scope scope x x2)(I:Inv X pins σ H s3)
  (hcl:∀y c,cl.lookup y=some c->X.env.cells.lookup y=some c) (hcl2:∀y,(y,NameKind.free)∈scope.names->(cl.lookup y).isSome=true)
  (fpo:∀b∈fp,a4P X pins H b) (fpl:∀b∈fp,b<s3.heap.objs.size)
  (hn:h4.Ns s3.heap.objs.size (fun _=>none)) (k:∀b o,s3.heap.get? b=some o->h4.get? b=some o) :
  Inv (Q4 X scope cl s3.heap.objs.size x x2 fp s3 H) [] (none::none::σ) H { s3 with heap:=h4,toks:=tk }:=by
 have low:∀x y,(Q4 X scope cl s3.heap.objs.size x x2 fp s3 H).env.cells.lookup y=cl.lookup y:=fun _ _=>rfl
 have below:∀y c,cl.lookup y=some c->c<s3.heap.objs.size:=fun y c e=>by
  obtain⟨v,q⟩:=I.cell y c (hcl y c e)
  exact q.lt
 have kinds:∀y,((Q4 X scope cl s3.heap.objs.size x x2 fp s3 H).env.kindOf y=some .cell\/(Q4 X scope cl s3.heap.objs.size x x2 fp s3 H).env.kindOf y=some .free)->scope.names.lookup y=some .free:=by
  intro y hy
  rcases hy with hy | hy
  ·rcases L3 hy with q | ⟨q,_⟩
   ·exact absurd rfl (hc.cell _ (y7 q))
   ·exact q
  ·rcases L3 hy with q | ⟨q,z⟩
   ·exact q
   ·cases z
 refine⟨⟨I.ok.mod,?_,I.ok.glob,I.ok.blt,d3 _,fun y z c h1 h2=>?_,fun y hy=>?_,fun y c h=>?_,I.ok.hd,I.ok.frames,.inl rfl,fun b hb=>⟨?_,fun y c e z=>?_⟩,fun b o e=>I.bs b o e,A1 I.ok.bsz I.sz,fun b o e hb=>?_,fun b hb hf=>?_,I.stack,I.stkFree⟩,
  rfl,I.bare,Un.kept k,⟨_,hn,fun i y v h1 h2 h3=>?_⟩,fun y c e=>?_,I.fresh,fun y c e=>?_,fun p hp=>absurd (show p∈([]:List (Addr×Obj))from hp) (by simp),I.hok.kept k,?_⟩
 ·exact hc.kind
 ·exact I.ok.inj y z c (hcl _ _ h1) (hcl _ _ h2)
 ·have:=hcl2 y (y7 (kinds y hy))
  exact V5.mp this
 ·cases h
 ·exact j8 (fpl b hb)
 ·exact(fpo b hb).2.2.2.2.1 y c (hcl y c e) z
 ·rcases(fpo b hb).2.2.2.1 with q | q
  ·exact I.ok.noex b o e q
  ·exact absurd (w4 (d6 (I.ok.bs b o e).1) q) (F7 _)
 ·rcases d8.mp (I.stkSub b hf)with e | e
  ·exact(fpo b hb).2.1 e
  ·exact(fpo b hb).2.2.1 e
 ·-- the names
  have h1:(x::x2::b1u x x2 X.N)[i]? = some y:=h1
  cases i with
  | zero=>cases h2
  | succ i=>
   cases i with
   | zero=>cases h2
   | succ i=>
   have h1:(b1u x x2 X.N)[i]? = some y:=h1
   have h2:σ[i]? = some (some v):=h2
   have my:y∈b1u x x2 X.N:=P4 h1
   have h3:(a6F scope X.env).names.lookup y=some .local\/(a6F scope X.env).names.lookup y=some .cell\/(a6F scope X.env).names.lookup y=some .free:=h3
   have hf:scope.names.lookup y=some .free:=by
    rcases h3 with q | q
    ·rcases L3 q with q | ⟨_,z⟩
     ·exact absurd q (hc.see y my)
     ·cases z
    ·exact kinds y q
   have hy:X.N[i]? = some y:=by
    unfold b1u at h1
    rw[b7]at h1
    cases e:X.N[i]? with
    | none=>rw[e]at h1;cases h1
    | some z=>
     rw[e]at h1
     by_cases ez:z=x
     ·rw[a1G,if_pos ez]at h1
      have h1:=Option.some.inj h1
      subst h1
      rw[hc.dot]at hf
      cases hf
     ·rw[a1G,if_neg ez]at h1
      by_cases ez2:z=x2
      ·rw[if_pos ez2]at h1
       have h1:=Option.some.inj h1
       subst h1
       rw[hc.dot2]at hf
       cases hf
      ·rw[if_neg ez2]at h1
       exact h1
   obtain⟨m,_,hl⟩:=I.loc
   obtain⟨c,hcc⟩:=V5.mp (hcl2 y (y7 hf))
   have vis:Vis X.env.scope y:=by
    rcases hc.fr _ (y7 hf) rfl with q | q
    ·exact .inr (.inl q)
    ·exact .inr (.inr q)
   obtain⟨u,ru,lk⟩:=hl i y v hy h2 vis
   refine⟨u,ru,.inr ⟨?_,c,hcc,?_⟩⟩
   ·rcases h3 with q | q
    ·rcases L3 q with q | ⟨_,z⟩
     ·exact absurd q (hc.see y my)
     ·cases z
    ·exact q
   ·have hce:=hcl y c hcc
    rcases lk with ⟨q,_⟩ | ⟨_,c',e',z⟩
    ·rcases hc.fr _ (y7 hf) rfl with q' | q'
     ·have q:X.env.scope.names.lookup y=some .local:=q
      rw[show X.env.scope.names.lookup y=some NameKind.cell from q']at q
      cases q
     ·have q:X.env.scope.names.lookup y=some .local:=q
      rw[show X.env.scope.names.lookup y=some NameKind.free from q']at q
      cases q
    ·rw[e']at hce
     cases hce
     obtain⟨o,ho,hd⟩:=z
     exact⟨o,k _ _ ho,hd⟩
 ·obtain⟨v,o,ho,hd⟩:=I.cell y c (hcl y c e)
  exact⟨v,o,k _ _ ho,hd⟩
 ·exact I.freeC y c (hcl y c e)
 ·show(none::none::σ).length=(x::x2::b1u x x2 X.N).length
  have:=I.len
  simp[b1u,this]
theorem b3j{H1:Hp}{s2:d4}{it:Addr}{tn:Nat->Heap->Prop}{J:It}{Q:VK}{E:Value->d4->Prop}
  {RR:Value->Addr->b1V->d4->Prop} (hc:a3F X.N X.env.scope scope x x2) (hcalm:X.calm=true)
  (hcl:∀y c,cl.lookup y=some c->X.env.cells.lookup y=some c) (hcl2:∀y,(y,NameKind.free)∈scope.names->(cl.lookup y).isSome=true)
  (ht:∀C fp s3 H3,PTs (Q4 X scope cl C x x2 fp s3 H3) ifs tt) (he:∀C fp s3 H3,PE (Q4 X scope cl C x x2 fp s3 H3) elt te)
  (I:Inv X pins σ H1 s2) (T:b1I X.prog X.w X.K (.Tuple [.Name x px,.Name x2 py2] kt pt) J fp it tn) (st:tn 0 s2.heap) (fpo:∀b∈fp,a4P X pins H1 b)
  (h:∀D,H1 D=none->∃W:Nat->Nat->List V->Hp->Prop,
   (∃m,W 0 m [] (upd H1 D (.lst [])))/\∀i m ys H2,W i m ys H2->H2 D=some (.lst ys) /\
   ((J.stop i H2 /\ Q (.ref D) H2) \/ (J.go i H2 /\ ∀ x H3,J.yld i H2 x H3 -> ∃ a u v,x = .ref a /\ SqT X.K H3 a [u,v] /\ tt (some u :: some v :: σ) H3 fun ok H4 => if ok = true then
     te (some u::some v::σ) H4 (fun y H5=>H5 D=some (.lst ys)/\ys.length<i8/\∃m',m'<m/\W (i+1) m' (ys++[y]) (upd H5 D (.lst (ys++[y]))))
     else ∃m',m'<m/\W (i+1) m' ys H4)))
  (hRR:∀D C s' H' m,Inv X pins σ H' s'->s'.heap.Ns C m->H' C=none->C≠X.env.locals->X.s₀.heap.objs.size<=C->(∀y c,X.env.cells.lookup y=some c->c≠C)->(∀p∈X.pn++pins,p.1≠C)->Q (.ref D) H'->RR (.ref D) C (.ok .next) s') :
  wpAny (model X.prog X.w) X.A (newList []) (fun acc s₃=>wpAny (model X.prog X.w) X.A (newFunctionEnv scope X.env.globals cl [] X.env.qual none .none (some X.env)) (fun cenv s₄=>
   a1r (model X.prog X.w) X.A (.compStart (.ListComp elt [⟨.Tuple [.Name x px,.Name x2 py2] kt pt,iter,ifs,0⟩] scope pos) 0 (.ref it) acc { cenv with scope:=a6F scope X.env }) (RR acc cenv.locals) s₄) E s₃) E s2:=by
 refine v0 (hd:=by size_fits) ?_
 have I3:=I.lnew (ys:=[]) (its:=[]) (t':=s2.toks) .nil (by show 0<=i8;exact E9 _)
 obtain⟨W,⟨m0,w0⟩,turn⟩:=h _ I.fresh
 generalize hD:s2.heap.objs.size=D at I3 w0 turn ⊢
 generalize hs3:({ s2 with heap:=s2.heap.push { cls:=.type "list",data:=.seq ([]:List Value).toArray } }:d4)=s3
 have hs3':({ s2 with heap:=s2.heap.push { cls:=.type "list",data:=.seq ([]:List Value).toArray },toks:=s2.toks }:d4)=s3:=hs3
 rw[hs3']at I3
 have keep3:∀b o,s2.heap.get? b=some o->s3.heap.get? b=some o:=fun b o e=>by rw[<-hs3];exact b8 _ e
 have fpl:∀b∈fp,b<s3.heap.objs.size:=fun b hb=>by
  obtain⟨o,e,_⟩:=T.obj _ _ st b hb
  exact d6 (keep3 b o e)
 have fpD:∀b∈fp,b≠D:=fun b hb z=>by
  obtain⟨o,e,_⟩:=T.obj _ _ st b hb
  exact absurd (d6 e) (by rw[z,hD];exact F7 _)
 have fpo3:∀b∈fp,a4P X pins (upd H1 D (.lst [])) b:=fun b hb=>⟨by rw[g6 (fpD b hb)];exact(fpo b hb).1,(fpo b hb).2⟩
 show wpAny _ _ _ _ _ s3
 refine c7l hc.cell (by intro y hy;simp at hy) (fun h₁ hns₁ hsb₁=>?_) hc.kind
 dsimp only[newEnv]at hns₁ hsb₁ ⊢
 have keep4:∀b o,s3.heap.get? b=some o->h₁.get? b=some o:=fun b o e=>hsb₁.extBut b o (j8 (d6 e)) (b8 _ e)
 have I4:=b7o (tk:=s3.toks+([]:List (Str×Value)).length) hc I3 hcl hcl2 fpo3 fpl hns₁ keep4
 have st4:tn 0 h₁:=T.keep _ _ _ st fun b hb o e=>keep4 b o (keep3 b o e)
 have loop:∀s₄:d4,s₄={ s3 with heap:=h₁,toks:=s3.toks+([]:List (Str×Value)).length } ->
   a1r (model X.prog X.w) X.A (.compLoop (.ListComp elt [⟨.Tuple [.Name x px,.Name x2 py2] kt pt,iter,ifs,0⟩] scope pos) 0 (.ref it) (.ref D) (b7M scope cl s3.heap.objs.size X.env)) (RR (.ref D) s3.heap.objs.size) s₄:=by
  rintro s₄ rfl
  have stat:∀ {H':Hp},(∀b∈fp,H' b=none)->∀b∈fp,a4P (Q4 X scope cl s3.heap.objs.size x x2 fp s3 (upd H1 D (.lst []))) [] H' b:=fun hn b hb=>
   ⟨hn b hb,j8 (fpl b hb),fun hf=>by
    rcases d8.mp (I3.stkSub b hf)with e | e
    ·exact(fpo b hb).2.1 e
    ·exact(fpo b hb).2.2.1 e,.inl hb,fun y c e=>(fpo b hb).2.2.2.2.1 y c (hcl y c e),fun p hp=>absurd (show p∈([]:List (Addr×Obj))from hp) (by simp)⟩
  refine b0q (env:=b7M scope cl s3.heap.objs.size X.env) (fun n s'=>∃i ys H',Inv (Q4 X scope cl s3.heap.objs.size x x2 fp s3 (upd H1 D (.lst []))) [] (none::none::σ) H' s'/\tn i s'.heap/\(∀b∈fp,H' b=none)/\W i n ys H') ?_ m0
   ⟨0,[],_,I4,st4,fun b hb=>(fpo3 b hb).1,w0⟩
  rintro n s5 ⟨i,ys,H5,I5,st5,fr5,w5⟩
  obtain⟨hDy,alt⟩:=turn i n ys H5 w5
  rcases alt with ⟨stop,q⟩ | ⟨go,step⟩
  ·refine V2 (T.done (Q4 X scope cl s3.heap.objs.size x x2 fp s3 (upd H1 D (.lst []))) rfl rfl rfl hcalm i [] s5 _ H5 (fun _ _=>False) I5 (stat fr5) st5 stop) (fun r s6 ⟨hr,I6⟩=>?_) fun _ _ f=>f
   subst hr
   obtain⟨m6,n6,_⟩:=I6.loc
   have J6:Inv X pins σ H5 s6:=by
    refine I3.call' (ch:=fp) I6.os I6.base I6.hok I6.bare fun b hb=>?_
    obtain⟨_,f1,f2,f3,f4,f5⟩:=fpo3 b hb
    exact⟨f3,f1,f4,f5⟩
   refine hRR D _ s6 H5 m6 J6 n6 I6.free (a9q I3.lt) I3.sz (fun y c e z=>?_) (fun p hp z=>?_) q
   ·obtain⟨v,q⟩:=I3.cell y c e
    exact absurd q.lt (by rw[z];exact F7 _)
   ·exact absurd (d6 (I3.pin p hp).1) (by rw[z];exact F7 _)
  ·refine V2 (T.item (Q4 X scope cl s3.heap.objs.size x x2 fp s3 (upd H1 D (.lst []))) rfl rfl rfl hcalm i [] s5 _ H5 (fun _ _=>False) I5 (stat fr5) st5 go) (fun r s6 ⟨u,hr,h6⟩=>?_) fun _ _ f=>f
   subst hr
   refine thn h6 fun _ s6 ⟨xv,H6,I6,r6,y6,st6,fr6⟩=>?_
   have I6':=I6.pinned (stat fr6) (T.obj _ _ st6)
   obtain⟨pa,u1,u2,rfl,hsq,step⟩:=step xv H6 y6
   have hpg:PG (Q4 X scope cl s3.heap.objs.size x x2 fp s3 (upd H1 D (.lst []))) (.Tuple [.Name x px,.Name x2 py2] kt pt) (a8X X.K 2 (a0u (o5 0) (a0u (o5 1) a8Y))):=
    b9q (X:=Q4 X scope cl s3.heap.objs.size x x2 fp s3 (upd H1 D (.lst []))) hcalm (a8D (b1f (i:=0) hc.nd rfl (.inl (a0S hc.own)) (.inr (a0S hc.own))) (a8D (b1f (i:=1) hc.nd rfl (.inl (a0S hc.own2)) (.inr (a0S hc.own2))) b5C))
   refine thn (hpg _ s6 (none::none::σ) H6 (.ref pa) u (fun σ' H'=>σ'=some u1::some u2::σ/\H'=H6) I6' r6 ⟨pa,[u1,u2],rfl,hsq,rfl,_,_,rfl,_,_,rfl,rfl,rfl,rfl⟩) fun _ s7 ⟨σ7,H7,I7,e7,e7'⟩=>?_
   subst e7 e7'
   have again:∀ {s8:d4} {H8:Hp} {ys8:List V},Inv (Q4 X scope cl s3.heap.objs.size x x2 fp s3 (upd H1 D (.lst []))) ([]++a5v fp s6.heap) (some u1::some u2::σ) H8 s8->(∃m',m'<n/\W (i+1) m' ys8 H8) ->
     ∃m,m<n/\∃i ys H',Inv (Q4 X scope cl s3.heap.objs.size x x2 fp s3 (upd H1 D (.lst []))) [] (none::none::σ) H' s8/\tn i s8.heap/\(∀b∈fp,H' b=none)/\W i m ys H':=by
    rintro s8 H8 ys8 I8 ⟨m',hm,w8⟩
    refine⟨m',hm,i+1,ys8,H8,(I8.unpinned (pins:=[])).weak rfl (fun j v e=>?_),T.keep _ _ _ st6 fun b hb o e=>(I8.pin (b,o) (o7 _ (o7 _ (a0U hb e)))).1,fun b hb=>?_,w8⟩
    ·cases j with
     | zero=>cases e
     | succ j=>
      cases j with
      | zero=>cases e
      | succ j=>exact e
    ·obtain⟨o,e,d⟩:=T.obj _ _ st6 b hb
     exact(I8.pin (b,o) (o7 _ (o7 _ (a0U hb e)))).2.1
   refine thn (ht _ fp s3 _ _ s7 _ _ _ I7 step) (fun ok s8 ⟨H8,I8,q8⟩=>?_)
   cases ok with
   | false=>exact again I8 (by simpa using q8)
   | true=>
    rw[if_pos rfl]at q8
    rw[if_pos rfl]
    refine thn (he _ fp s3 _ _ s8 _ H8 _ I8 q8) (fun v s9 ⟨y,H9,I9,r9,hD9,hz9,w9⟩=>?_)
    refine V2 (a6W (X:=Q4 X scope cl s3.heap.objs.size x x2 fp s3 (upd H1 D (.lst []))) _ s9 _ H9 (.ref D) [y] (.ref D) [v] (fun _ H'=>H'=upd H9 D (.lst (ys++[y]))) I9 rfl (.cons r9 .nil) ⟨D,ys,y,rfl,rfl,hD9,hz9,rfl⟩) (fun _ s10 ⟨_,H10,I10,_,e10⟩=>?_) fun _ _ f=>f
    subst e10
    exact again I10 w9
 exact c5R (loop _ rfl) (T.self X.A 0 _ _ _ st4 (loop _ rfl))
theorem b3i(hc:a3F X.N X.env.scope scope x x2)(I:Inv X pins σ H s):∀y∈scope.names,y.2=.free->∃c,X.env.cells.lookup y.1=some c:=by
 intro y hy e
 rcases hc.fr y hy e with q | q
 ·exact I.ok.has y.1 (.inl q)
 ·exact I.ok.has y.1 (.inr q)
theorem b9w{wi:TI}(hc:a3F X.N X.env.scope scope x x2)(hcalm:X.calm=true)(hi:PI X (.Tuple [.Name x px,.Name x2 py2] kt pt) iter wi)
  (ht:∀cl C fp s3 H3,PTs (Q4 X scope cl C x x2 fp s3 H3) ifs tt) (he:∀cl C fp s3 H3,PE (Q4 X scope cl C x x2 fp s3 H3) elt te)
  (hs:∀x,M5 iter X.env x=pure x:=by intro _;rfl) :
  PE X (.ListComp elt [⟨.Tuple [.Name x px,.Name x2 py2] kt pt,iter,ifs,0⟩] scope pos) (a8l X.K wi tt te):=by
 intro pins s σ H Q I h
 obtain⟨cl,hclos,hcl,hcl2⟩:=a5H (b3i hc I)
 rw[eval_ListComp]
 refine a5P (use:=none) rfl hs hclos hc.kind hc.names (thn (hi pins s σ H _ I h) fun v s1 h1=>thn h1 fun itv s2 ⟨it,fp,tn,J,H2,e,I2,T,st,fpo,R⟩=>?_)
 subst e
 refine b3j (RR:=fun acc C=>compPost (model X.prog X.w) X.A X.xe none (EP X pins σ Q) acc C) (Q:=Q) hc hcalm hcl hcl2 (ht cl) (he cl) I2 T st fpo R ?_
 intro D C s' H' m I' n f1 f2 f3 f4 f5 q
 exact⟨m,n,fun h' sb=>⟨.ref D,H',I'.turned (t':=s'.toks) (fun b o hb e=>(sb.2 b hb).trans e) f1 f2 (.inr f3) f4 f5,rfl,q⟩⟩
end
section
variable {x x2:Str}{px py2 pt:Pos}{kt:Nat}
end
section
def b9c:List V->Hp->VK->Prop:=fun xs H Q=>match xs with
 | [.int i,.int j]=>Q (.int (if j<i then j else i)) H
 | _=>False
theorem b7x(hc:X.calm=true):R8 X (.builtin "min") b9c:=(b7D hc).imp fun xs H Q h=>by
 unfold b9c at h
 split at h
 ·exact⟨_,_,rfl,h⟩
 ·exact h.elim
theorem b7E:∀bs:List Bool,((z5 bs.length).any fun i=>(bs[i]?).getD false)=bs.any id:=by
 intro bs
 induction bs with
 | nil=>rfl
 | cons b r ih=>
  rw[y8,List.range_succ_eq_map,a0x,b5Y,a0x]
  rw[<-ih]
  rfl
def b4t:List V->Hp->VK->Prop:=fun vs H Q=>match vs with
 | [.ref l]=>match H l with
  | some (.lst xs)=>∃bs,U5 xs=some bs/\Q (.bl (bs.any id)) H
  | _=>False
 | _=>False
theorem b7A(hc:X.calm=true):R8 X (.builtin "any") b4t:=fun pins s σ H xs us Q I r h=>by
 unfold b4t at h
 split at h
 ·split at h
  ·rename_i l _ ys hl
   obtain⟨bs,e,q⟩:=h
   obtain⟨u,rfl,ru⟩:=a2j r
   cases ru
   obtain⟨its,rv,pl,hz⟩:=I.list (SqL.of hl)
   have hlt:l<s.heap.objs.size:=by obtain⟨_,e,_⟩:=pl.isList;exact d6 e
   have hlen:=rv.length
   have hbl:=a7c e
   refine call_any_walk (a2A pl.isList ?_)
   refine⟨s.heap.objs.size,[s.heap.objs.size,l],[s.heap.objs.size],its.toArray.size,_,_,fun i=>(bs[i]?).getD false,rfl,Walks.list (A:=X.A.in1) (I.ok.hd hc) _ l (j8 hlt) its.toArray,
    ⟨⟨_,d7 _ rfl,rfl,rfl⟩,pl.isList.push _⟩,fun i v s' Q' E' hP hQ=>?_,fun h' tk hk=>?_⟩
   ·have hP:its[i]? = some v:=by simpa using hP
    have hi:i<ys.length:=by rw[hlen];exact(j6.mp hP).1
    have ey:ys[i]? = some ys[i]:=by simp[hi]
    obtain⟨b,eb,ez⟩:=a7d e ey
    obtain⟨u,eu,ru⟩:=rv.get ey
    rw[hP]at eu
    cases eu
    rw[ez]at ru
    cases ru
    simp only[eb,a3K]at hQ
    exact J8 hQ
   ·have e2:((z5 its.toArray.size).any fun i=>(bs[i]?).getD false)=bs.any id:=by
     rw[g7,<-hlen,hbl]
     exact b7E bs
    rw[e2]
    exact⟨.bl _,H,I.kept (t':=tk) fun b x e=>hk b x (fun hm=>by rw[c7.mp hm]at e;exact F7 _ (d6 e)) (b8 _ e),rfl,q⟩
  ·exact h.elim
 ·exact h.elim
def a1w:List V->Option (List Int)
 | []=>some []
 | .int i::r=>(a1w r).map (i :: ·)
 | _=>none
theorem a8U(ns:List Int):a1w (ns.map V.int)=some ns:=by
 induction ns with
 | nil=>rfl
 | cons s r ih=>simp[a1w,ih]
theorem a4o:∀ {xs:List V} {us:List Value} {ss:List Int},E6 xs us->a1w xs=some ss->c3v us ss
 | _,_,ss,.nil,e=>by cases e;exact .nil
 | x::xs,_,ss,.cons r t,e=>by
  cases x with
  | int s=>
   obtain⟨k,rfl⟩:=r
   cases e2:a1w xs with
   | none=>simp[a1w,e2]at e
   | some ss2=>
    simp[a1w,e2]at e
    subst e
    exact .cons _ _ (a4o t e2)
  | _=>simp[a1w]at e
def a4G:List V->Hp->VK->Prop:=fun vs H Q=>match vs with
 | [.ref l]=>match H l with
  | some (.lst xs)=>∃ns,a1w xs=some ns/\ns.length<64/\∀(p:Addr) (ms:List Int),ms.Perm ns->ms.Pairwise (· <= ·)->H p=none->Q (.ref p) (upd H p (.lst (ms.map V.int)))
  | _=>False
 | _=>False
theorem b1A:R8 X (.builtin "sorted") a4G:=fun pins s σ H xs us Q I r h=>by
 unfold a4G at h
 split at h
 ·split at h
  ·rename_i l _ ys hl
   obtain⟨ns,e,hn,q⟩:=h
   obtain⟨u,rfl,ru⟩:=a2j r
   cases ru
   obtain⟨its,rv,pl,hz⟩:=I.list (SqL.of hl)
   have hi:=a4o rv e
   have hil:=hi.length
   refine sorted_ints pl.isList hi (by omega) fun out ns' a1 a2 a3=>?_
   obtain⟨c,he⟩:=sortedAll_at s.heap its out
   have hl':=a2.length_eq
   refine⟨.ref _,_,I.laid (t':=s.toks) (a:=s.heap.objs.size+1) (o:=.lst (ns'.map V.int)) (fun b ob q=>sortedAll_old q) (W4 _) ?_,rfl,q _ ns' a2 a3 (I.hok.fresh (W4 _))⟩
   refine⟨by rw[a9,sizeLine_eq];omega,out.toList,c,a6G a1,?_⟩
   exact he
  ·exact h.elim
 ·exact h.elim
def a6P:V->List V->Hp->VK->Prop:=fun x vs H Q=>match x,vs with
 | .ref l,[.int k]=>match H l with
  | some (.lst xs)=>∃ns,a1w xs=some ns/\ns.length<10000/\k∈ns/\Q (.int (ns.idxOf k:Nat)) H
  | _=>False
 | _,_=>False
theorem b6X:MtR X "list.index" a6P:=fun pins s σ H x xs v us Q I rx rv h=>by
 unfold a6P at h
 split at h
 ·split at h
  ·rename_i l k _ ys hl
   obtain⟨ns,e,hn,hk,q⟩:=h
   cases rx
   obtain⟨u,rfl,⟨t,rfl⟩⟩:=rv.one
   obtain⟨its,r,pl,hz⟩:=I.list (SqL.of hl)
   have hi:=a4o r e
   obtain⟨⟨cls,dd,data,sl⟩,ho,hc,n,hd⟩:=id pl.isList
   simp only at hc hd
   subst hc hd
   have hlen:=hi.length
   have hj:ns.idxOf k<ns.length:=b3H.mpr hk
   refine c2R b1P ⟨_,ho,rfl⟩ PySem.F.entry_list_index (PySem.F.args_list_index_2 _ _)
    (PySem.SeqAt.list_indexAt l its.toArray n dd sl (.int k t) (isInt k) (ns.idxOf k) (by simpa[hlen]using hj) (by omega) ?_ ?_) ⟨ho,fun y hy=>(eq_isInt k t hi y (by simpa using hy)).at _ _,⟨.int _,H,I.tok _,⟨_,rfl⟩,q⟩⟩
   ·show isInt k its[ns.idxOf k]=true
    rw[isInt_at k hi _ (by omega) hj]
    simpa using List.getElem_idxOf hj
   ·intro j hjs hlt
    show isInt k its[j]=false
    rw[isInt_at k hi j (by simpa using hjs) (by omega)]
    exact ne_of_lt_idxOf hlt _
  ·exact h.elim
 ·exact h.elim
def a2t:V->List V->Hp->VK->Prop:=fun x vs H Q=>match x,vs with
 | .ref l,[.ref b]=>match H l,H b with
  | some (.lst xs),some (.lst zs)=>xs.length+zs.length<=i8/\Q .non (upd H l (.lst (xs++zs)))
  | _,_=>False
 | _,_=>False
theorem b4J:MtR X "list.extend" a2t:=fun pins s σ H x xs v us Q I rx rv h=>by
 refine b6Y pins s σ H x xs v us Q I rx rv ?_
 unfold a2t at h
 split at h
 ·split at h
  ·exact⟨_,_,_,_,rfl,rfl,by assumption,by assumption,h.1,h.2⟩
  ·exact h.elim
 ·exact h.elim
def b6H:V->List V->Hp->VK->Prop:=fun x vs H Q=>match x,vs with
 | .ref l,[]=>match H l with
  | some (.lst xs)=>∃y,xs[xs.length - 1]? = some y/\Q y (upd H l (.lst xs.dropLast))
  | _=>False
 | _,_=>False
theorem c2g:MtR X "list.pop" b6H:=fun pins s σ H x xs v us Q I rx rv h=>by
 refine c5d pins s σ H x xs v us Q I rx rv ?_
 unfold b6H at h
 split at h
 ·split at h
  ·obtain⟨y,e,q⟩:=h
   exact⟨_,_,y,rfl,rfl,by assumption,e,q⟩
  ·exact h.elim
 ·exact h.elim
def a3q:List V->Hp->VK->Prop:=fun xs H Q=>match xs with
 | [.ref p]=>match H p with
  | some (.dK kvs)=>∀l,H l=none->Q (.ref l) (upd H l (.lst (kvs.map fun kv=>kV kv.1)))
  | _=>False
 | _=>False
theorem c6U{P:u4}{k:Key}(r:(Q2 P w).is k u=true):C7 (kV k) u:=by
 rcases Q6 (show a8S k u=true from r)with ⟨i,t,rfl,rfl⟩ | ⟨x,t,rfl,rfl⟩
 ·exact⟨t,rfl⟩
 ·exact⟨t,rfl⟩
theorem b0J:∀ {xs:List V} {us:List Value},xs.length=us.length->(∀(i:Nat) x u,xs[i]? = some x->us[i]? = some u->C7 x u)->E6 xs us
 | [],[],_,_=>.nil
 | x::xs,u::us,hl,h=>.cons (h 0 x u rfl rfl) (b0J (by simpa using hl) fun i y v a b=>h (i+1) y v (by simpa using a) (by simpa using b))
 | [],u::us,hl,_=>by cases hl
 | x::xs,[],hl,_=>by cases hl
theorem c3p:∀ {l:List (Key×V)} {la:List (Key×Value)} {i:Nat} {k:Key} {x:Value},KV l la->la[i]? = some (k,x)->∃y,l[i]? = some (k,y)
 | p::l,q::la,0,k,x,h,e=>by
  have h:Paired _ _ _:=h
  cases h with
  | cons h t=>
   cases e
   exact⟨p.2,by rw[a3S];rw[show k=p.1 from h.1.symm]⟩
 | p::l,q::la,i+1,k,x,h,e=>by
  have h:Paired _ _ _:=h
  cases h with
  | cons h t => 
   obtain⟨y,hy⟩:=c3p (i:=i) (show KV l la from t) (by simpa using e)
   exact⟨y,by simpa using hy⟩
 | [],la,i,k,x,h,e=>by
  have h:Paired _ _ _:=h
  cases h
  cases e
 | p::l,[],i,k,x,h,e=>by
  have h:Paired _ _ _:=h
  cases h
theorem b3u(hc:X.calm=true):R8 X (.type "list") a3q:=fun pins s σ H xs us Q I r h=>by
 unfold a3q at h
 split at h
 ·split at h
  ·rename_i p _ kvs hp
   obtain⟨u,rfl,ru⟩:=a2j r
   cases ru
   obtain⟨hz,hS,vs,rk,hD⟩:=c0h I.hok hp
   obtain⟨ep,hat⟩:=hD.dictAt
   have hl:=Paired.length rk
   refine c0x (PySem.W.kdl_dict (knd:=Q2 X.prog X.w) (kvs:=vs) (ep:=ep) hS) (I.ok.hd hc) hat (by omega) fun h' tk acc c hk ha hit=>?_
   refine⟨.ref _,_,I.laid (t':=tk) (a:=s.heap.objs.size) (o:=.lst (kvs.map fun kv=>kV kv.1)) hk (d3 _) ?_,rfl,h _ (I.hok.fresh (d3 _))⟩
   refine⟨by rw[a9];exact hz,acc.toList,c,?_,by simpa using ha⟩
   refine b0J (by have:=hit.1;rw[a9];simp;omega) fun i x u a b=>?_
   obtain⟨k,y,e1,e2⟩:=hit.2 i u (by rw[<-C2];exact b)
   obtain⟨z,e3⟩:=c3p rk e1
   rw[b7,e3]at a
   cases a
   exact c6U e2
  ·exact h.elim
 ·exact h.elim
inductive Dq(K:Fg)(H:Hp):Nat->V->V->Prop
 | flat {n:Nat} {x:V}:L9 x=true->Dq K H n x x
 | tup {n:Nat} {a b:Addr} {xs ys:List V}:SqT K H a xs->SqT K H b ys->xs.length=ys.length->(∀(j:Nat) x y,xs[j]? = some x->ys[j]? = some y->Dq K H n x y)->Dq K H (n+1) (.ref a) (.ref b)
 | lst {n:Nat} {a b:Addr} {xs ys:List V}:SqL K H a xs->SqL K H b ys->xs.length=ys.length->(∀(j:Nat) x y,xs[j]? = some x->ys[j]? = some y->Dq K H n x y)->Dq K H (n+1) (.ref a) (.ref b)
theorem c0c{x:V}(h:L9 x=true):eqV x x=true:=by
 cases x with
 | non=>rfl
 | bl b=>simp[eqV]
 | int i=>simp[eqV]
 | str s=>simp[eqV]
 | byt b=>cases h
 | flt b=>cases h
 | ref a=>cases h
 | ty n=>cases h
theorem a6v{n:Nat}:(z5 n).all (fun _=>true)=true:=by simp
theorem Dq.both(I:Inv X pins σ H s){n:Nat}{x y:V}(d:Dq X.K H n x y):∀ {A:F2} {v u:Value},A.units+n<cLine->C7 x v->C7 y u ->
  SeqAt.EqAt A s v u true/\(∀a b,x=.ref a->y=.ref b->SeqAt.RcAt A s v u true/\SeqAt.RcNeAt A s v u false):=by
 induction d with
 | @flat n x hf=>
  intro A v u hu rv ru
  refine⟨?_,fun a b e=>by subst e;cases hf⟩
  have:=b4Y (A:=A) (s:=s) rv ru hf hf
  rwa [c0c hf]at this
 | @tup n a b xs ys ha hb hl hq ih=>
  intro A v u hu rv ru
  cases rv
  cases ru
  obtain⟨us,r1,t1,_⟩:=I.tuple ha
  obtain⟨ws,r2,t2,_⟩:=I.tuple hb
  have l1:=r1.length
  have l2:=r2.length
  have el:∀j (h1:j<us.toArray.size) (h2:j<ws.toArray.size),SeqAt.EqAt A.in1 s us.toArray[j] ws.toArray[j] true:=by
   intro j h1 h2
   have h1':j<xs.length:=by simpa[l1]using h1
   have h2':j<ys.length:=by simpa[l2]using h2
   obtain⟨u1,e1,q1⟩:=r1.get (i:=j) (x:=xs[j]) (by simp)
   obtain⟨u2,e2,q2⟩:=r2.get (i:=j) (x:=ys[j]) (by simp)
   have z1:us.toArray[j]=u1:=by
    have:=(j6.mp e1).2
    simpa using this
   have z2:ws.toArray[j]=u2:=by
    have:=(j6.mp e2).2
    simpa using this
   rw[z1,z2]
   exact(ih j _ _ (by simp) (by simp) (A:=A.in1) (by show A.units+1+n<cLine;omega) q1 q2).1
  have c1:SeqAt.RcAt A s (.ref a) (.ref b) true:=by
   have q:=SeqAt.RcAt.tuples (A:=A) (e:=fun _=>true) t1 t2 (by omega) el
   have e:us.toArray.size=ws.toArray.size:=by simp[<-l1,<-l2,hl]
   rw[a6v,e,beq_self_eq_true]at q
   exact q
  have c2:SeqAt.RcNeAt A s (.ref a) (.ref b) false:=by
   have q:=SeqAt.RcNeAt.tuples (A:=A) (e:=fun _=>true) t1 t2 (by omega) el
   have e:us.toArray.size=ws.toArray.size:=by simp[<-l1,<-l2,hl]
   rw[a6v,e,beq_self_eq_true]at q
   exact q
  refine⟨?_,fun _ _ _ _=>⟨c1,c2⟩⟩
  by_cases e:a=b
  ·subst e;exact SeqAt.EqAt.same _
  ·exact SeqAt.EqAt.of_refs e c1
 | @lst n a b xs ys ha hb hl hq ih=>
  intro A v u hu rv ru
  cases rv
  cases ru
  obtain⟨us,r1,t1,_⟩:=I.list ha
  obtain⟨ws,r2,t2,_⟩:=I.list hb
  have l1:=r1.length
  have l2:=r2.length
  have el:∀j (h1:j<us.toArray.size) (h2:j<ws.toArray.size),SeqAt.EqAt A.in1 s us.toArray[j] ws.toArray[j] true:=by
   intro j h1 h2
   have h1':j<xs.length:=by simpa[l1]using h1
   have h2':j<ys.length:=by simpa[l2]using h2
   obtain⟨u1,e1,q1⟩:=r1.get (i:=j) (x:=xs[j]) (by simp)
   obtain⟨u2,e2,q2⟩:=r2.get (i:=j) (x:=ys[j]) (by simp)
   have z1:us.toArray[j]=u1:=by
    have:=(j6.mp e1).2
    simpa using this
   have z2:ws.toArray[j]=u2:=by
    have:=(j6.mp e2).2
    simpa using this
   rw[z1,z2]
   exact(ih j _ _ (by simp) (by simp) (A:=A.in1) (by show A.units+1+n<cLine;omega) q1 q2).1
  have e:us.toArray.size=ws.toArray.size:=by simp[<-l1,<-l2,hl]
  have c1:SeqAt.RcAt A s (.ref a) (.ref b) true:=by
   have q:=SeqAt.RcAt.lists (A:=A) (e:=fun _=>true) t1.isList t2.isList e (by omega) el
   rw[a6v]at q
   exact q
  have c2:SeqAt.RcNeAt A s (.ref a) (.ref b) false:=by
   have q:=SeqAt.RcNeAt.lists (A:=A) (e:=fun _=>true) t1.isList t2.isList e (by omega) el
   rw[a6v]at q
   exact q
  refine⟨?_,fun _ _ _ _=>⟨c1,c2⟩⟩
  by_cases e:a=b
  ·subst e;exact SeqAt.EqAt.same _
  ·exact SeqAt.EqAt.of_refs e c1
def c1j(K:Fg):R2:=fun x y H Q=>∃a b n,x=.ref a/\y=.ref b/\n<=20/\Dq K H n x y/\Q (.bl false) H
theorem c1O{k:Nat}(hr:O9 k X.A):OpR X (o9 .NotEq) (c1j X.K):=by
 intro pins s σ H x y v u Q I rx ry ⟨a,b,n,e1,e2,hn,d,q⟩
 have hu:=hr.units
 exact((d.both I (A:=X.A) (by omega) rx ry).2 a b e1 e2).2 _ _ _ _ ⟨.bl false,H,I,rfl,q⟩
def c4g(K:Fg):R2:=fun x y H Q=>∃a b xs ys,x=.ref a/\y=.ref b/\SqT K H a xs/\SqT K H b ys/\xs.all L9=true/\ys.all L9=true/\Q (.bl (Q3 xs ys)) H
theorem c1S{k:Nat}(hr:O9 k X.A):OpR X (o9 .Eq) (c4g X.K):=by
 intro pins s σ H x y v u Q I rx ry ⟨a,b,xs,ys,e1,e2,ha,hb,fx,fy,q⟩
 have hu:=hr.units
 subst e1 e2
 cases rx
 cases ry
 obtain⟨us,r1,t1,_⟩:=I.tuple ha
 obtain⟨ws,r2,t2,_⟩:=I.tuple hb
 have l1:=r1.length
 have l2:=r2.length
 have q1:=SeqAt.RcAt.tuples (A:=X.A) t1 t2 (by omega) (a4I r1 r2 fx fy)
 simp only[g7,<-l1,<-l2]at q1
 exact q1 _ _ _ _ ⟨.bl (Q3 xs ys),H,I,rfl,q⟩
def c4f(K:Fg):R2:=fun x y H Q=>∃p xs,y=.ref p/\SqT K H p xs/\L9 x=true/\xs.all L9=true/\Q (.bl (inV x xs)) H
theorem c1R:OpR X (o9 .In) (c4f X.K):=b0j.imp fun x y H Q ⟨p,xs,e,h1,h2,h3,q⟩=>⟨p,xs,e,.inr h1,h2,h3,q⟩
theorem b9k{e c:Option Expr}:PS X (.Raise e c pos) (fun _ _ _=>False):=fun _ _ _ _ _ _ h=>h.elim
structure b3z(P:u4)(w:World)(K:Fg)(mg:Str->Option Value)(base:Heap)(k:Nat)(x:Str)(C:Addr)(ps:List Str)(sp:Sp):Prop where
 ex:∃f fd,K6 P w K mg base CX0 k f fd ps sp/\mg x=some (.ref C)/\Mk K C f/\a3b K fd ps []
theorem c6G{k:Nat}{x:Str}{C:Addr}{e:Expr}{es:List Expr}{t:TA}{p:Pos}(M:b3z X.prog X.w X.K X.mg X.base k x C ps sp)(hr:O9 j X.A)(hk:k+1<=j)(hg:Gl X x)(ha:PA X (e::es) t)
  (hdb:(x == ("__debug__" : Str))=false:=by decide) (he:d9 (e::es) X.env=(false,eval e X.env)::d9 es X.env:=by rfl) (hpl:(W7 pos (d9 es X.env)).any (·.1)=false:=by rfl) :
  PE X (.Call (.Name x p) (e::es) [] pos) (b0a C sp [] E0 t):=by
 obtain⟨f,fd,F,hm,hM,hb⟩:=M.ex
 exact c1E hM F (hr.mono hk) hg hm hb .nil b5D ha hdb he hpl
structure a3E(P:u4)(w:World)(K:Fg)(mg:Str->Option Value)(base:Heap)(k:Nat)(m:Str)(C:Addr)(ps:List Str)(sp:Sp):Prop where
 ex:∃f fd,K6 P w K mg base CX0 k f fd ps sp/\Cls K C/\c2H K C m f/\a3b K fd ps []
theorem c4A{pl:Sem Bool}{k:Nat}{m:Str}{C:Addr}{o e:Expr}{es:List Expr}{ta:TE}{t:TA}{apos:Pos}(M:a3E X.prog X.w X.K X.mg X.base k m C ps sp)(hr:O9 j X.A)(hk:k<=j)(ho:PE X o ta)(ha:PA X (e::es) t)
  (hst:d9 (e::es) X.env=(false,eval e X.env)::d9 es X.env:=by rfl) (hpl:(W7 pos (d9 es X.env)).any (·.1)=false:=by rfl)
  (ht:eval (.Call (.Attribute o m apos) (e::es) [] pos) X.env=(do
   let ov <-eval o X.env
   a7T apos.atName
   let(f,first) <-a0A [ov] (a5Q ov m pl)
   b7N pos f first (W7 pos (d9 (e::es) X.env)) (a4W pos (a0z [] X.env))):=by rfl) :
  PE X (.Call (.Attribute o m apos) (e::es) [] pos) (a6a C m sp [] E0 ta t):=by
 obtain⟨f,fd,F,c,hm,hb⟩:=M.ex
 exact c1D (pl:=pl) ho c hm F (hr.mono hk) hb .nil b5D ha hst hpl ht
theorem c1C{pl:Sem Bool}{k:Nat}{m:Str}{C:Addr}{o:Expr}{ta:TE}{apos:Pos}(M:a3E X.prog X.w X.K X.mg X.base k m C ps sp)(hr:O9 j X.A)(hk:k<=j)(ho:PE X o ta)
  (ht:eval (.Call (.Attribute o m apos) [] [] pos) X.env=(do
   let ov <-eval o X.env
   a7T apos.atName
   let(f,first) <-a0A [ov] (a5Q ov m pl)
   b7N pos f first (W7 pos (d9 [] X.env)) (a4W pos (a0z [] X.env))):=by rfl) :
  PE X (.Call (.Attribute o m apos) [] [] pos) (a6a C m sp [] E0 ta g0):=by
 obtain⟨f,fd,F,c,hm,hb⟩:=M.ex
 exact b9s (pl:=pl) ho c hm F (hr.mono hk) hb .nil b5D ht
end
theorem a6k{env:Env}:∀ {names:List (Str×a4X)} {y:Str},names.lookup y=some .free ->
  (names.map fun(n,k)=>if(k == NameKind.free&&env.scope.kind == .function&&env.kindOf n == some .cell)then (n,NameKind.cell)else (n,k)).lookup y=some .cell \/
  (names.map fun(n,k)=>if(k == NameKind.free&&env.scope.kind == .function&&env.kindOf n == some .cell)then (n,NameKind.cell)else (n,k)).lookup y=some .free
 | [],_,h=>by cases h
 | (n,k0)::r,y,h=>by
  have ih := @a6k env r y
  rw[E3]at h
  rw[F6]
  dsimp only
  cases hx:y == n with
  | true=>
   rw[hx]at h
   cases h
   by_cases hc:(NameKind.free == NameKind.free&&env.scope.kind == .function&&env.kindOf n == some .cell)=true
   ·rw[if_pos hc,E3,hx];exact .inl rfl
   ·rw[if_neg hc,E3,hx];exact .inr rfl
  | false=>
   rw[hx]at h
   by_cases hc:(k0 == NameKind.free&&env.scope.kind == .function&&env.kindOf n == some .cell)=true
   ·rw[if_pos hc,E3,hx];exact ih h
   ·rw[if_neg hc,E3,hx];exact ih h
theorem b5M{sc1 sc:Scope}(h:∀y∈sc.names,y.2=.free->sc1.names.lookup y.1=some .free):∀y∈sc.names,y.2=.free->(a6F sc1 env).names.lookup y.1=some .cell\/(a6F sc1 env).names.lookup y.1=some .free:=
 fun y hy e=>a6k (h y hy e)
end L2
namespace PySem
open Sem (wp)
namespace F
theorem lk_list_keys:c2Q (.type "list") "keys" = pure none:=by rw[typeLookup_type,a2N];kernel_rfl
theorem lk_list_getattr:c2Q (.type "list") "__getattr__" = pure none:=by rw[typeLookup_type,a2N];kernel_rfl
end F
section
variable {prog:u4}{w:World}{A:F2}{E:Value->d4->Prop}{h:Heap}{g:Array GenState}{d:Drawn}{t:Nat}{os:OsState}{a:Addr}{xs:Array Value}{n:Nat}{sl:Array (Option Value)}
theorem keys_entry_list{tk:Tok}{Q:Fin->d4->Prop}(hh:A.handled=none)(hx:h.get? a=some ⟨.type "list",none,.seq xs n,sl⟩)(he:∀h' t' e,Heap.NewAttrErr h h' e (.ref a) "keys" -> E (.ref e) ⟨h',g,d,t',os⟩) :
  wpAny (model prog w) A (a0b.«object.__getattribute__» ⟨[.ref a,.str "keys" tk],[]⟩) Q E ⟨h,g,d,t,os⟩:=by
 have hT:(⟨h,g,d,t,os⟩:d4).TypeIs (.ref a) "list" := ⟨_,hx,rfl⟩
 have f4:=F.lk_list_keys
 have f5:=F.lk_list_getattr
 repeat (any_goals (first | assumption | wp_step))
 exact wpAny_raiseAttrError hh he (attrMsg_fits (by decide +kernel) (by decide +kernel))
theorem keys_call_list{tk:Tok}{R:b1V->d4->Prop}(hh:A.handled=none)(hx:h.get? a=some ⟨.type "list",none,.seq xs n,sl⟩)(he:∀h' t' e,Heap.NewAttrErr h h' e (.ref a) "keys" -> R (.error (.ref e)) ⟨h',g,d,t',os⟩) :
  a1r (model prog w) A (.call (.builtin "list.__getattribute__") ⟨[.ref a,.str "keys" tk],[]⟩) R ⟨h,g,d,t,os⟩:=
 codeAny_call_builtin F.slot_list_getattribute.plain F.entry_list_ga (F.slot_list_getattribute.check _ _ _ _ _ _ _ _ (show(⟨h,g,d,t,os⟩:d4).TypeIs (.ref a) "list" from⟨_,hx,rfl⟩) (F.args_list_getattribute_2 _ _) (keys_entry_list hh hx he))
theorem keys_attr_list{Q:Option Value->d4->Prop}(hh:A.handled=none)(hx:h.get? a=some ⟨.type "list",none,.seq xs n,sl⟩)(hq:∀h' t',(∀b ob,h.get? b=some ob->h'.get? b=some ob)->Q none ⟨h',g,d,t',os⟩) :
  wpAny (model prog w) A (getAttr? (.ref a) "keys") Q E ⟨h,g,d,t,os⟩:=by
 have hT:(⟨h,g,d,t,os⟩:d4).TypeIs (.ref a) "list" := ⟨_,hx,rfl⟩
 have f2:=F.slot_list_getattribute.lookup
 have f3:=F.slot_list_getattribute.bind (.ref a)
 unfold getAttr? getAttrBy?
 repeat (any_goals (first | assumption | wp_step))
 refine keys_call_list hh hx fun h' t' e ne=>?_
 obtain⟨t'',u',he⟩:=ne.there
 have f1:=sub_AttributeError
 have f5:=F.lk_list_getattr
 show wpAny _ _ (getattributeRaised _ _ _ _ _ _ _) _ _ _
 unfold getattributeRaised
 repeat (any_goals (first | assumption | wp_step))
 exact hq _ _ ne.keeps
end
end PySem
namespace PySem
open Sem (wp)
namespace F
theorem entry_update_loop:entryFor table "dict.update.loop" = some a0b.«dict.update.loop» := entryFor_of_tree (by kernel_rfl)
theorem plain_update_loop:plainId "dict.update.loop" = true:=by decide +kernel
end F
section
variable {prog:u4}{w:World}{K:Type}[DecidableEq K]{knd:KeyKind prog w K}{A:F2}{s:d4}{R:b1V->d4->Prop}
def prsF(ps:List (K×Value)):List (K×Value):=ps.foldl (fun m p=>c5V m p.1 p.2) []
theorem prsF_snoc(ps:List (K×Value))(p:K×Value):prsF (ps++[p])=c5V (prsF ps) p.1 p.2:=by unfold prsF;rw[c2M];rfl
theorem update_loop{d I l:Addr}{items:Array Value}{ps:List (K×Value)}(hh:A.handled=none)(hdI:d≠I)(hld:l≠d)(hlI:l≠I)(hn:items.size=ps.length)(hsz:ps.length<=i8)(res:Value){h₁:Heap}(hl:h₁.IsList l items)
  (hp:∀(i:Nat) k v,ps[i]? = some (k,v)->∃p key n dd ss,items[i]? = some (.ref p)/\h₁.get? p=some ⟨.type "tuple",dd,.seq #[key,v] n,ss⟩/\knd.is k key=true/\p≠d/\p≠I)
  (hsl:∀qs:List (K×Value),qs.length<=ps.length->(prsF qs).length<=i8)
  (hR:∀h' tk,(∀b o,b≠d->b≠I->h₁.get? b=some o->h'.get? b=some o)->h'.DictOf knd d (prsF ps)->R (.ok (.ret res)) { s with heap:=h',toks:=tk }) :
  ∀(k i:Nat) (h:Heap) (tk:Nat) (u:Tok),ps.length - i=k->i<=ps.length->h.IsListIter I l i->h.DictOf knd d (prsF (ps.take i))->(∀b o,b≠d->b≠I->h₁.get? b=some o->h.get? b=some o) ->
   a1r (model prog w) A (.builtin "dict.update.loop" ⟨[.ref d,.ref I,.int (i:Int) u,res],[]⟩) R { s with heap:=h,toks:=tk }:=by
 intro k
 induction k with
 | zero=>
  intro i h tk u hk hi hit hD hkeep
  have hin:i=ps.length:=by omega
  subst hin
  obtain⟨ol,hol,hcl,nl,hdl⟩:=id hl
  have hl':h.IsList l items:=⟨ol,hkeep _ _ hld hlI hol,hcl,nl,hdl⟩
  refine Y3 F.entry_update_loop ?_
  rw[Around.under_plainId F.plain_update_loop _]
  show wpAny _ A.in1 (a1j (.ref I) >>= _) _ _ _
  refine a8 (c5S (s:={ s with heap:=h,toks:=tk }) (A:=A.in1) hh hit hl' (by simp[hn]) fun h' he=>?_)
  refine a8 (b6 (b6 (hR h' tk (fun b o h1 h2 e=>he b o h2 (hkeep b o h1 h2 e)) ?_)))
  rw[F5]at hD
  exact hD.extBut he hdI
 | succ k ih=>
  intro i h tk u hk hi hit hD hkeep
  have hlt:i<ps.length:=by omega
  obtain⟨⟨kk,x⟩,hx⟩:∃p,ps[i]? = some p:=⟨ps[i],c8 hlt⟩
  obtain⟨p,key,n,dd,ss,e1,e2,e3,e4,e5⟩:=hp i kk x hx
  obtain⟨ol,hol,hcl,nl,hdl⟩:=id hl
  have hl':h.IsList l items:=⟨ol,hkeep _ _ hld hlI hol,hcl,nl,hdl⟩
  refine Y3 F.entry_update_loop ?_
  rw[Around.under_plainId F.plain_update_loop _]
  show wpAny _ A.in1 (a1j (.ref I) >>= _) _ _ _
  refine a8 (c5P (s:={ s with heap:=h,toks:=tk }) (A:=A.in1) hit hl' e1 fun h' hit' sb=>?_)
  have e2':h'.get? p=some ⟨.type "tuple",dd,.seq #[key,x] n,ss⟩:=(sb.2 p e5).trans (hkeep _ _ e4 e5 e2)
  refine a8 ?_
  refine L5 (a8 ?_)
  refine wpAny_tryCatch ?_
  unfold Builtin.Dict.pairItems
  refine a8 (a7R (show({ s with heap:=h',toks:=tk }:d4).TypeIs (.ref p) "tuple" from⟨_,e2',rfl⟩) ?_)
  rw[if_pos (by decide)]
  refine a8 (wpAny_seqItems e2' rfl (b6 ?_))
  have hD':h'.DictOf knd d (prsF (ps.take i)):=hD.sameBut sb hdI
  show wpAny _ _ (a0A [key,x] (dictSet d key x)) _ _ _
  refine L5 (wpAny_dictSet_pairs (s:={ s with heap:=h',toks:=tk }) e3 hD' (fun h'' hD'' sb2=>?_) (hsl _ (by rw[C9];omega)))
  refine b6 ⟨a1K F.plain_update_loop _,?_⟩
  have tk1:ps.take (i+1)=ps.take i++[(kk,x)]:=by rw[G5,hx];rfl
  refine ih (i+1) h'' _ _ (by omega) hlt ?_ ?_ fun b o h1 h2 e=>?_
  ·obtain⟨oi,g1,g2,g3⟩:=hit'
   exact⟨oi,(sb2.2 I (Ne.symm hdI)).trans g1,g2,g3⟩
  ·rw[tk1,prsF_snoc]
   exact hD''
  ·exact(sb2.2 b h1).trans ((sb.2 b h2).trans (hkeep b o h1 h2 e))
end
section
variable {prog:u4}{w:World}{K:Type}[DecidableEq K]{knd:KeyKind prog w K}{A:F2}{E:Value->d4->Prop}{s:d4}
theorem call_dict_pairs{l:Addr}{items:Array Value}{n:Nat}{sl:Array (Option Value)}{ps:List (K×Value)}{Q:Value->d4->Prop}(hh:A.handled=none)(hl:s.heap.get? l=some ⟨.type "list",none,.seq items n,sl⟩)(hn:items.size=ps.length)(hsz:ps.length<=i8)
  (hp:∀(i:Nat) k v,ps[i]? = some (k,v)->∃p key n dd ss,items[i]? = some (.ref p)/\s.heap.get? p=some ⟨.type "tuple",dd,.seq #[key,v] n,ss⟩/\knd.is k key=true)
  (hsl:∀qs:List (K×Value),qs.length<=ps.length->(prsF qs).length<=i8)
  (h:∀h' tk,(∀b o,s.heap.get? b=some o->h'.get? b=some o)->h'.DictOf knd s.heap.objs.size (prsF ps)->Q (.ref s.heap.objs.size) { s with heap:=h',toks:=tk }) :
  wpAny (model prog w) A (call (.type "dict") [.ref l]) Q E s:=by
 refine callType_codes (Q₁:=fun obj s₁=>obj=.ref s.heap.objs.size/\s₁={ s with heap:=s.heap.push { cls:=.type "dict",data:=.dict #[] } }) F.kt_called_dict (F.kt_typeCall_dict_1 _) F.entry_dict_init (kt_code_dict_new _ ⟨rfl,rfl⟩) ?_
 rintro obj s₁ ⟨rfl,rfl⟩
 have hnew:(s.heap.push { cls:=.type "dict",data:=.dict #[] }).DictOf knd s.heap.objs.size []:=b6a s.heap
 have hl1:(s.heap.push { cls:=.type "dict",data:=.dict #[] }).get? l=some ⟨.type "list",none,.seq items n,sl⟩:=b8 _ hl
 refine⟨hnew.typeIs,F.args_dict_init_2 _ _,?_⟩
 unfold a0b.«dict.__init__»
 refine a8 ?_
 unfold Builtin.Dict.selfAndRest
 refine a8 (a2L hnew.typeIs ?_)
 show wpAny _ _ (pure (s.heap.objs.size,[Value.ref l])) _ _ _
 refine b6 ?_
 show wpAny _ _ (Builtin.Dict.updateFrom "dict.__init__" s.heap.objs.size (.ref l) [] .none) _ _ _
 unfold Builtin.Dict.updateFrom
 refine a8 (a7R (show({ s with heap:=s.heap.push { cls:=.type "dict",data:=.dict #[] } }:d4).TypeIs (.ref l) "list" from⟨_,hl1,rfl⟩) ?_)
 rw[if_pos (by decide)]
 refine a8 (keys_attr_list (A:=A.in1.in1) hh hl1 fun h2 t2 k2=>?_)
 rw[if_pos (show(none:Option Value).isNone=true from rfl)]
 refine a8 (wpAny_rule ?_)
 have hl2:h2.IsList l items:=⟨_,k2 _ _ hl1,rfl,n,rfl⟩
 refine a8 (a2A (s:={ s with heap:=h2,toks:=t2 }) hl2 ?_)
 have hdlt:s.heap.objs.size<h2.objs.size:=by
  obtain⟨o,es,ep,ho,_⟩:=hnew
  exact d6 (k2 _ _ ho)
 have up:∀b o,s.heap.get? b=some o->h2.get? b=some o:=fun b o e=>k2 _ _ (b8 _ e)
 have ne1:∀b o,s.heap.get? b=some o->b≠s.heap.objs.size/\b≠h2.objs.size:=fun b o e=>⟨j8 (d6 e),j8 (d6 (up b o e))⟩
 refine b6 ⟨a1K F.plain_update_loop _,?_⟩
 have hD2:(h2.push { cls:=.type "list_iterator",data:=.fields #[.ref l,.int 0 0] }).DictOf knd s.heap.objs.size []:=by
  obtain⟨o,es,ep,ho,r⟩:=hnew
  exact⟨o,es,ep,b8 _ (k2 _ _ ho),r⟩
 refine update_loop (s:=s) (A:=A.in1) (knd:=knd) (d:=s.heap.objs.size) (I:=h2.objs.size) (ps:=ps) hh (j8 hdlt) (ne1 l _ hl).1 (ne1 l _ hl).2 hn hsz .none (h₁:=h2.push { cls:=.type "list_iterator",data:=.fields #[.ref l,.int 0 0] }) ?_ (fun i k v e=>?_) hsl (fun h' tk kp hd=>⟨rfl,h h' tk (fun b o e=>kp b o (ne1 b o e).1 (ne1 b o e).2 (b8 _ (up _ _ e))) hd⟩) ps.length 0 _ _ _ (by omega) (E9 _) ⟨_,d7 _ rfl,rfl,rfl⟩ hD2 fun b o _ _ e=>e
 ·exact⟨_,b8 _ (up _ _ hl),rfl,n,rfl⟩
 ·obtain⟨p,key,m,dd,ss,a1,a2,a3⟩:=hp i k v e
  exact⟨p,key,m,dd,ss,a1,b8 _ (up _ _ a2),a3,(ne1 p _ a2).1,(ne1 p _ a2).2⟩
end
end PySem
namespace L2
open PySem PySem.Spec PyProof.Rows
variable{X:Cx}
section
def b4s:List V->Hp->VK->Prop:=fun xs H Q=>∃a vs kvs,xs=[.ref a]/\H a=some (.lst vs)/\vs.length=(kvs:List (Key×V)).length /\
 (∀(i:Nat) k x,kvs[i]? = some (k,x)->∃p,vs[i]? = some (.ref p)/\H p=some (.tup [kV k,x]))/\(kvs.map (·.1)).Nodup/\∀p,H p=none->Q (.ref p) (upd H p (.dK kvs))
theorem b9m{K:Type}[DecidableEq K](ps:List (K×Value)):(prsF ps).length<=ps.length:=by
 have:∀(ps m:List (K×Value)),(ps.foldl (fun m p=>c5V m p.1 p.2) m).length<=m.length+ps.length:=by
  intro ps
  induction ps with
  | nil=>intro m;simp
  | cons p ps ih=>
   intro m
   have h1:=ih (c5V m p.1 p.2)
   have h2:=stored_length_le m p.1 p.2
   simp only[List.foldl_cons,y8]
   omega
 have:=this ps []
 simpa[prsF]using this
theorem b2E{P:u4}{w:World}{H:Hp}{h:Heap}(ok:HOk P w H h):∀(kvs:List (Key×V)) (vs:List V) (its:List Value),vs.length=kvs.length->(∀(i:Nat) k x,kvs[i]? = some (k,x)->∃p,vs[i]? = some (.ref p)/\H p=some (.tup [kV k,x]))->E6 vs its ->
  ∃ps:List (Key×Value),KV kvs ps/\∀(i:Nat) k v,ps[i]? = some (k,v)->∃p key n dd ss,its[i]? = some (.ref p)/\h.get? p=some ⟨.type "tuple",dd,.seq #[key,v] n,ss⟩/\(Q2 P w).is k key=true
 | [],_,_,_,_,_=>⟨[],.nil,fun i k v e=>by simp at e⟩
 | (k,x)::kvs,[],_,l,_,_=>by cases l
 | (k,x)::kvs,v::vs,its,l,hp,rv=>by
  cases rv with
  | cons r0 rv=>
   rename_i u its
   obtain⟨p,e1,e2⟩:=hp 0 k x rfl
   cases e1
   cases r0
   obtain⟨ps,q1,q2⟩:=b2E ok kvs vs its (by simpa using l) (fun i k x e=>hp (i+1) k x e) rv
   obtain⟨_,js,rj,o,g1,g2,n,g3⟩:=(show Q7 P w H h p (.tup [kV k,x])from ok p _ e2)
   obtain⟨u1,u2,rfl,r1,r2⟩:=b8q rj
   refine⟨(k,u2)::ps,.cons ⟨rfl,r2⟩ q1,fun i k' v' e=>?_⟩
   cases i with
   | zero=>
    cases e
    refine⟨p,u1,n,o.dict,o.slots,rfl,?_,a8T r1⟩
    rw[g1]
    cases o
    cases g2
    cases g3
    rfl
   | succ i=>exact q2 i k' v' e
theorem b3v(hc:X.calm=true):R8 X (.type "dict") b4s:=fun pins s σ H xs us Q I r h=>by
 obtain⟨a,vs,kvs,rfl,hl,hn,hp,nd,q⟩:=h
 obtain⟨u,rfl,ru⟩:=a2j r
 cases ru
 obtain⟨hz,its,n,rv,hg⟩:=(show Q7 X.prog X.w H s.heap a (.lst vs)from I.hok a _ hl)
 have li:=Paired.length rv
 obtain⟨ps,rel,hps⟩:=b2E I.hok kvs vs its hn hp rv
 have hpl:=rel.length
 have hnd:(ps.map (·.1)).Nodup:=by rw[<-rel.keys];exact nd
 refine call_dict_pairs (knd:=Q2 X.prog X.w) (ps:=ps) (I.ok.hd hc) hg (by simp;omega) (by omega) (fun i k v e=>by
  obtain⟨p,key,m,dd,ss,a1,a2,a3⟩:=hps i k v e
  exact⟨p,key,m,dd,ss,by simpa using a1,a2,a3⟩) (fun qs hq=>A1 (b9m qs) (by omega)) fun h' tk kp dd=>?_
 have e:prsF ps=ps:=merged_nil_of_nodup ps hnd
 rw[e]at dd
 exact⟨.ref s.heap.objs.size,_,I.laid (a:=s.heap.objs.size) (o:=.dK kvs) (t':=tk) (fun b o hb=>kp b o hb) (d3 _) (b4Z (by omega) (beq_eq_false_iff_ne.mpr (Ne.symm (j8 I.big))) rel dd),rfl,q _ (I.hok.fresh (d3 _))⟩
end
section
variable {tg:Expr}
end
section
def a5a(H:Hp)(xs:List V)(b:Addr):Bool:=match H b with
 | some (.tup zs)=>Q3 zs xs
 | _=>false
def c4e(neg:Bool):R2:=fun x y H Q=>∃a p xs bs,x=.ref a/\y=.ref p/\H a=some (.tup xs)/\xs.all L9=true/\H p=some (.lst ((bs:List Addr).map V.ref)) /\
 (∀b∈bs,∃zs,H b=some (.tup zs)/\zs.all L9=true)/\Q (.bl (if neg then !(bs.any (a5a H xs))else bs.any (a5a H xs))) H
theorem b4T(xs:List V)(h:xs.all L9=true):Q3 xs xs=true:=by
 unfold Q3
 rw[a9r,beq_self_eq_true,b3K,E4]
 intro j hj
 have hl:j<xs.length:=by simpa using hj
 have e:xs.getD j .non=xs[j]:=by simp[M9,hl]
 rw[e]
 have f:=E4.mp h _ (y9 hl)
 cases q:xs[j] with
 | non=>rfl
 | bl b=>simp[eqV]
 | int i=>simp[eqV]
 | str s=>simp[eqV]
 | byt b=>rw[q]at f;cases f
 | flt b=>rw[q]at f;cases f
 | ref a=>rw[q]at f;cases f
 | ty n=>rw[q]at f;cases f
theorem b5w:∀ {bs:List Addr} {its:List Value},E6 (bs.map V.ref) its->its=bs.map Value.ref
 | [],_,.nil=>rfl
 | b::bs,_,.cons r t=>by
  cases r
  rw[b5w t];rfl
theorem b9W{pins:List (Addr×Obj)}{s:d4}{σ:St}{H:Hp}{a:Addr}{xs:List V}{bs:List Addr}(I:Inv X pins σ H s)(hu:X.A.in1.units<cLine)(ha:H a=some (.tup xs))(fx:xs.all L9=true)(hb:∀b∈bs,∃zs,H b=some (.tup zs)/\zs.all L9=true) :
  ∃f:Value->Bool,(∀w∈bs.map Value.ref,SeqAt.EqAt X.A.in1 s w (.ref a) (f w))/\(bs.map Value.ref).any f=bs.any (a5a H xs):=by
 refine⟨fun w=>match w with | .ref b=>a5a H xs b | _=>false,fun w hw=>?_,by rw[b5Y];rfl⟩
 obtain⟨b,hbm,rfl⟩:=q9.mp hw
 obtain⟨zs,hz,fz⟩:=hb b hbm
 have e:a5a H xs b=Q3 zs xs:=by unfold a5a;rw[hz]
 show SeqAt.EqAt X.A.in1 s (.ref b) (.ref a) (a5a H xs b)
 rw[e]
 by_cases q:b=a
 ·subst q
  rw[ha]at hz
  cases hz
  rw[b4T _ fx]
  exact SeqAt.EqAt.same _
 ·refine SeqAt.EqAt.of_refs q ?_
  obtain⟨us,r1,t1,_⟩:=I.tuple (SqT.of hz)
  obtain⟨ws,r2,t2,_⟩:=I.tuple (SqT.of ha)
  have l1:=r1.length
  have l2:=r2.length
  have q1:=SeqAt.RcAt.tuples (A:=X.A.in1) t1 t2 hu (a4I r1 r2 fz fx)
  simp only[g7,<-l1,<-l2]at q1
  exact q1
theorem b9F(hu:X.A.in1.units<cLine):OpR X (o9 .NotIn) (c4e true):=by
 intro pins s σ H x y v u Q I rx ry h
 obtain⟨a,p,xs,bs,rfl,rfl,ha,fx,hp,hb,q⟩:=h
 cases rx
 cases ry
 obtain⟨its,r,pl,hz⟩:=I.list (SqL.of hp)
 obtain rfl:=b5w r
 obtain⟨f,f1,f2⟩:=b9W I hu ha fx hb
 refine SeqAt.notIn_listAt f pl.isList (fun w hw=>f1 w (by simpa using hw)) ⟨.bl _,H,I,rfl,?_⟩
 rw[show(bs.map Value.ref).toArray.any f=(bs.map Value.ref).any f by simp,f2]
 exact q
end
section
end
structure IsC(K:Fg)(C:Addr):Prop where
 cl:Cls K C
 ha:C0 K (.ref C) "__class__" = some (some (.builtin "object.__class__"))
 hn:a7g K (.builtin "object.__class__") "__get__" = some (some (.builtin "getset_descriptor.__get__"))
 htk:c0C K (.builtin "object.__class__")=some true
 hm:c3q K C (.type "object")=some true
section
variable {P:u4}{w:World}{K:Type}[DecidableEq K]{knd:HeapKind P w K}{A:F2}{E:Value->d4->Prop}{s:d4}
end
section
theorem b9S{H:Hp}:∀ {l:List (List Key×V)} {m:List (List Key×Addr×Value)} {i:Nat} {k:List Key} {p:Addr} {v:Value},KT H l m->m[i]? = some (k,p,v)->∃y,l[i]? = some (k,y)/\C7 y v/\H p=some (.tup (k.map kV))
 | c::l,d::m,0,k,p,v,h,e=>by
  have h:Paired _ _ _:=h
  cases h with
  | cons h t=>
   obtain⟨h1,h2,h3⟩:=h
   cases e
   have h1:c.1=k:=h1
   rw[h1]at h2
   exact⟨c.2,by rw[a3S,<-h1],h3,h2⟩
 | c::l,d::m,i+1,k,p,v,h,e=>by
  have h:Paired _ _ _:=h
  cases h with
  | cons h t=>exact b9S (i:=i) (show KT H l m from t) e
 | [],m,i,k,p,v,h,e=>by
  have h:Paired _ _ _:=h
  cases h
  cases e
 | c::l,[],i,k,p,v,h,e=>by
  have h:Paired _ _ _:=h
  cases h
end
end L2
namespace PySem
open Sem (wp)
section
variable {prog:u4}{w:World}{A:F2}{E:Value->d4->Prop}{s:d4}
def Raw(h:Heap)(d:Addr)(es:Array Y4)(ep:Nat):Prop:=∃o,h.get? d=some o/\o.ExactDict/\o.data=.dict es ep
theorem Raw.at{h h':Heap}{d:Addr}{es:Array Y4}{ep:Nat}(x:Raw h d es ep)(e:∀o,h.get? d=some o->h'.get? d=some o):Raw h' d es ep:=let⟨o,h1,r⟩:=x; ⟨o,e _ h1,r⟩
theorem Raw.typeIs{d:Addr}{es:Array Y4}{ep:Nat}(x:Raw s.heap d es ep):s.TypeIs (.ref d) "dict" := let⟨o,h1,h2,_⟩:=x; ⟨o,h1,h2.1⟩
theorem iter_raw{d:Addr}{es:Array Y4}{ep:Nat}{Q:Value->d4->Prop}(hd:(d == V4)=false)(hm:Raw s.heap d es ep)
  (hQ:Q (.ref s.heap.objs.size) { s with heap:=s.heap.push { cls:=.type "dict_keyiterator",data:=.fields #[.ref d,.int 0 0,.int es.size 0,.int ep 0] } }):wpAny (model prog w) A (pyIter (.ref d)) Q E s:=by
 have hT:=hm.typeIs
 obtain⟨o,ho,hc,hdat⟩:=id hm
 refine wpAny_pyIter_slot hT F.slot_dict_iter (E7 F.slot_dict_iter hT F.entry_dict_iter ?_ (F.args_dict_iter_1 _))
 unfold a0b.«dict.__iter__» Builtin.Dict.dictSlotNone
 refine a8 (a8 (a2L hT (b6 ?_)))
 show wpAny _ _ (Builtin.Dict.showsAll d >>= _) _ _ s
 unfold Builtin.Dict.showsAll
 simp only[hd,U1,if_false]
 refine a8 (b6 (a8 (V3 ho hdat (a8 (a1I ho hdat (a8 (v0 (b6 ⟨_,rfl,"dict_keyiterator",_,⟨_,d7 _ rfl,rfl⟩,F.slot_dict_keyiterator_next.lookup,?_⟩))))))))
 simpa[rawInt]using hQ
theorem next_raw{it d:Addr}{i ep:Nat}{es:Array Y4}{Q:Option Value->d4->Prop}(hit:s.heap.IsKeyIter it d i es.size ep)(hm:Raw s.heap d es ep)(hi:i<es.size)
  (hQ:∀h',h'.IsKeyIter it d (i+1) es.size ep->Heap.SameBut it s.heap h'->Q (some es[i].key) { s with heap:=h' }):wpAny (model prog w) A (a1j (.ref it)) Q E s:=by
 have hT:=hit.typeIs
 obtain⟨o,ho,hc,hd⟩:=id hit
 obtain⟨od,hod,_,hdd⟩:=hm
 have own:Builtin.Dict_items.ownsTuple "dict_keyiterator" = false:=by decide
 unfold a1j
 refine a8 (wpAny_attempt (D6 (name:=Str.ofString "__next__") hT F.slot_dict_keyiterator_next (E7 F.slot_dict_keyiterator_next hT F.entry_dict_keyiterator_next ?_ (F.args_dict_keyiterator_next_1 _))))
 refine a8 (b6 (a8 (a8 (a8 (a0e hT (b6 (a8 (wpAny_fieldsOf ho hd ?_))))))))
 simp only[own,U1,if_false]
 show wpAny _ _ (if(Value.ref d == Value.none)=true then _ else _) _ _ s
 have nn:¬(Value.ref d == Value.none)=true:=(j5:¬false=true)
 rw[if_neg nn]
 refine a8 (b6 (a8 (V3 hod hdd ?_)))
 rw[if_neg (by simp)]
 refine a8 (b6 (a8 (a1I hod hdd ?_)))
 rw[if_neg (by simp)]
 refine b6 ?_
 simp only[show ¬((i:Int)<0) by omega,if_false,i9,u7 hi]
 refine a8 (a8 (a0e hT (b6 (a8 (c5U hT ?_)))))
 show wpAny _ _ (setField (.ref it) 1 (rawInt ((i:Int)+1)) >>= _) _ _ s
 refine a8 (wpAny_setField ho hd (by simp) ?_)
 have hit':(s.heap.update it (Obj.mapFields (·.setIfInBounds 1 (rawInt ((i:Int)+1))))).IsKeyIter it d (i+1) es.size ep:=
  ⟨_,G0 _ ho (Obj.isFreed_of_fields (Obj.data_mapFields hd _)),(Obj.cls_mapFields ..).trans hc,by rw[Obj.data_mapFields hd];simp[rawInt]⟩
 refine a8 (L5 (a8 (c5U (s:={ s with heap:=s.heap.update it (Obj.mapFields (·.setIfInBounds 1 (rawInt ((i:Int)+1)))) }) hit'.typeIs ?_)))
 show wpAny _ _ (pure es[i].key) _ _ _
 exact b6 (b6 ⟨_,rfl,b6 (hQ _ hit' (z7 ..))⟩)
theorem end_raw{it d:Addr}{i ep:Nat}{es:Array Y4}{Q:Option Value->d4->Prop}(hh:A.handled=none)(hit:s.heap.IsKeyIter it d i es.size ep)(hm:Raw s.heap d es ep)(hi:es.size<=i)
  (hQ:∀h',Heap.ExtBut it s.heap h'->Q none { s with heap:=h' }):wpAny (model prog w) A (a1j (.ref it)) Q E s:=by
 have hT:=hit.typeIs
 obtain⟨o,ho,hc,hd⟩:=id hit
 obtain⟨od,hod,_,hdd⟩:=hm
 have own:Builtin.Dict_items.ownsTuple "dict_keyiterator" = false:=by decide
 unfold a1j
 refine a8 (wpAny_attempt (D6 (name:=Str.ofString "__next__") hT F.slot_dict_keyiterator_next (E7 F.slot_dict_keyiterator_next hT F.entry_dict_keyiterator_next ?_ (F.args_dict_keyiterator_next_1 _))))
 refine a8 (b6 (a8 (a8 (a8 (a0e hT (b6 (a8 (wpAny_fieldsOf ho hd ?_))))))))
 simp only[own,U1,if_false]
 show wpAny _ _ (if(Value.ref d == Value.none)=true then _ else _) _ _ s
 have nn:¬(Value.ref d == Value.none)=true:=(j5:¬false=true)
 rw[if_neg nn]
 refine a8 (b6 (a8 (V3 hod hdd ?_)))
 rw[if_neg (by simp)]
 refine a8 (b6 (a8 (a1I hod hdd ?_)))
 rw[if_neg (by simp)]
 refine b6 ?_
 simp only[show ¬((i:Int)<0) by omega,if_false,i9,X6 hi]
 refine a8 (a8 (a0e hT (b6 ?_)))
 show wpAny _ _ (setField (.ref it) 0 .none >>= _) _ _ s
 refine a8 (wpAny_setField ho hd (by simp) ?_)
 refine a8 ?_
 simp only[newExc,newTuple]
 refine a8 (v0 ?_ (by size_fits))
 refine a8 (m:=firstArgMember _ _) (wpAny_of_eq (a:=Value.none) (by simp only[firstArgMember];rfl) (v0 ?_ (by size_fits)))
 simp only[raiseNew]
 refine a8 (wpAny_handled ?_)
 rw[show A.in1.handled=none from hh]
 refine a8 (b6 (wpAny_throw ?_))
 refine a8 (wpAny_isInstance (T := "StopIteration") (b:=true) (show Shared.TypeIs _ (.ref _) _ from⟨_,d7 _ rfl,rfl⟩) isSubtype_stop (b6 (hQ _ ?_)))
 exact((z7 ..).extBut.push _).push _
end
end PySem
namespace L2
open PySem PySem.Spec PyProof.Rows
section
variable {X:Cx}
def a1o(H:Hp)(bs:List Addr)(ks:List (List Key)):Prop:=bs.length=ks.length/\∀(i:Nat) b k,bs[i]? = some b->ks[i]? = some k->H b=some (.tup (k.map kV))
theorem c2n{H:Hp}{kvs:List (List Key×V)}{xs:List (List Key×Addr×Value)}(r:KT H kvs xs):a1o H (xs.map (·.2.1)) (kvs.map (·.1)):=by
 have hl:=Paired.length r
 refine⟨by rw[a9,a9,hl],fun i b k e1 e2=>?_⟩
 rw[b7]at e1 e2
 obtain⟨⟨k',p,v⟩,f1,g1⟩:=j4.mp e1
 obtain⟨⟨k2,y⟩,f2,g2⟩:=j4.mp e2
 obtain⟨y',f3,_,f4⟩:=b9S r f1
 rw[f2]at f3
 cases f3
 cases g1
 cases g2
 exact f4
theorem c3Y{P:u4}{w:World}{H:Hp}{h:Heap}{a:Addr}{kvs:List (List Key×V)}(ok:HOk P w H h)(e:H a=some (.dT kvs)):(a == V4)=false/\∃es ep xs,Raw h a es ep/\KT H kvs xs/\es.size=xs.length/\∀(i:Nat) en,es[i]? = some en->∃x,xs[i]? = some x/\en.key=.ref x.2.1:=by
 obtain⟨_,hd,xs,r,o,es,ep,h1,h2,h3,h4,_⟩:=c0f ok e
 refine⟨hd,es,ep,xs,⟨o,h1,h2,h3⟩,r,size_of_entries h4,fun i en he=>?_⟩
 rw[<-C2,h4,b7]at he
 obtain⟨x,hx,rfl⟩:=j4.mp he
 exact⟨x,hx,rfl⟩
end
end L2
namespace PySem
open Sem (wp)
section
variable {prog:u4}{w:World}{K:Type}[DecidableEq K]{knd:HeapKind prog w K}{A:F2}{s:d4}{R:b1V->d4->Prop}
end
section
variable {prog:u4}{w:World}{K:Type}[DecidableEq K]{knd:HeapKind prog w K}{A:F2}{E:Value->d4->Prop}{s:d4}
end
end PySem
namespace L2
open PySem PySem.Spec PyProof.Rows
variable{X:Cx}{pins:List (Addr×Obj)}{σ:St}{H:Hp}{s:d4}{I a z:Addr}{o oz:Obj}{w:World}{ep i n:Nat}{h:Heap}{ks:List Str}{es:Array (Int×Value)}{Q:Value->d4->Prop}
section
end
section
theorem Inv.thaw{kvs:List (List Key×V)}(I:Inv X pins σ H s)(e:H a=some (.frz o (.dT kvs)))(nf:∀o u,X.H₀ a≠some (.frz o u)):Inv X pins σ (upd H a (.dT kvs)) s:=by
 have no:∀b,H b=none->(upd H a (.dT kvs)) b=none:=fun b q=>by rw[g6 (d5 e q).symm];exact q
 refine⟨I.ok,I.os,I.bare,⟨I.base.keep,I.base.slot,fun b o q n x=>no b (I.base.free b o q n x),I.base.there,fun b xs q=>?_,fun b o u q=>?_,fun b ps q=>?_⟩,I.loc,I.cell,no _ I.free,fun x c q=>no _ (I.freeC x c q),fun p hp=>?_,fun b u q=>?_,I.len⟩
 ·have:=I.base.tups b xs q
  rw[g6 (L1 this e (by intro z;cases z))];exact this
 ·have:b≠a:=fun z=>nf o u (z ▸ q)
  rw[g6 this];exact I.base.frzs b o u q
 ·obtain⟨m,r⟩:=I.base.tbls b ps q
  exact⟨m,by rw[g6 (L1 r e (by intro z;cases z))];exact r⟩
 ·obtain⟨h1,h2,r⟩:=I.pin p hp
  exact⟨h1,no _ h2,r⟩
 ·have st:∀ {c:Addr} {v:HO},Q7 X.prog X.w H s.heap c v->Q7 X.prog X.w (upd H a (.dT kvs)) s.heap c v:=fun {c v} x=>x.stay (fun _ _ _ r=>r) (fun d r=>by rw[g6 (L1 r e (by intro z;cases z))];exact r) fun d xs r=>by rw[g6 (L1 r e (by intro z;cases z))];exact r
  by_cases hb:b=a
  ·subst hb
   rw[c9]at q
   cases q
   exact st (I.hok b _ e).2
  ·rw[g6 hb]at q
   exact st (I.hok b u q)
def Itf(ob:Obj)(a:Addr)(kvs:List (List Key×V))(bs:List Addr):It:=
 ⟨fun i H=>i<bs.length/\H a=some (.frz ob (.dT kvs)),fun i H x H'=>H'=H/\∃b,bs[i]? = some b/\x=.ref b,fun i H=>bs.length<=i/\H a=some (.frz ob (.dT kvs))⟩
def b4R(P:Addr->Prop)(ta:TE):TI:=fun σ H R=>ta σ H fun x H1=>∃a kvs,x=.ref a/\H1 a=some (.dT kvs)/\(P a->∀ob bs,a1o H1 bs (kvs.map (·.1))->R (Itf ob a kvs bs) (upd H1 a (.frz ob (.dT kvs))))
theorem b6r{P:u4}{K:Fg}{tg:Expr}{ob:Obj}{it:Addr}{kvs:List (List Key×V)}{bs:List Addr}{es:Array Y4}(h2:ob.ExactDict)(h3:ob.data=.dict es ep)(hl:es.size=bs.length)(hk:∀(i:Nat) en,es[i]? = some en->∃b,bs[i]? = some b/\en.key=.ref b) :
  b1I P w K tg (Itf ob a kvs bs) [it] it (fun i h=>h.IsKeyIter it a i es.size ep) where
 mem:=by simp
 obj:=fun i h st b hb=>by
  have e:b=it:=by simpa using hb
  subst e
  obtain⟨o,e,c,d⟩:=st
  exact⟨o,e,fun v z=>by rw[d]at z;cases z⟩
 keep:=fun i h h' st k=>st.at fun o e=>k it (by simp) o e
 item:=by
  intro X hP hw hK hc i pins s σ H E I hf st hg
  subst hP hw hK
  obtain⟨hi,e⟩:=hg
  obtain⟨f0,f1,f2,f3,f4,f5⟩:=hf it (by simp)
  have hr:Raw s.heap a es ep:=⟨ob,(I.hok a _ e).1,h2,h3⟩
  have hi':i<es.size:=by omega
  obtain⟨b,hb,kb⟩:=hk i es[i] (u7 hi')
  refine next_raw st hr hi' fun h' st' sb=>?_
  have I1:Inv X pins σ H { s with heap:=h' }:=I.turned (t':=s.toks) (fun b o hb e=>(sb.2 b hb).trans e) f0 f1 f3 f4 f5
  obtain⟨o,e,c,d⟩:=id st'
  exact⟨_,rfl,b5L (s:={ s with heap:=h' }) e c d (by decide) ⟨.ref b,H,I1,kb,⟨rfl,b,hb,rfl⟩,st',fun b hb=>(hf b hb).1⟩⟩
 done:=by
  intro X hP hw hK hc i pins s σ H E I hf st hg
  subst hP hw hK
  obtain⟨hi,e⟩:=hg
  obtain⟨f0,f1,f2,f3,f4,f5⟩:=hf it (by simp)
  exact end_raw (I.ok.hd hc) st ⟨ob,(I.hok a _ e).1,h2,h3⟩ (by omega) fun h' eb=>⟨rfl,I.turned (t':=s.toks) (fun b o hb e=>eb b o hb e) f0 f1 f3 f4 f5⟩
 self:=fun _ _ _ _ _ st h=>wpAny_pyIter_keyiter st h
theorem b9p{tg l:Expr}{tl:TE}(hl:PE X l tl):PI X tg l (b4R (fun a=>∀o u,X.H₀ a≠some (.frz o u)) tl):=by
 intro pins s σ H R I h
 refine thn (hl pins s σ H _ I h) fun v s1 ⟨x,H1,I1,r1,q1⟩=>?_
 obtain⟨a,kvs,e,hq,q⟩:=q1
 subst e
 cases r1
 obtain⟨hd,es,ep,xs,⟨ob,o1,o2,o3⟩,rk,hs,hk⟩:=c3Y I1.hok hq
 have nf:∀o u,X.H₀ a≠some (.frz o u):=fun o u z=>by
  have:=I1.base.frzs a o u z
  rw[hq]at this
  cases this
 refine iter_raw hd ⟨ob,o1,o2,o3⟩ ?_
 have nt:∀d ys,H1 d=some (.tup ys)->(upd H1 a (.frz ob (.dT kvs))) d=some (.tup ys):=fun d ys r=>by rw[g6 (L1 r hq (by intro z;cases z))];exact r
 have I2:Inv X pins σ (upd H1 a (.frz ob (.dT kvs))) s1:=I1.write (x:=a) (e:=a) (h':=s1.heap) (t':=s1.toks) (by rw[hq];exact True.intro) (.inl rfl) (fun _ _ _ e=>e) ⟨ob,o1⟩
  ⟨o1,(I1.hok a _ hq).stay (fun _ _ _ r=>r) (fun d r=>by rw[g6 (L1 r hq (by intro z;cases z))];exact r) nt⟩
 refine⟨s1.heap.objs.size,[s1.heap.objs.size],_,_,_,rfl,I2.kept (t':=s1.toks) fun b o e=>b8 _ e,b6r (es:=es) (ep:=ep) o2 o3 (by rw[a9];exact hs) (fun i en he=>?_),⟨_,d7 _ rfl,rfl,rfl⟩,fun b hb=>?_,q nf ob (xs.map (·.2.1)) (c2n rk)⟩
 ·obtain⟨x,hx,kx⟩:=hk i en he
  exact⟨x.2.1,by rw[b7,hx];rfl,kx⟩
 ·have e:b=s1.heap.objs.size:=by simpa using hb
  subst e
  exact I2.fpOk (d3 _) (I2.hok.fresh (d3 _))
def b8C(ta:TE)(g:TG)(tb:TS):TS:=fun D σ H=>∀P:Addr->Prop,a1k (b4R P ta) g tb { D with nx:=fun σ H=>∃a o kvs,H a=some (.frz o (.dT kvs))/\P a/\D.nx σ (upd H a (.dT kvs)) } σ H
theorem c1t{tg iter:Expr}{body:List Stmt}{tl:TE}{g:TG}{tb:TS}{pos:Pos}(hp:b1W (model X.prog X.w) X.A X.env X.xe)(hc:X.calm=true)(hl:PE X iter tl)(hg:PG X tg g)(hb:PSs X body tb)
  (hs:∀x,M5 iter X.env x=pure x:=by intro _;rfl):PS X (.For tg iter body [] pos) (b8C tl g tb):=by
 intro pins s σ H D I h
 refine thn (b9l hp hc (b9p hl) hg hb hs pins s σ H _ I (h _)) fun f s' hf=>?_
 cases f with
 | next=>
  obtain⟨σ',H',I',a,o,kvs,e,nf,q⟩:=hf
  exact⟨σ',_,I'.thaw e nf,q⟩
 | brk=>exact hf
 | cont=>exact hf
 | ret u=>exact hf
end
abbrev XE:=List Key×Addr×V
section
variable {b:Addr}{xs:List XE}{k:List Key}
end
section
variable {i o:Expr}{ti to:TE}
end
section
end
section
end
section
theorem a4z:∀ {us:List Value} {ss:List Str},StrsAre us ss->E6 (ss.map V.str) us
 | _,_,.nil=>.nil
 | _,_,.cons _ _ h=>.cons ⟨_,rfl⟩ (a4z h)
def b4o:List V->Hp->VK->Prop:=fun vs H Q=>∃l ss,vs=[.ref l]/\H l=some (.lst (ss.map V.str))/\ss.length<64/\∀(p:Addr) (ts:List Str),ts.Perm ss->H p=none->Q (.ref p) (upd H p (.lst (ts.map V.str)))
theorem b3r:R8 X (.builtin "sorted") b4o:=fun pins s σ H xs us Q I r h=>by
 obtain⟨l,ss,rfl,hl,hn,q⟩:=h
 obtain⟨u,rfl,ru⟩:=a2j r
 cases ru
 obtain⟨its,rv,pl,hz⟩:=I.list (SqL.of hl)
 have hi:=a3g rv (a5n ss)
 have hil:=rv.length
 rw[a9]at hil
 refine sorted_strs pl.isList hi (by omega) fun out ts a1 a2 a3=>?_
 obtain⟨c,he⟩:=sortedAll_at s.heap its out
 have hl':=a2.length_eq
 have hv:=a4z a1
 refine⟨.ref _,_,I.laid (t':=s.toks) (a:=s.heap.objs.size+1) (o:=.lst (ts.map V.str)) (fun b ob q=>sortedAll_old q) (W4 _) ?_,rfl,q _ ts a2 (I.hok.fresh (W4 _))⟩
 refine⟨by rw[a9,sizeLine_eq];omega,out.toList,c,hv,?_⟩
 exact he
end
section
variable {P:u4}{A:F2}{E:Value->d4->Prop}
abbrev bt(w:World):Bool:=w.params.followText "set-order"
structure Stx(P:u4)(w:World)(ks:List Str)(es:Array (Int×Value))(t:SetTable):Prop where
 el:ElemsOf (strKind P w) es.toList
 ks:(es.toList.map fun e=>strOf e.2).Perm ks
 sz:es.size<scanBound
 fit:t.fits es.size=true
 led:t.led = !bt w
 pl:es.size≠0->t.plain=false
def a3D(P:u4)(w:World)(h:Heap)(a:Addr)(ks:List Str):Prop:=∃o es ep t,h.get? a=some o/\o.ExactSet/\o.data=.set es ep t/\Stx P w ks es t
theorem a3D.stay{h':Heap}(x:a3D P w h a ks)(k:∀o,h.get? a=some o->h'.get? a=some o):a3D P w h' a ks:=
 let⟨o,es,ep,t,e,r⟩:=x
 ⟨o,es,ep,t,k _ e,r⟩
theorem c2m{t:SetTable}{h:Int}{x:Value}:(layNew t es h x).2.1.led=t.led/\(t.plain=false->(layNew t es h x).2.1.plain=false):=by
 unfold layNew
 split
 ·dsimp only
  unfold SetTable.orStandIn
  split
  ·exact⟨rfl,id⟩
  ·exact⟨rfl,fun _=>rfl⟩
 ·exact⟨rfl,fun _=>rfl⟩
theorem b6F{t:SetTable}:(relayAll t es n).2.1.led=t.led/\(t.plain=false->(relayAll t es n).2.1.plain=false):=by
 unfold relayAll
 split
 ·rename_i t' order e
  unfold SetTable.relaid SetTable.laid at e
  obtain⟨ow,_,e⟩:=Option.bind_eq_some_iff.mp e
  cases e
  dsimp only
  split
  ·exact⟨rfl,id⟩
  ·exact⟨rfl,fun _=>rfl⟩
 ·exact⟨rfl,fun _=>rfl⟩
theorem b3Y{k:Str}{v:Value}(h:(strKind P w).is k v=true):∃t,v=.str k t:=by
 cases v with
 | str y t=>
  have e:decide (y=k)=true:=h
  exact⟨t,by rw[of_decide_eq_true e]⟩
 | _=>cases h
theorem b5n{es':Array (Int×Value)}{t t':SetTable}(ho:h.get? a=some o)(hx:o.ExactSet)(hd:o.data=.set es ep t)(r:Stx P w ks es' t') :
  (h.update a (Obj.putSet es' t')).get? a=some { o with data:=.set es' (ep+1) t' }/\a3D P w (h.update a (Obj.putSet es' t')) a ks:=by
 have e:(h.update a (Obj.putSet es' t')).get? a=some { o with data:=.set es' (ep+1) t' }:=by
  rw[<-putSet_of es' t' hd]
  exact G0 _ ho (by rw[putSet_of es' t' hd];rfl)
 exact⟨e,_,es',ep+1,t',e,hx,rfl,r⟩
theorem b0g{g:Bool->Sem Unit}(hg:∀(b:Bool) (s1:d4) (R:Unit->d4->Prop),R () s1->wpAny (model P w) A (g b) R E s1){es1:Array (Int×Value)}{t t2:SetTable}{dm:Bool}{R:Option Bool->d4->Prop}
  (ho:s.heap.get? a=some o) (hx:o.ExactSet) (hd:o.data=.set es ep t) (r:Stx P w ks es1 t2) (hp:t2.plain=false) (k:∀h',Heap.SameBut a s.heap h'->a3D P w h' a ks->R (some true) { s with heap:=h' }) :
  wpAny (model P w) A (do
    storeSet a es1 t2
    if (!dm && t2.tooFull) = true then do
        g (relayAll t2 es1 (SetTable.grown es1.size)).2.2
        storeSet a (relayAll t2 es1 (SetTable.grown es1.size)).1 (relayAll t2 es1 (SetTable.grown es1.size)).2.1
        pure (some true)
     else pure (some true)) R E s:=by
 refine a8 (wpAny_storeSet_of ho hd ?_ (fits_of_scanBound r.sz))
 obtain⟨o1,S1⟩:=b5n ho hx hd r
 have b1:=z7 s.heap a (Obj.putSet es1 t2)
 split
 ·have pm:=relayAll_perm t2 es1 (SetTable.grown es1.size)
  have ft:=relayAll_fits t2 es1 (SetTable.grown es1.size)
  have ld:=b6F (t:=t2) (es:=es1) (n:=SetTable.grown es1.size)
  generalize relayAll t2 es1 (SetTable.grown es1.size)=z at pm ft ld ⊢
  obtain⟨es2,t3,gv⟩:=z
  dsimp only at pm ft ld ⊢
  have sz:es2.size=es1.size:=by rw[<-z9,pm.length_eq,z9]
  have r2:Stx P w ks es2 t3:=⟨r.el.perm pm,(pm.map _).trans r.ks,by rw[sz];exact r.sz,ft,ld.1.trans r.led,fun _=>ld.2 hp⟩
  refine a8 (hg _ _ _ ?_)
  refine a8 (wpAny_storeSet_of o1 rfl ?_ (fits_of_scanBound r2.sz))
  exact b6 (k _ (b1.trans (z7 _ a _)) (b5n o1 hx rfl r2).2)
 ·exact b6 (k _ b1 S1)
theorem b8I{y:Str}{tk:Tok}{Q:Bool->d4->Prop}(hS:a3D P w s.heap a ks)(hr:ks.length+1<scanBound)
  (k:∀b h',Heap.SameBut a s.heap h'->a3D P w h' a (if y∈ks then ks else ks++[y])->Q b { s with heap:=h' }):wpAny (model P w) A (setAddHashed a (.str y tk) ((strKind P w).hash y)) Q E s:=by
 obtain⟨o,es,ep,t,ho,hx,hd,r⟩:=hS
 have hk:(strKind P w).is y (.str y tk)=true:=strKind_is _ _ _ _
 have sc:(Value.str y tk).scannable=true:=rfl
 have ln:es.size=ks.length:=by rw[<-z9,<-r.ks.length_eq,a9]
 unfold setAddHashed setAddHashedIn
 refine L5 (a8 (wpAny_setState_of ho hd r.fit ?_))
 dsimp only
 rw[byScan_of sc r.sz r.el,if_pos rfl]
 unfold setAddByScan
 refine a8 ?_
 refine a8 (wpAny_rule ?_)
 refine a8 (wpAny_setScan_of hk ho hd r.fit r.el ?_)
 cases hf:List.findIdx? (fun e=>(strKind P w).is y e.2) es.toList with
 | some j=>
  dsimp only
  obtain⟨hj,pj,_⟩:=List.findIdx?_eq_some_iff_getElem.mp hf
  have hin:y∈ks:=r.ks.mem_iff.mp (q9.mpr ⟨es.toList[j],y9 hj,by obtain⟨t',e⟩:=b3Y pj;rw[e];rfl⟩)
  refine b6 (b6 ?_)
  have:=k false s.heap (Heap.SameBut.refl a s.heap) (by rw[if_pos hin];exact⟨o,es,ep,t,ho,hx,hd,r⟩)
  exact this
 | none=>
  dsimp only
  have hin:y∉ks:=fun z=>by
   obtain⟨e,he,q⟩:=q9.mp (r.ks.mem_iff.mpr z)
   obtain⟨⟨k',hk',_⟩,_⟩:=r.el e he
   obtain⟨t',e'⟩:=b3Y hk'
   have no:=List.findIdx?_eq_none_iff.mp hf e he
   rw[e']at q no
   have q:k'=y:=q
   rw[q,strKind_is]at no
   cases no
  rw[if_neg hin]at k
  have pm:=layNew_perm t es ((strKind P w).hash y) (.str y tk)
  have ft:=layNew_fits t es ((strKind P w).hash y) (.str y tk)
  have ld:=c2m (t:=t) (es:=es) (h:=(strKind P w).hash y) (x:=.str y tk)
  generalize layNew t es ((strKind P w).hash y) (.str y tk)=z at pm ft ld ⊢
  obtain⟨es1,t1,dm,gv⟩:=z
  dsimp only at pm ft ld ⊢
  rw[c0H]at pm
  have l1:es1.size=es.size+1:=by rw[<-z9,pm.length_eq,j3,z9];rfl
  have base:∀t2:SetTable,t2.fits es1.size=true->t2.led=t1.led->t2.plain=false->Stx P w (ks++[y]) es1 t2:=fun t2 f l p=>⟨(r.el.push hk sc).perm pm,by
   refine(pm.map _).trans ?_
   rw[t9]
   exact r.ks.append (a0M _),by omega,f,l.trans (ld.1.trans r.led),fun _=>p⟩
  have gw:∀(b:Bool) (s1:d4) (R:Unit->d4->Prop),R () s1->wpAny (model P w) A (match b with | true=>rule "set.scan.the-table-gave-way" | false=>pure ()) R E s1:=fun b s1 R q=>by
   cases b
   ·exact b6 q
   ·exact wpAny_rule q
  refine a8 (gw gv _ _ ?_)
  split
  ·rename_i pt
   refine a8 ?_
   rw[hashByValue_scannable 8 sc]
   refine b6 ?_
   refine b0g ?_ ho hx hd (base _ ?_ ?_ ?_) ?_ fun h' sb S'=>?_
   ·intro b s1 R q
    cases b
    ·exact b6 q
    ·exact wpAny_rule q
   ·exact SetTable.fits_plain_off ft
   ·rfl
   ·rfl
   ·rfl
   ·exact b6 (k _ h' sb S')
  ·rename_i pt
   refine a8 (b6 ?_)
   refine b0g ?_ ho hx hd (base _ ?_ ?_ ?_) ?_ fun h' sb S'=>?_
   ·intro b s1 R q
    cases b
    ·exact b6 q
    ·exact wpAny_rule q
   ·exact ft
   ·rfl
   ·exact c2O.mpr pt
   ·exact c2O.mpr pt
   ·exact b6 (k _ h' sb S')
def met(val:Nat->Str):Nat->List Str
 | 0=>[]
 | i+1=>if val i∈met val i then met val i else met val i++[val i]
theorem b5G(val:Nat->Str):∀i,(met val i).length<=i
 | 0=>d3 _
 | i+1=>by
  have:=b5G val i
  unfold met
  split
  ·omega
  ·rw[j3];exact Nat.succ_le_succ this
theorem a8P(val:Nat->Str):∀i,(met val i).Nodup
 | 0=>a2K
 | i+1=>by
  unfold met
  split
  ·exact a8P val i
  ·rename_i h
   exact a1h.mpr ⟨a8P val i,by simp,fun a ha b hb e=>h (by rw[c7.mp hb]at e;rw[<-e];exact ha)⟩
theorem b5F(val:Nat->Str):∀i x,x∈met val i↔∃j,j<i/\val j=x
 | 0,x=>⟨(fun h=>nomatch h),fun⟨j,h,_⟩=>absurd h (a0P _)⟩
 | i+1,x=>by
  have ih:=b5F val i
  unfold met
  split
  ·rename_i h
   rw[ih]
   constructor
   ·rintro⟨j,h1,h2⟩;exact⟨j,by omega,h2⟩
   ·rintro⟨j,h1,h2⟩
    by_cases e:j=i
    ·subst e;rw[h2]at h;exact(ih x).mp h
    ·exact⟨j,by omega,h2⟩
  ·rw[h9,ih,c7]
   constructor
   ·rintro(⟨j,h1,h2⟩ | rfl)
    ·exact⟨j,by omega,h2⟩
    ·exact⟨i,by omega,rfl⟩
   ·rintro⟨j,h1,h2⟩
    by_cases e:j=i
    ·subst e;exact .inr h2.symm
    ·exact .inl ⟨j,by omega,h2⟩
theorem b6w{R:b1V->d4->Prop}{fp wr:List Addr}{G:Array GenState->Array GenState->Prop}{Pr:Nat->Value->Prop}{St:Nat->d4->Prop}(W:WalksS P w A.in1 I fp wr G n Pr St)(z:Addr)(hz:z∉fp)
  (val:Nat->Str) (hv:∀i v,Pr i v->∃t,v=.str (val i) t) (hb:n+1<scanBound):∀(k i:Nat) (s:d4),n - i=k->i<=n->St i s->a3D P w s.heap z (met val i) ->
   (∀s',Moved (z::wr) G s s'->a3D P w s'.heap z (met val n)->R (.ok (.ret .none)) s')->a1r (model P w) A (.builtin "set.update.loop" ⟨[.ref z,.ref I],[]⟩) R s:=by
 have zw:z∉wr:=fun h=>hz (W.sub _ h)
 have sub:∀b∈wr,b∈z::wr:=fun b h=>D0 _ h
 intro k
 induction k with
 | zero=>
  intro i s hk hi st hS hR
  obtain rfl:i=n:=by omega
  refine Y3 a3J ?_
  rw[Around.under_plainId Y2 _]
  refine a8 (m:=a1j (.ref I)) (W.done s _ _ st fun s' hm=>?_)
  exact b6 (hR s' (hm.mono sub) (hS.stay fun o e=>hm.heap z o zw e))
 | succ k ih=>
  intro i s hk hi st hS hR
  have lt:i<n:=by omega
  refine Y3 a3J ?_
  rw[Around.under_plainId Y2 _]
  refine a8 (m:=a1j (.ref I)) (W.item i s _ _ lt st fun v s' hP st' hm=>?_)
  obtain⟨t,rfl⟩:=hv i v hP
  have S':a3D P w s'.heap z (met val i):=hS.stay fun o e=>hm.heap z o zw e
  refine a8 (m:=a0A [Value.str (val i) t] (setAdd z (.str (val i) t))) (L5 ?_)
  unfold setAdd
  refine L5 (a8 ((strKind P w).pyHash (k:=val i) (strKind_is _ _ _ _) ?_))
  refine b8I (s:={ s' with toks:=s'.toks+1 }) S' (by have:=b5G val i;omega) fun b h' sb S2=>?_
  refine b6 ⟨a1K Y2 _,ih (i+1) _ (by omega) lt (W.frame _ s' _ _ st' (W4 _) fun c hc o e=>?_) S2 fun s2 hm2 S3=>?_⟩
  ·rw[sb.2 c (fun q:c=z=>hz (q ▸ hc))];exact e
  ·refine hR s2 (Moved.trans W.gtrans ((hm.mono sub).then_heap (W4 _) fun c o hc e=>?_) hm2) S3
   rw[sb.2 c (fun q:c=z=>hc (q ▸ D4))];exact e
theorem b8H(a:Value)(h:Q (.ref s.heap.objs.size) { s with heap:=s.heap.push { cls:=.type "set",dict:=none,data:=.set #[] 0 (.fresh 0 0 (!bt w)) } }) :
  a1r (model P w) A (.call (.builtin "set.__new__") ⟨[.type "set",a],[]⟩) (wants Q E) s:=by
 refine codeAny_of_tree ?_
 refine a8 (m:=checkBuiltinCall "set.__new__" ⟨[.type "set",a],[]⟩) (wpAny_of_eq (PySem.F.newCall_set_1 a) (b6 ⟨a1K b3G _,Y3 PySem.F.entry_set_new ?_⟩))
 rw[Around.under_plainId b3G _]
 unfold a0b.«set.__new__» Builtin.Frozenset.newClass
 have hs:=sub_set_self
 obtain⟨hp,g,d,tk,os⟩:=s
 dsimp only
 wp_walk
 refine wpAny_askSetting (b6 ?_)
 dsimp only
 simp only[newObj]
 exact a8 (wpAny_alloc (b6 (b6 h)))
set_option maxHeartbeats 3200000 in
theorem b6y{l:Addr}{items:Array Value}{ss:List Str}(hh:A.handled=none)(hl:s.heap.IsList l items)(hi:StrsAre items.toList ss)(hb:items.size+1<scanBound)
  (h:∀(h':Heap) (tk:Nat),a3D P w h' s.heap.objs.size (met (fun i=>ss.getD i ⟨#[]⟩) items.size)->(∀b o,b<s.heap.objs.size->s.heap.get? b=some o->h'.get? b=some o)->s.toks<=tk->s.heap.objs.size<h'.objs.size ->
   Q (.ref s.heap.objs.size) { s with heap:=h',toks:=tk }):wpAny (model P w) A (call (.type "set") [.ref l]) Q E s:=by
 obtain⟨cc,tl,hmro⟩:=O1.mro
 have hmade:=O1.made
 have hsub:=O1.sub
 refine wpAny_call (codeAny_of_tree (c:=.call (.type "set") ⟨[.ref l],[]⟩) ?_)
 show wpAny (model P w) _ (callAny (.type "set") _) _ _ _
 refine b6 ⟨Code.quiet_builtin _ (by decide +kernel),Y3 PySem.F.entry_type_call ?_⟩
 rw[Around.under_plain (weight_type_call_type "set" [.ref l] []) rfl]
 have z1:=O1.notType
 have z2:=O1.canCreate
 have z3:=PySem.F.typeCall_set_1 (.ref l)
 repeat (any_goals (first | assumption | wp_step))
 obtain⟨O,hO⟩:∃O:Obj,O={ cls:=.type "set",dict:=none,data:=.set #[] 0 (.fresh 0 0 (!bt w)) }:=⟨_,rfl⟩
 refine a2M (b8H (.ref l) (E:=E) (Q:=fun obj s1=>obj=.ref s.heap.objs.size/\s1={ s with heap:=s.heap.push O }) (by rw[hO];exact⟨rfl,rfl⟩)) fun r s1 hr=>?_
 cases r with
 | error e=>exact hr
 | ok fl=>
  cases fl with
  | ret obj=>
   obtain⟨rfl,rfl⟩:=hr
   have gO:(s.heap.push O).get? s.heap.objs.size=some O:=d7 _ (by rw[hO];rfl)
   have hT:Shared.TypeIs { s with heap:=s.heap.push O } (.ref s.heap.objs.size) "set" := ⟨_,gO,by rw[hO]⟩
   have y1:=O1.init.lookup
   have y2:=O1.init.bind (.ref s.heap.objs.size)
   repeat (any_goals (first | assumption | wp_step))
   refine a2M (codeAny_call_builtin (R:=wants (fun r s2=>r=.none/\∃h' tk,s2={ s with heap:=h',toks:=tk }/\a3D P w h' s.heap.objs.size (met (fun i=>ss.getD i ⟨#[]⟩) items.size)/\(∀b o,b<s.heap.objs.size->s.heap.get? b=some o->h'.get? b=some o)/\s.toks<=tk) E) O1.init.plain PySem.F.entry_set_init (check_set_init_1 hT ?_)) fun r2 s2 hr2=>?_
   ·subst hO
    obtain⟨ol,hol,hcl,nl,hdl⟩:=id hl
    have lL:l<s.heap.objs.size:=d6 hol
    obtain⟨ocls,odict,odata,oslots⟩:=ol
    simp only at hcl hdl
    subst hcl hdl
    have hol2:=b8 ({ cls:=.type "set",dict:=none,data:=.set #[] 0 (.fresh 0 0 (!bt w)) }:Obj) hol
    have x1:=PySem.F.sub_list_set
    have x2:=PySem.F.sub_list_frozenset
    have x3:(Value.type "list" == Value.type "dict")=false:=by decide
    have hl1:(s.heap.push ({ cls:=.type "set",dict:=none,data:=.set #[] 0 (.fresh 0 0 (!bt w)) }:Obj)).IsList l items:=⟨_,hol2,rfl,nl,rfl⟩
    unfold a0b.«set.__init__» noKeywords Builtin.Frozenset.updateFrom
    generalize hPI:pyIter=PI
    wp_walk
    subst hPI
    refine a2A (s:={ s with heap:=s.heap.push ({ cls:=.type "set",dict:=none,data:=.set #[] 0 (.fresh 0 0 (!bt w)) }:Obj) }) hl1 ?_
    refine a8 (wpAny_runValue ?_)
    have hh3:A.in1.in1.in1.handled=none:=by simp[hh]
    have nI:l≠(s.heap.push ({ cls:=.type "set",dict:=none,data:=.set #[] 0 (.fresh 0 0 (!bt w)) }:Obj)).objs.size:=by rw[X3];exact j8 (a3L lL)
    have nf:s.heap.objs.size∉[(s.heap.push ({ cls:=.type "set",dict:=none,data:=.set #[] 0 (.fresh 0 0 (!bt w)) }:Obj)).objs.size,l]:=by
     rw[X3]
     simp only[d8,j7,or_false,not_or]
     exact⟨j8 (a4u _),a9q lL⟩
    have hval:∀(i:Nat) (v:Value),items[i]? = some v->∃t,v=.str (ss.getD i ⟨#[]⟩) t:=fun i v hv=>by
     rw[<-C2]at hv
     obtain⟨x,t,rfl⟩:=hi.all v (P4 hv)
     refine⟨t,?_⟩
     rw[<-hi.strs,U0,b7,hv]
     rfl
    refine b6w ((Walks.list hh3 _ l nI items).toS) s.heap.objs.size nf (fun i=>ss.getD i ⟨#[]⟩) hval hb (items.size - 0) 0 _ (by omega) (E9 _) ⟨⟨_,d7 _ rfl,rfl,rfl⟩,hl1.push _⟩ ?_ ?_
    ·exact⟨_,#[],0,.fresh 0 0 (!bt w),b8 _ gO,⟨rfl,rfl,rfl⟩,rfl,fun e he=>(by simp at he),List.Perm.nil,by decide,rfl,rfl,fun q=>(q rfl).elim⟩
    ·intro s' hm S'
     obtain⟨h',g',d',tk',os'⟩:=s'
     have eg:g'=s.gens:=hm.gens
     have ed:d'=s.drawn:=hm.drawn
     have eo:os'=s.os:=hm.os
     subst eg ed eo
     refine b6 (b6 ⟨rfl,h',tk',rfl,S',fun b o hb e=>?_,hm.toks⟩)
     refine hm.heap b o ?_ (b8 _ (b8 _ e))
     rw[X3]
     simp only[d8,j7,or_false,not_or]
     exact⟨j8 hb,j8 (a3L hb)⟩
   ·cases r2 with
    | error e=>exact hr2
    | ok f2=>
     cases f2 with
     | ret r=>
      obtain⟨rfl,h',tk,rfl,S',hk',ht⟩:=hr2
      repeat (any_goals (first | assumption | wp_step))
      exact h _ _ S' hk' ht (let⟨_,_,_,_,e,_⟩:=S';d6 e)
     | _=>exact hr2.elim
  | _=>exact hr.elim
end
theorem Y7:Slot "set_iterator" "__next__" "set_iterator.__next__" :=
 Slot.of (owner := "set_iterator") (n := "__next__") (by rw[typeLookup_type,a2N];kernel_rfl) (by decide +kernel) (by decide +kernel) (by decide +kernel) (by first | exact .inl (by decide +kernel) | exact .inr (by decide +kernel)) (by rw[isSubtype_type];kernel_rfl)
theorem a4D:entryFor table "set_iterator.__next__" = some a0b.«set_iterator.__next__» := entryFor_of_tree (by kernel_rfl)
theorem b0d:Manifest.owners.lookup (String.ofList ['r','o','t','a','r','e','t','i','_','t','e','s'].reverse)=some Manifest.sig_set_iterator:=by kernel_rfl
theorem a6i(a:Value):argsOk "set_iterator.__next__" ⟨[a],[]⟩:=by
 unfold argsOk;rw[signature?_of (id := "set_iterator.__next__") (n:=['_','_','t','x','e','n','_','_']) (o:=['r','o','t','a','r','e','t','i','_','t','e','s']) (by kernel_rfl) b0d];kernel_rfl
theorem b0f:Slot "set_iterator" "__iter__" "set_iterator.__iter__" :=
 Slot.of (owner := "set_iterator") (n := "__iter__") (by rw[typeLookup_type,a2N];kernel_rfl) (by decide +kernel) (by decide +kernel) (by decide +kernel) (by first | exact .inl (by decide +kernel) | exact .inr (by decide +kernel)) (by rw[isSubtype_type];kernel_rfl)
theorem b4b:entryFor table "set_iterator.__iter__" = some a0b.«dict_keyiterator.__iter__» :=
 entryFor_alias (id' := "dict_keyiterator.__iter__") (by kernel_rfl) rfl (by decide +kernel) (by kernel_rfl)
theorem b6v(a:Value):argsOk "set_iterator.__iter__" ⟨[a],[]⟩:=by
 unfold argsOk;rw[signature?_of (id := "set_iterator.__iter__") (n:=['_','_','r','e','t','i','_','_']) (o:=['r','o','t','a','r','e','t','i','_','t','e','s']) (by kernel_rfl) b0d];kernel_rfl
theorem a8s:entryFor table "set.__iter__" = some a0b.«frozenset.__iter__» :=
 entryFor_alias (id' := "frozenset.__iter__") (by kernel_rfl) rfl (by decide +kernel) (by kernel_rfl)
def SIt(h:Heap)(I:Addr)(f:Value)(i:Nat)(z:Addr)(n ep:Nat):Prop:=∃o,h.get? I=some o/\o.cls=.type "set_iterator" /\ o.data=.fields #[f,.int i 0,.ref z,.int n 0,.int ep 0]
section
variable {P:u4}{A:F2}{E:Value->d4->Prop}{t:SetTable}{f v:Value}
theorem SIt.ty(h:SIt s.heap I f i z n ep):s.TypeIs (.ref I) "set_iterator" := let⟨o,ho,hc,_⟩:=h; ⟨o,ho,hc⟩
theorem a7H{g:Value}(ho:h.get? I=some o)(hc:o.cls=.type "set_iterator")(hdt:o.data=.fields #[f,.int i 0,.ref z,.int n 0,.int ep 0]) :
  SIt (h.update I (Obj.mapFields (·.setIfInBounds 1 (rawInt ((i:Int)+1))))) I f (i+1) z n ep/\SIt (h.update I (Obj.mapFields (·.setIfInBounds 0 g))) I g i z n ep:=
 ⟨⟨_,G0 _ ho (Obj.isFreed_of_fields (Obj.data_mapFields hdt _)),(Obj.cls_mapFields ..).trans hc,by rw[Obj.data_mapFields hdt];simp[rawInt]⟩,
  ⟨_,G0 _ ho (Obj.isFreed_of_fields (Obj.data_mapFields hdt _)),(Obj.cls_mapFields ..).trans hc,by rw[Obj.data_mapFields hdt];simp⟩⟩
theorem b0e{sl nx:Nat}{Q:Option Value->d4->Prop}(hit:SIt s.heap I (.int (sl:Int) 0) i z es.size ep)(hz:s.heap.get? z=some oz)(hd:oz.data=.set es ep t)(hf:t.fits es.size=true)
  (hn:∀(E:Value->d4->Prop) (R:Option (Value×Nat)->d4->Prop),R (some (v,nx)) s->wpAny (model P w) A.in1 (setNext z sl i ep) R E s)
  (k:∀h',SIt h' I (.int (nx:Int) 0) (i+1) z es.size ep->Heap.SameBut I s.heap h'->Q (some v) { s with heap:=h' }):wpAny (model P w) A (a1j (.ref I)) Q E s:=by
 obtain⟨o,ho,hc,hdt⟩:=id hit
 unfold a1j
 refine a8 (wpAny_attempt (D6 (name:=Str.ofString "__next__") hit.ty Y7 (E7 Y7 hit.ty a4D ?_ (a6i _))))
 unfold a0b.«set_iterator.__next__»
 refine a8 (b6 ?_)
 refine a8 (wpAny_fieldsOf ho hdt ?_)
 dsimp only
 refine a8 (wpAny_setEntries_of hz hd hf ?_)
 rw[if_neg (by simp)]
 rw[i9,i9,i9]
 refine a8 (hn _ _ ?_)
 dsimp only
 refine a8 (wpAny_setField ho hdt (by simp) ?_)
 obtain⟨o1,h1,c1,d1⟩:=(a7H (g:=rawInt (nx:Int)) ho hc hdt).2
 refine a8 (wpAny_setField h1 d1 (by simp) ?_)
 exact b6 ⟨_,rfl,b6 (k _ (a7H (g:=.none) h1 c1 d1).1 ((z7 ..).trans (z7 ..)))⟩
theorem b2q{sl:Nat}{Q:Option Value->d4->Prop}(hh:A.handled=none)(hit:SIt s.heap I (.int (sl:Int) 0) i z es.size ep)(hz:s.heap.get? z=some oz)(hd:oz.data=.set es ep t)(hf:t.fits es.size=true)
  (hn:∀(E:Value->d4->Prop) (R:Option (Value×Nat)->d4->Prop),R none s->wpAny (model P w) A.in1 (setNext z sl i ep) R E s)
  (k:∀h',Heap.ExtBut I s.heap h'->Q none { s with heap:=h' }):wpAny (model P w) A (a1j (.ref I)) Q E s:=by
 obtain⟨o,ho,hc,hdt⟩:=id hit
 unfold a1j
 refine a8 (wpAny_attempt (D6 (name:=Str.ofString "__next__") hit.ty Y7 (E7 Y7 hit.ty a4D ?_ (a6i _))))
 unfold a0b.«set_iterator.__next__»
 refine a8 (b6 ?_)
 refine a8 (wpAny_fieldsOf ho hdt ?_)
 dsimp only
 refine a8 (wpAny_setEntries_of hz hd hf ?_)
 rw[if_neg (by simp)]
 rw[i9,i9,i9]
 refine a8 (hn _ _ ?_)
 dsimp only
 refine a8 (wpAny_setField ho hdt (by simp) ?_)
 refine a8 ?_
 simp only[newExc,newTuple]
 refine a8 (v0 ?_ (by size_fits))
 refine a8 (m:=firstArgMember _ _) (wpAny_of_eq (a:=Value.none) (by first | rfl | (simp only[firstArgMember];rfl)) ?_)
 refine v0 ?_ (by size_fits)
 simp only[raiseNew]
 refine a8 (wpAny_handled ?_)
 rw[show A.in1.handled=none from hh]
 refine a8 (b6 (wpAny_throw ?_))
 refine a8 (wpAny_isInstance (T := "StopIteration") (b:=true) ⟨_,d7 _ rfl,rfl⟩ isSubtype_stop ?_)
 exact b6 (k _ (((z7 ..).extBut.push _).push _))
theorem b6u{ft:Addr}{ot:Obj}{pl:Array Value}{pn j:Nat}{Q:Option Value->d4->Prop}(hit:SIt s.heap I (.ref ft) i z es.size ep)(hz:s.heap.get? z=some oz)(hd:oz.data=.set es ep t)(hf:t.fits es.size=true)
  (ht:s.heap.get? ft=some ot) (hp:ot.data=.seq pl pn) (hj:pl[i]? = some (.int (j:Int) 0)) (he:(es[j]?).map (·.2)=some v)
  (k:∀h',SIt h' I (.ref ft) (i+1) z es.size ep->Heap.SameBut I s.heap h'->Q (some v) { s with heap:=h' }):wpAny (model P w) A (a1j (.ref I)) Q E s:=by
 obtain⟨o,ho,hc,hdt⟩:=id hit
 unfold a1j
 refine a8 (wpAny_attempt (D6 (name:=Str.ofString "__next__") hit.ty Y7 (E7 Y7 hit.ty a4D ?_ (a6i _))))
 unfold a0b.«set_iterator.__next__»
 refine a8 (b6 ?_)
 refine a8 (wpAny_fieldsOf ho hdt ?_)
 dsimp only
 refine a8 (wpAny_setEntries_of hz hd hf ?_)
 rw[if_neg (by simp)]
 refine a8 (wpAny_seqItems ht hp ?_)
 dsimp only
 rw[i9,hj]
 dsimp only
 unfold setNextDrawn
 refine a8 (a8 (wpAny_setState_of hz hd hf ?_))
 dsimp only
 rw[i9,i9,if_neg (by simp)]
 obtain⟨e,h1,rfl⟩:=j4.mp he
 rw[h1]
 refine b6 ?_
 refine a8 (wpAny_setField ho hdt (by simp) ?_)
 exact b6 ⟨_,rfl,b6 (k _ (a7H (g:=.none) ho hc hdt).1 (z7 ..))⟩
theorem b8G{ft:Addr}{ot:Obj}{pl:Array Value}{pn:Nat}{Q:Option Value->d4->Prop}(hh:A.handled=none)(hit:SIt s.heap I (.ref ft) i z es.size ep)(hz:s.heap.get? z=some oz)(hd:oz.data=.set es ep t)(hf:t.fits es.size=true)
  (ht:s.heap.get? ft=some ot) (hp:ot.data=.seq pl pn) (hj:pl[i]? = none)
  (k:∀h',Heap.ExtBut I s.heap h'->Q none { s with heap:=h' }):wpAny (model P w) A (a1j (.ref I)) Q E s:=by
 obtain⟨o,ho,hc,hdt⟩:=id hit
 unfold a1j
 refine a8 (wpAny_attempt (D6 (name:=Str.ofString "__next__") hit.ty Y7 (E7 Y7 hit.ty a4D ?_ (a6i _))))
 unfold a0b.«set_iterator.__next__»
 refine a8 (b6 ?_)
 refine a8 (wpAny_fieldsOf ho hdt ?_)
 dsimp only
 refine a8 (wpAny_setEntries_of hz hd hf ?_)
 rw[if_neg (by simp)]
 refine a8 (wpAny_seqItems ht hp ?_)
 dsimp only
 rw[i9,hj]
 dsimp only
 refine a8 (wpAny_setField ho hdt (by simp) ?_)
 obtain⟨o1,h1,c1,d1⟩:=(a7H (g:=rawInt 0) ho hc hdt).2
 refine a8 (wpAny_setField h1 d1 (by simp) ?_)
 refine a8 ?_
 simp only[newExc,newTuple]
 refine a8 (v0 ?_ (by size_fits))
 refine a8 (m:=firstArgMember _ _) (wpAny_of_eq (a:=Value.none) (by first | rfl | (simp only[firstArgMember];rfl)) ?_)
 refine v0 ?_ (by size_fits)
 simp only[raiseNew]
 refine a8 (wpAny_handled ?_)
 rw[show A.in1.handled=none from hh]
 refine a8 (b6 (wpAny_throw ?_))
 refine a8 (wpAny_isInstance (T := "StopIteration") (b:=true) ⟨_,d7 _ rfl,rfl⟩ isSubtype_stop ?_)
 exact b6 (k _ ((((z7 ..).trans (z7 ..)).extBut.push _).push _))
end
section
variable {P:u4}{A:F2}{E:Value->d4->Prop}
theorem b6m{src:Source}{Q:Nat->d4->Prop}(hn:n≠0)(h:Q (w.draws src (s.drawn.get src) % n) { s with drawn:=s.drawn.bump src }):wpAny (model P w) A (choose src n) Q E s:=fun _ _ _=>⟨hn,h⟩
theorem a5G{α:Type}:∀(xs:List α) (i:Nat) (h:i<xs.length),(xs[i]::xs.eraseIdx i).Perm xs
 | [],i,h=>absurd h (a0P _)
 | x::r,0,h=>a0M _
 | x::r,i+1,h=>(List.Perm.swap x (r[i]'(b7J h)) _).trans (c0A x (a5G r i (b7J h)))
theorem b5O{α:Type}:∀(n:Nat) (xs:List α) (s:d4) (Q:List α->d4->Prop),xs.length=n->(∀ys d,ys.Perm xs->Q ys { s with drawn:=d })->wpAny (model P w) A (drawOrder n xs) Q E s
 | 0,xs,s,Q,hl,h=>by
  obtain rfl:=a3R.mp hl
  exact b6 (h [] s.drawn (a0M _))
 | n+1,[],s,Q,hl,h=>by cases hl
 | n+1,x::r,s,Q,hl,h=>by
  unfold drawOrder
  refine a8 (b6m (by simp) ?_)
  have hi:w.draws .order (s.drawn.get .order) % (x::r).length<(x::r).length:=Nat.mod_lt _ (by simp)
  generalize w.draws .order (s.drawn.get .order) % (x::r).length=i at hi ⊢
  rw[c8 hi]
  dsimp only
  refine a8 (b5O n _ _ _ (by rw[b7T,if_pos hi,hl];rfl) fun ys d p=>?_)
  exact b6 (h _ d ((c0A _ p).trans (a5G _ _ hi)))
theorem b5B{α:Type}(nx:Nat->Nat):∀(fuel k:Nat) (left:List α) (out:Array α),left.length=fuel->(pickOrder.go nx fuel k left out).toList.Perm (out.toList++left)
 | 0,k,left,out,hl=>by
  obtain rfl:=a3R.mp hl
  rw[b0z]
  exact a0M _
 | fuel+1,k,left,out,hl=>by
  have hi:nx k % left.length<left.length:=Nat.mod_lt _ (by omega)
  unfold pickOrder.go
  generalize nx k % left.length=i at hi ⊢
  rw[c8 hi]
  dsimp only
  refine(b5B nx fuel (k+1) _ _ (by rw[b7T,if_pos hi,hl];rfl)).trans ?_
  rw[c0H,List.append_assoc]
  exact List.Perm.append_left _ (a5G _ _ hi)
theorem b6L{α:Type}(nx:Nat->Nat)(xs:Array α):(pickOrder nx xs).toList.Perm xs.toList:=b5B nx xs.size 0 xs.toList #[] (by simp)
structure SWk(P:u4)(w:World)(A:F2)(s s':d4)(z I:Addr)(ks:List Str):Prop where
 ex:∃(ws:List Value) (fp:List Addr) (St:Nat->Heap->Prop),Walks P w A I fp [I] ws.length (fun i v=>ws[i]? = some v) St/\St 0 s'.heap/\(∀b∈fp,b=z\/s.heap.objs.size<=b)/\(∀v∈ws,∃x t,v=.str x t)/\(ws.map strOf).Perm ks
theorem c2v{t:SetTable}(r:Stx P w ks es t){l:List (Int×Value)}(p:l.Perm es.toList):(∀v∈l.map (·.2),∃x t,v=Value.str x t)/\((l.map (·.2)).map strOf).Perm ks:=by
 refine⟨fun v hv=>?_,?_⟩
 ·obtain⟨e,he,rfl⟩:=q9.mp hv
  obtain⟨⟨k,hk,_⟩,_⟩:=r.el e (p.mem_iff.mp he)
  obtain⟨t,e'⟩:=b3Y hk
  exact⟨k,t,e'⟩
 ·rw[S9]
  exact(p.map _).trans r.ks
theorem b9J{t:SetTable}{Q:Option (Value×Nat)->d4->Prop}(hb:bt w=true)(hz:s.heap.get? z=some oz)(hd:oz.data=.set es ep t)(hf:t.fits es.size=true)
  (h:Q (((pickOrder (w.params.setOrder z ep) es)[i]?).map fun e=>(e.2,0)) s):wpAny (model P w) A (setNext z 0 i ep) Q E s:=by
 unfold setNext
 refine a8 (wpAny_setState_of hz hd hf ?_)
 dsimp only
 unfold setsByText
 refine a8 (a8 (wpAny_askSetting (b6 ?_)))
 show wpAny _ _ (if bt w=true then _ else _) _ _ _
 rw[if_pos hb,if_neg (by simp)]
 refine a8 ?_
 unfold setWalk
 refine a8 (wpAny_setState_of hz hd hf ?_)
 dsimp only
 unfold setsByText
 refine a8 (a8 (wpAny_askSetting (b6 ?_)))
 show wpAny _ _ (if bt w=true then _ else _) _ _ _
 rw[if_pos hb]
 refine a8 (wpAny_askSetting (b6 ?_))
 exact b6 h
theorem b9K{sl:Nat}{t:SetTable}{Q:Option (Value×Nat)->d4->Prop}(hb:bt w=false)(hz:s.heap.get? z=some oz)(hd:oz.data=.set es ep t)(hf:t.fits es.size=true)(h1:es.size<=1)(hl:t.led=true)
  (h:Q (match es[SetTable.below t.place sl]?,t.place[SetTable.below t.place sl]? with | some (_,x),some j=>some (x,j+1) | _,_=>none) s):wpAny (model P w) A (setNext z sl i ep) Q E s:=by
 unfold setNext
 refine a8 (wpAny_setState_of hz hd hf ?_)
 dsimp only
 unfold setsByText
 refine a8 (a8 (wpAny_askSetting (b6 ?_)))
 show wpAny _ _ (if bt w=true then _ else if(!t.plain&&decide (es.size > 1))=true then _ else _) _ _ _
 rw[if_neg (by rw[hb];decide),if_neg (by simp;omega)]
 refine a8 ?_
 show wpAny _ _ (if(!t.led && !es.isEmpty)=true then _ else pure ()) _ _ _
 rw[if_neg (by rw[hl];simp)]
 exact b6 (b6 h)
theorem SIt.stay{h':Heap}{f:Value}(x:SIt h I f i z n ep)(k:∀o,h.get? I=some o->h'.get? I=some o):SIt h' I f i z n ep:=let⟨o,e,r⟩:=x; ⟨o,k _ e,r⟩
theorem a8q{f:Value}(hit:SIt s.heap I f i z n ep)(h:Q (.ref I) s):wpAny (model P w) A (pyIter (.ref I)) Q E s:=by
 refine wpAny_pyIter_slot hit.ty b0f (E7 b0f hit.ty b4b ?_ (b6v _))
 show wpAny _ _ (ret (.ref I)) _ _ s
 exact b6 ⟨_,rfl,"set_iterator",_,hit.ty,Y7.lookup,h⟩
theorem c3B{ft:Addr}{ot:Obj}{t:SetTable}{od:List Nat}(hh:A.handled=none)(nz:z≠I)(nt:ft≠I)(hd:oz.data=.set es ep t)(hf:t.fits es.size=true)(ht:ot.data=.seq (od.map fun(i:Nat)=>rawInt i).toArray)(hp:od.Perm (z5 es.size)) :
  Walks P w A I [I,z,ft] [I] (od.map fun j=>((es[j]?).map (·.2)).getD .none).length (fun i v=>(od.map fun j=>((es[j]?).map (·.2)).getD .none)[i]? = some v) (fun i h=>SIt h I (.ref ft) i z es.size ep/\h.get? z=some oz/\h.get? ft=some ot) where
 sub:=fun b hb=>by rw[c7.mp hb];exact D4
 frame:=fun i h h' st k=>⟨st.1.stay fun o e=>k I (by simp) o e,k z (by simp) _ st.2.1,k ft (by simp) _ st.2.2⟩
 item:=fun i s Q E hi st k=>by
  rw[a9]at hi
  obtain⟨j,hj⟩:∃j,od[i]? = some j:=⟨_,c8 hi⟩
  have lj:j<es.size:=a0d.mp (hp.mem_iff.mp (P4 hj))
  refine b6u (v:=es[j].2) st.1 st.2.1 hd hf st.2.2 ht (j:=j) (by simp[hj,rawInt]) (by rw[u7 lj];rfl) fun h' S1 sb=>?_
  refine k _ h' s.toks (by rw[b7,hj,a1G,u7 lj];rfl) ⟨S1,(sb.2 z nz).trans st.2.1,(sb.2 ft nt).trans st.2.2⟩ fun b o nb e=>(sb.2 b fun q=>nb (by rw[q];exact c7.mpr rfl)).trans e
 done:=fun s Q E st k=>by
  rw[a9]at st
  refine b8G hh st.1 st.2.1 hd hf st.2.2 ht (by simp) fun h' eb=>?_
  exact k h' s.toks fun b o nb e=>eb b o (fun q=>nb (by rw[q];exact c7.mpr rfl)) e
 self:=fun i s Q E st k=>a8q st.1 k
theorem c3z{t:SetTable}(hh:A.handled=none)(hb:bt w=true)(nz:z≠I)(hd:oz.data=.set es ep t)(hf:t.fits es.size=true) :
  Walks P w A I [I,z] [I] ((pickOrder (w.params.setOrder z ep) es).toList.map (·.2)).length (fun i v=>((pickOrder (w.params.setOrder z ep) es).toList.map (·.2))[i]? = some v) (fun i h=>SIt h I (.int ((0:Nat):Int) 0) i z es.size ep/\h.get? z=some oz) where
 sub:=fun b hb=>by rw[c7.mp hb];exact D4
 frame:=fun i h h' st k=>⟨st.1.stay fun o e=>k I (by simp) o e,k z (by simp) _ st.2⟩
 item:=fun i s Q E hi st k=>by
  rw[a9,z9]at hi
  refine b0e (nx:=0) (v:=(pickOrder (w.params.setOrder z ep) es)[i].2) st.1 st.2 hd hf (fun E R q=>b9J hb st.2 hd hf (by rw[u7 hi];exact q)) fun h' S1 sb=>?_
  refine k _ h' s.toks (by rw[b7,C2,u7 hi];rfl) ⟨S1,(sb.2 z nz).trans st.2⟩ fun b o nb e=>(sb.2 b fun q=>nb (by rw[q];exact c7.mpr rfl)).trans e
 done:=fun s Q E st k=>by
  rw[a9,z9]at st
  refine b2q hh st.1 st.2 hd hf (fun E R q=>b9J hb st.2 hd hf (by rw[X6 (d3 _)];exact q)) fun h' eb=>?_
  exact k h' s.toks fun b o nb e=>eb b o (fun q=>nb (by rw[q];exact c7.mpr rfl)) e
 self:=fun i s Q E st k=>a8q st.1 k
theorem b5W(xs:Array Nat):SetTable.below xs 0=0:=by
 unfold SetTable.below
 have:∀fuel hi,SetTable.below.go xs 0 fuel 0 hi=0:=by
  intro fuel
  induction fuel with
  | zero=>intro hi;rfl
  | succ n ih=>
   intro hi
   unfold SetTable.below.go
   split
   ·rw[if_neg (a0P _)];exact ih _
   ·rfl
 exact this _ _
theorem c2z{xs:Array Nat}{j:Nat}(h1:xs.size=1)(h:xs[0]? = some j):SetTable.below xs (j+1)=1:=by
 unfold SetTable.below
 rw[h1]
 unfold SetTable.below.go
 rw[if_pos (by decide)]
 show(if xs.getD 0 (j+1)<j+1 then SetTable.below.go xs (j+1) 0 1 1 else _)=1
 rw[a2h,h,if_pos (by simp)]
 rfl
theorem c3A{t:SetTable}(hh:A.handled=none)(hb:bt w=false)(nz:z≠I)(hd:oz.data=.set es ep t)(hf:t.fits es.size=true)(h1:es.size<=1)(hl:t.led=true) :
  Walks P w A I [I,z] [I] (es.toList.map (·.2)).length (fun i v=>(es.toList.map (·.2))[i]? = some v) (fun i h=>SIt h I (.int ((if i=0 then 0 else t.place.getD 0 0+1:Nat):Int) 0) i z es.size ep/\h.get? z=some oz) where
 sub:=fun b hb=>by rw[c7.mp hb];exact D4
 frame:=fun i h h' st k=>⟨st.1.stay fun o e=>k I (by simp) o e,k z (by simp) _ st.2⟩
 item:=fun i s Q E hi st k=>by
  rw[a9,z9]at hi
  obtain rfl:i=0:=by omega
  have e1:es.size=1:=by omega
  have ps:t.place.size=es.size:=by
   simp only[SetTable.fits,T4,beq_iff_eq]at hf
   exact hf.1
  have pj:t.place[0]? = some (t.place.getD 0 0):=by
   rw[a2h,u7 (by omega)];rfl
  refine b0e (sl:=0) (nx:=t.place.getD 0 0+1) (v:=es[0].2) st.1 st.2 hd hf (fun E R q=>b9K hb st.2 hd hf h1 hl (by rw[b5W,u7 hi,pj];exact q)) fun h' S1 sb=>?_
  refine k _ h' s.toks (by rw[b7,C2,u7 hi];rfl) ⟨S1,(sb.2 z nz).trans st.2⟩ fun b o nb e=>(sb.2 b fun q=>nb (by rw[q];exact c7.mpr rfl)).trans e
 done:=fun s Q E st k=>by
  rw[a9,z9]at st
  have ps:t.place.size=es.size:=by
   simp only[SetTable.fits,T4,beq_iff_eq]at hf
   exact hf.1
  refine b2q hh st.1 st.2 hd hf (fun E R q=>b9K hb st.2 hd hf h1 hl ?_) fun h' eb=>?_
  ·by_cases e0:es.size=0
   ·rw[if_pos e0,b5W,X6 (by omega)];exact q
   ·have pj:t.place[0]? = some (t.place.getD 0 0):=by
     rw[a2h,u7 (by omega)];rfl
    rw[if_neg e0,c2z (by omega) pj,X6 (by omega)];exact q
  ·exact k h' s.toks fun b o nb e=>eb b o (fun q=>nb (by rw[q];exact c7.mpr rfl)) e
 self:=fun i s Q E st k=>a8q st.1 k
end
section
variable {P:u4}{A:F2}{E:Value->d4->Prop}
theorem a3D.ty(h:a3D P w s.heap z ks):s.TypeIs (.ref z) "set" := let⟨o,_,_,_,ho,hx,_⟩:=h; ⟨o,ho,hx.1⟩
theorem b1v{t:SetTable}(r:Stx P w ks es t){l:List Value}(p:l.Perm (es.toList.map (·.2))):(∀v∈l,∃x t,v=Value.str x t)/\(l.map strOf).Perm ks:=by
 obtain⟨a,b⟩:=c2v r (a0M es.toList)
 exact⟨fun v hv=>a v (p.mem_iff.mp hv),(p.map _).trans b⟩
theorem b9E{od:List Nat}(p:od.Perm (z5 es.size)):(od.map fun j=>((es[j]?).map (·.2)).getD .none).Perm (es.toList.map (·.2)):=by
 refine(p.map _).trans (List.Perm.of_eq ?_)
 refine c2N fun i=>?_
 rw[b7,b7]
 by_cases h:i<es.size
 ·have e:es.toList[i]? = some es[i]:=by simp[h]
  rw[a0v h,e]
  simp[h]
 ·rw[a1x (by simpa using h),a1x (by simpa using h)];rfl
theorem b6x{A':F2}(hh:A'.handled=none)(hS:a3D P w s.heap z ks)
  (k:∀(s':d4) (I:Addr),(∀b o,s.heap.get? b=some o->s'.heap.get? b=some o)->s'.gens=s.gens->s'.os=s.os->s'.toks=s.toks->s.heap.objs.size<=I->SWk P w A' s s' z I ks->Q (.ref I) s'):wpAny (model P w) A (pyIter (.ref z)) Q E s:=by
 obtain⟨o,es,ep,t,ho,hx,hd,r⟩:=id hS
 have hz:=d6 ho
 refine wpAny_pyIter_slot hS.ty b3E (E7 b3E hS.ty a8s ?_ (PySem.F.args_set_iter_1 _))
 unfold a0b.«frozenset.__iter__» Builtin.Frozenset.slot0
 refine a8 (a8 (b6 (b6 ?_)))
 unfold Builtin.Frozenset.sizeOf
 refine a8 (a8 (wpAny_setEntries_of ho hd r.fit (b6 ?_)))
 unfold setDrawn
 refine a8 (a8 (wpAny_setState_of ho hd r.fit ?_))
 dsimp only
 unfold setsByText
 refine a8 (a8 (wpAny_askSetting (b6 (b6 ?_))))
 show wpAny _ _ (if(!bt w&&(!t.plain&&decide (es.size > 1)))=true then _ else _) _ _ _
 have hsc:es.size<=i8:=fits_of_scanBound r.sz
 cases hb:(!bt w&&(!t.plain&&decide (es.size > 1)))with
 | true=>
  rw[if_pos rfl]
  refine a8 (b5O es.size (z5 es.size) s _ (by simp) fun od d p=>?_)
  have lo:od.length=es.size:=by rw[p.length_eq,G6]
  refine a8 (wpAny_newTuple ?_ (by rw[a9,lo];exact hsc))
  refine a8 (wpAny_setEpoch_of (s:={ s with heap:=_,drawn:=d }) (b8 _ ho) hd r.fit ?_)
  refine a8 (v0 (b6 ⟨_,rfl,"set_iterator",_,⟨_,d7 _ rfl,rfl⟩,Y7.lookup,?_⟩))
  refine k _ _ (fun b o e=>b8 _ (b8 _ e)) rfl rfl rfl (by show _<=(s.heap.push _).objs.size;rw[X3];exact W4 _) ?_
  have nI:∀b,b<s.heap.objs.size+1->b≠(s.heap.push { cls:=.type "tuple",data:=.seq (od.map fun(i:Nat)=>rawInt i).toArray }).objs.size:=fun b hb=>by rw[X3];exact j8 hb
  obtain⟨v1,v2⟩:=b1v r (b9E p)
  refine⟨_,[_,z,s.heap.objs.size],_,c3B (oz:=o) (ot:={ cls:=.type "tuple",data:=.seq (od.map fun(i:Nat)=>rawInt i).toArray }) hh (nI z (a3L hz)) (nI _ (a4u _)) hd r.fit rfl p,⟨⟨_,d7 _ rfl,rfl,rfl⟩,b8 _ (b8 _ ho),b8 _ (d7 _ rfl)⟩,fun b hb=>?_,v1,v2⟩
  simp only[d8,j7,or_false]at hb
  rcases hb with rfl | rfl | rfl
  ·exact .inr (by rw[X3];exact W4 _)
  ·exact .inl rfl
  ·exact .inr (d3 _)
 | false=>
  rw[if_neg (by decide)]
  refine a8 (b6 ?_)
  refine a8 (wpAny_setEpoch_of ho hd r.fit ?_)
  refine a8 (v0 (b6 ⟨_,rfl,"set_iterator",_,⟨_,d7 _ rfl,rfl⟩,Y7.lookup,?_⟩))
  refine k _ _ (fun b o e=>b8 _ e) rfl rfl rfl (d3 _) ?_
  have nz:z≠s.heap.objs.size:=j8 hz
  have fp:∀b∈[s.heap.objs.size,z],b=z\/s.heap.objs.size<=b:=fun b hb=>by
   simp only[d8,j7,or_false]at hb
   rcases hb with rfl | rfl
   ·exact .inr (d3 _)
   ·exact .inl rfl
  cases hw:bt w with
  | true=>
   obtain⟨v1,v2⟩:=b1v r ((b6L (w.params.setOrder z ep) es).map (·.2))
   exact⟨_,_,_,c3z hh hw nz hd r.fit,⟨⟨_,d7 _ rfl,rfl,rfl⟩,b8 _ ho⟩,fp,v1,v2⟩
  | false=>
   have h1:es.size<=1:=by
    rw[hw]at hb
    rcases Nat.lt_or_ge 1 es.size with q | q
    ·exfalso
     rw[r.pl (by omega),c8U q]at hb
     cases hb
    ·exact q
   obtain⟨v1,v2⟩:=b1v r (a0M _)
   exact⟨_,_,_,c3A hh hw nz hd r.fit h1 (by rw[r.led,hw];rfl),⟨⟨_,d7 _ rfl,rfl,rfl⟩,b8 _ ho⟩,fp,v1,v2⟩
theorem b8K{Q:Bool->d4->Prop}(hS:a3D P w s.heap z ks)(h:Q false s):wpAny (model P w) A (Builtin.List.listLengthHint (.ref z)) Q E s:=by
 unfold Builtin.List.listLengthHint
 refine a8 (wpAny_specialOf hS.ty PySem.F.slot_set_len.lookup ?_)
 generalize hid:("set.__len__" : String)=id0
 wp_delta
 rw[show splitId id0=some ("set","__len__")from by subst hid;decide +kernel]
 subst hid
 refine a8 (wpAny_isInstance (T := "set") (b:=true) hS.ty (by rw[isSubtype_type];kernel_rfl) ?_)
 refine wpAny_ite_split (fun q=>absurd q (by decide)) (fun _=>?_)
 refine wpAny_ite_split (fun _=>?_) (fun q=>absurd (by decide +kernel) q)
 exact a8 (a7R hS.ty (b6 h))
theorem b2t{R:b1V->d4->Prop}{D:Addr}{res:Value}{c0:Nat}(hh:A.handled=none)(hS:a3D P w s.heap z ks)(hD:s.heap.get? D=some { cls:=.type "list",data:=.seq #[] c0 })(hl:ks.length<=i8)
  (hR:∀s' (acc:Array Value) c',(∀b o,b≠D->s.heap.get? b=some o->s'.heap.get? b=some o)->s'.gens=s.gens->s'.os=s.os->s.toks<=s'.toks->s'.heap.get? D=some { cls:=.type "list",dict:=none,data:=.seq acc c',slots := #[] }->(∀v∈acc.toList,∃x t,v=.str x t)->(acc.toList.map strOf).Perm ks->R (.ok (.ret res)) s') :
  wpAny (model P w) A.in1 (Builtin.List.listExtendWith (.ref D) (.ref z) res) (fun fin s'=>match fin with | .done f=>R (.ok f) s' | .again c'=>c'.quiet=true/\a1r (model P w) A c' R s') (fun e s'=>R (.error e) s') s:=by
 have lD:=d6 hD
 have nDz:D≠z:=fun e=>by
  obtain⟨o,es,ep,t,ho,hx,_⟩:=hS
  rw[<-e,hD]at ho
  cases ho
  exact absurd (Value.type.inj hx.1) (by decide)
 unfold Builtin.List.listExtendWith
 refine a8 (a7R (T := "set") hS.ty ?_)
 have h1:Builtin.List.listSameRef (.ref D) (.ref z)=false:=by simp[Builtin.List.listSameRef,nDz]
 have h2:(Value.type "set" == Value.type "list")=false:=by decide
 have h3:(Value.type "set" == Value.type "tuple")=false:=by decide
 simp only[h1,h2,h3,c7e,U1,if_false]
 refine a8 (b6x (A':=A.in1) (by simpa using hh) hS fun s1 I k1 g1 o1 t1 lI W=>?_)
 obtain⟨ws,fp,St,W,st,hfp,vs,pm⟩:=W.ex
 have lw:ws.length=ks.length:=by have:=pm.length_eq;rw[a9]at this;exact this
 have Df:D∉fp:=fun h=>by
  rcases hfp D h with e | e
  ·exact nDz e
  ·exact absurd lD (Nat.not_lt.mpr e)
 have D1:=k1 _ _ hD
 have key:∀(h:Heap) (c1:Nat),St 0 h->(∀b o,b≠D->s1.heap.get? b=some o->h.get? b=some o)->h.get? D=some { cls:=.type "list",data:=.seq #[] c1 } ->
   a1r (model P w) A (.builtin "list.extend.loop" ⟨[.ref D,.ref I,res],[]⟩) R { s1 with heap:=h }:=fun h c1 hst hk hD1=>by
  refine codeAny_extend_loopS W.toS (by rw[lw];exact hl) D Df res ws.length 0 _ #[] c1 rfl (E9 _) hst hD1 (ItemsOf.nil _) fun s' acc c' hm hD' hacc=>?_
  have ea:acc.toList=ws:=by
   refine c2N fun i=>?_
   by_cases hi:i<ws.length
   ·have ha:i<acc.size:=by rw[hacc.1];exact hi
    have e1:acc[i]? = some acc[i]:=u7 ha
    rw[C2,e1]
    exact(hacc.2 i _ e1).symm
   ·rw[a1x (by rw[z9,hacc.1];omega),a1x (by omega)]
  refine hR s' acc c' (fun b o nb e=>hm.heap b o (fun hmem=>?_) (hk b o nb (k1 _ _ e))) (hm.gens.trans g1) (hm.os.trans o1) (A1 (b7K t1.symm) hm.toks) hD' (by rw[ea];exact vs) (by rw[ea];exact pm)
  rcases d8.mp hmem with q | q
  ·exact nb q
  ·exact absurd (d6 e) (by rw[c7.mp q];exact Nat.not_lt.mpr lI)
 refine a8 (L5 (b8K (s:=s1) (hS.stay fun o e=>k1 _ _ e) ?_))
 refine wpAny_ite_split (fun _=>?_) (fun _=>b6 ⟨a1K b0x _,key s1.heap c0 st (fun b o _ e=>e) D1⟩)
 refine a8 (wpAny_rule ?_)
 refine a8 ?_
 show wpAny (model P w) _ (updateSeq D (·.push .none) >>= fun _=>updateSeq D (·.pop)) _ _ _
 refine a8 (wpAny_updateSeq D1 rfl ?_)
 have D2:=G0 (Obj.mapSeq (·.push Value.none)) D1 rfl
 refine wpAny_updateSeq (hz:=by seq_fits) D2 rfl ?_
 have D3:=G0 (Obj.mapSeq (·.pop)) D2 rfl
 have off:∀b o,b≠D->s1.heap.get? b=some o->((s1.heap.update D (Obj.mapSeq (·.push Value.none))).update D (Obj.mapSeq (·.pop))).get? b=some o:=fun b o nb e=>(a1i _ _ (Ne.symm nb)).trans ((a1i _ _ (Ne.symm nb)).trans e)
 exact b6 ⟨a1K b0x _,key _ _ (W.frame 0 _ _ st fun b hb o e=>off b o (fun q=>Df (q ▸ hb)) e) off D3⟩
theorem b0Q{R:List Value->d4->Prop}(hh:A.handled=none)(hS:a3D P w s.heap z ks)(hl:ks.length<=i8)
  (h:∀s' (acc:List Value),(∀b o,s.heap.get? b=some o->s'.heap.get? b=some o)->s'.gens=s.gens->s'.os=s.os->s.toks<=s'.toks->(∀v∈acc,∃x t,v=.str x t)->(acc.map strOf).Perm ks->R acc s'):wpAny (model P w) A (collect (.ref z)) R E s:=by
 unfold collect
 refine a8 (wpAny_runValue (Y3 entry_proto_collect' ?_))
 rw[Around.under_plainId PySem.F.plain_proto_collect _]
 show wpAny (model P w) A.in1 (newList [] >>= fun l=>again (.builtin "list.__iadd__" ⟨[l,.ref z],[]⟩)) _ _ s
 refine a8 (v0 ?_)
 refine b6 ⟨a1K b1R _,Y3 entry_list_iadd' ?_⟩
 rw[Around.under_plainId b1R _]
 have D1:(s.heap.push { cls:=.type "list",data:=.seq ([]:List Value).toArray }).get? s.heap.objs.size=some { cls:=.type "list",data:=.seq #[] }:=d7 _ rfl
 show wpAny (model P w) A.in1 (Builtin.List.listExtendWith (.ref s.heap.objs.size) (.ref z) (.ref s.heap.objs.size)) _ _ _
 have main:=b2t (A:=A) (P:=P) (w:=w) (s:={ s with heap:=s.heap.push { cls:=.type "list",data:=.seq ([]:List Value).toArray } }) (res:=.ref s.heap.objs.size)
  (R:=fun(q:b1V) (s':d4)=>∃(acc:Array Value) (c':Nat),q=.ok (.ret (.ref s.heap.objs.size))/\(∀b o,s.heap.get? b=some o->s'.heap.get? b=some o)/\s'.gens=s.gens/\s'.os=s.os/\s.toks<=s'.toks/\s'.heap.get? s.heap.objs.size=some { cls:=.type "list",dict:=none,data:=.seq acc c',slots := #[] }/\(∀v∈acc.toList,∃x t,v=.str x t)/\(acc.toList.map strOf).Perm ks)
  hh (hS.stay fun o e=>b8 _ e) D1 hl
  (fun s' acc c' k1 g1 o1 t1 e1 v1 p1=>⟨acc,c',rfl,fun b o e=>k1 b o (j8 (d6 e)) (b8 _ e),g1,o1,t1,e1,v1,p1⟩)
 refine V2 main (fun fin s' x=>?_) fun e s' x=>?_
 ·cases fin with
  | done f=>
   obtain⟨acc,c',e,k1,g1,o1,t1,e1,v1,p1⟩:=x
   cases e
   refine a8 (m:=load s.heap.objs.size) (wpAny_load e1 ?_)
   exact b6 (h s' acc.toList k1 g1 o1 t1 v1 p1)
  | again c1=>
   refine⟨x.1,a2M x.2 fun q s2 y=>?_⟩
   obtain⟨acc,c',rfl,k1,g1,o1,t1,e1,v1,p1⟩:=y
   refine a8 (m:=load s.heap.objs.size) (wpAny_load e1 ?_)
   exact b6 (h s2 acc.toList k1 g1 o1 t1 v1 p1)
 ·obtain⟨_,_,e',_⟩:=x
  cases e'
theorem b8F{Q:Fin->d4->Prop}{acc:List Value}{ss:List Str}(hA:StrsAre acc ss)(hl:acc.length<64)
  (h:∀(h':Heap) (ts:List Str) (out:Array Value) (e:Nat),(∀b o,s.heap.get? b=some o->h'.get? b=some o)->h'.get? s.heap.objs.size=some (seqObj "list" out e)->StrsAre out.toList ts->ts.Perm ss->sortedS ts=true->Q (.done (.ret (.ref s.heap.objs.size))) { s with heap:=h' }) :
  wpAny (model P w) A (do let l <-newList acc;let _ <-a0A [l] (call (.builtin "list.sort") [l] []);ret l) Q E s:=by
 refine a8 (wpAny_newList ?_ (by rw[sizeLine_eq];omega))
 have hL:(s.heap.push (seqObj "list" acc.toArray 0)).get? s.heap.objs.size=some (seqObj "list" acc.toArray 0):=d7 _ rfl
 show wpAny (model P w) _ _ _ _ { s with heap:=s.heap.push (seqObj "list" acc.toArray 0) }
 refine a8 (L5 (E7 slot_list_sort ⟨_,hL,rfl⟩ entry_list_sort (list_sort_treeK strKind_oneLt hL hA.keysOf (fun v1 v2 a4d e=>keyKind_strs (by rw[<-e];exact hA)) hl fun st pm so=>⟨_,rfl,?_⟩) (args_list_sort _)))
 refine b6 ?_
 obtain⟨ts,a1,a2,a3⟩:=sorted_out_str hA pm so
 obtain⟨e,he⟩:=sortedHeap_at (out:=(arrOf st).map (·.2)) hL
 refine h _ ts _ e (fun b o q=>?_) he a1 a2 a3
 have l1:=d6 q
 exact(sortedHeap_old (j8 l1) (by rw[size_push'];exact a3L l1)).trans (b8 _ q)
theorem b2s(hh:A.handled=none)(hS:a3D P w s.heap z ks)(hl:ks.length<64)
  (h:∀(s':d4) (p:Addr) (ts:List Str) (out:Array Value) (e:Nat),(∀b o,s.heap.get? b=some o->s'.heap.get? b=some o)->s'.gens=s.gens->s'.os=s.os->s.toks<=s'.toks->z<p->s'.heap.get? p=some (seqObj "list" out e)->StrsAre out.toList ts->ts.Perm ks->sortedS ts=true->Q (.ref p) s') :
  wpAny (model P w) A (call (.builtin "sorted") [.ref z]) Q E s:=by
 refine Calls.call_function_entry kind_sorted plain_sorted entry_sorted (args_sorted1 _) ?_
 unfold a0b.«sorted»
 refine a8 (m:=checkCount "sorted" 1 1 _) (b6 ?_)
 refine a8 (b0Q (by simpa using hh) hS (by rw[sizeLine_eq];omega) fun s1 acc k1 g1 o1 t1 v1 p1=>?_)
 have la:acc.length=ks.length:=by have:=p1.length_eq;rw[a9]at this;exact this
 have hA:=strsAre_map acc v1
 have zl:z<s1.heap.objs.size:=by
  obtain⟨o,_,_,_,ho,_⟩:=hS
  exact d6 (k1 _ _ ho)
 refine b8F hA (by rw[la];exact hl) fun h' ts out e k2 he a1 a2 a3=>⟨_,rfl,?_⟩
 exact h { s1 with heap:=h' } s1.heap.objs.size ts out e (fun b o q=>k2 _ _ (k1 _ _ q)) g1 o1 t1 zl he a1 (a2.trans p1) a3
end
section
theorem Inv.drw(I:Inv X pins σ H s)(d:Drawn):Inv X pins σ H { s with drawn:=d }:=⟨I.ok,I.os,I.bare,I.base,I.loc,I.cell,I.free,I.freeC,I.pin,I.hok,I.len⟩
def tSS(te:TE):TE:=fun σ H Q=>te σ H fun x H1=>∃(l:Addr) (ss:List Str),x=.ref l/\H1 l=some (.lst (ss.map V.str))/\ss.length<4000/\(∀ds:List Str,ds.Nodup->(∀x∈ds,x∈ss)->ds.length<64) /\
 ∀(p:Addr) (ts:List Str),ts.Nodup->(∀x,x∈ts↔x∈ss)->sortedS ts=true->H1 p=none->Q (.ref p) (upd H1 p (.lst (ts.map V.str)))
theorem c6D{e:Expr}{te:TE}{p p' pos pos':Pos}(hc:X.calm=true)(hg:Gl X "sorted")(hm:X.mg "sorted" = none)(hv:R4 "sorted" = some (.builtin "sorted"))(hg':Gl X "set")(hm':X.mg "set" = none)(hv':R4 "set" = some (.type "set"))(he:PE X e te)
  (hs1:d9 [e] X.env=[(false,eval e X.env)]:=by rfl) (hs2:d9 [Expr.Call (.Name "set" p') [e] [] pos'] X.env=[(false,eval (.Call (.Name "set" p') [e] [] pos') X.env)]:=by rfl) :
  PE X (.Call (.Name "sorted" p) [.Call (.Name "set" p') [e] [] pos'] [] pos) (tSS te):=by
 intro pins s σ H Q I h
 refine a0p (a4m I hg hm hv ?_ (by decide) (by decide))
 refine a5N ?_ hs2 rfl
 rw[hs2]
 refine Calls.spliced_cons ?_
 refine a0p (a4m I hg' hm' hv' ?_ (by decide) (by decide))
 refine P3 ?_ hs1 rfl
 rw[hs1]
 refine Calls.spliced_cons (thn (he pins s σ H _ I h) fun u s1 ⟨x,H1,I1,r1,l,ss,ex,hl,l4,l64,q⟩=>Calls.spliced_nil ?_)
 subst ex
 obtain rfl:u=Value.ref l:=r1
 obtain⟨its,rv,pl,hz⟩:=I1.list (SqL.of hl)
 have hi:=a3g rv (a5n ss)
 have hil:=rv.length
 rw[a9]at hil
 have hh:=I.ok.hd hc
 obtain⟨val,hval⟩:∃val:Nat->Str,val=fun i=>ss.getD i ⟨#[]⟩:=⟨_,rfl⟩
 have mm:∀x,x∈met val its.toArray.size↔x∈ss:=fun x=>by
  rw[b5F,hval]
  constructor
  ·rintro⟨j,hj,rfl⟩
   rw[g7]at hj
   show ss.getD j ⟨#[]⟩∈ss
   rw[U0,c8 (show j<ss.length by omega)]
   exact y9 _
  ·intro hx
   obtain⟨j,hj,e⟩:=b7Q.mp hx
   exact⟨j,by rw[g7];omega,by show ss.getD j ⟨#[]⟩=x;rw[U0,c8 hj];exact e⟩
 refine b6y hh pl.isList (by simpa using hi) (by rw[g7];show its.length+1<4096;omega) fun h2 tk S2 kp ht lt=>Calls.spliced_nil ?_
 rw[<-hval]at S2
 refine b2s (s:={ s1 with heap:=h2,toks:=tk }) hh S2 (l64 _ (a8P _ _) fun x hx=>(mm x).mp hx) fun s3 a ts out c k3 g3 o3 t3 zl he a1 a2 a3=>?_
 obtain⟨h3,gg,dd,tt,oo⟩:=s3
 have g3:gg=s1.gens:=g3
 have o3:oo=s1.os:=o3
 subst g3 o3
 have fresh:H1 a=none:=I1.hok.fresh (a1q zl)
 have nd:ts.Nodup:=a2.nodup_iff.mpr (a8P _ _)
 have J:=(I1.laid (h':=h3) (t':=tt) (a:=a) (o:=.lst (ts.map V.str)) (fun b u z=>k3 _ _ (kp b u (d6 z) z)) (a1q zl) ⟨by rw[a9,a2.length_eq,sizeLine_eq];have:=l64 _ (a8P val its.toArray.size) fun x hx=>(mm x).mp hx;omega,out.toList,c,a4z a1,he⟩).drw dd
 exact⟨.ref a,_,J,rfl,q a ts nd (fun x=>(a2.mem_iff).trans (mm x)) a3 fresh⟩
end
section
def b1a:List V->Hp->VK->Prop:=fun vs H Q=>∃(l:Addr) (ss:List Str),vs=[.ref l]/\H l=some (.lst (ss.map V.str))/\ss.length<64/\∀(p:Addr) (ts:List Str),ts.Perm ss->sortedS ts=true->H p=none->Q (.ref p) (upd H p (.lst (ts.map V.str)))
theorem b3s:R8 X (.builtin "sorted") b1a:=fun pins s σ H xs us Q I r h=>by
 obtain⟨l,ss,rfl,hl,hn,q⟩:=h
 obtain⟨u,rfl,ru⟩:=a2j r
 cases ru
 obtain⟨its,rv,pl,hz⟩:=I.list (SqL.of hl)
 have hi:=a3g rv (a5n ss)
 have hil:=rv.length
 rw[a9]at hil
 refine sorted_strs pl.isList hi (by omega) fun out ts a1 a2 a3=>?_
 obtain⟨c,he⟩:=sortedAll_at s.heap its out
 have hl':=a2.length_eq
 refine⟨.ref _,_,I.laid (t':=s.toks) (a:=s.heap.objs.size+1) (o:=.lst (ts.map V.str)) (fun b ob q=>sortedAll_old q) (W4 _) ⟨by rw[a9,sizeLine_eq];omega,out.toList,c,a4z a1,he⟩,rfl,q _ ts a2 a3 (I.hok.fresh (W4 _))⟩
end
def a4i(i:Int):Str:=toString i
section
variable {e:Expr}{te:TE}{j:Nat}{pos pos1 pos2:Pos}{p:Str}
theorem b0n{i:Int}(h0:0<=i)(h1:i<10 ^ 10):i.natAbs.log2<1920:=by
 by_cases z:i.natAbs=0
 ·rw[z];decide +kernel
 ·exact b7I ((Nat.log2_lt z).mpr (show i.natAbs<2 ^ 40 by omega)) (by decide)
def b5y:List V->Hp->VK->Prop:=fun xs H Q=>∃i:Int,xs=[.int i]/\0<=i/\i<10 ^ 10/\Q (.str (a4i i)) H
theorem b5c:R8 X (.type "str") b5y:=b1z.imp fun xs H Q ⟨i,e,h0,h1,q⟩=>⟨i,e,b0n h0 h1,q⟩
def tFK(p:Str)(te:TE):TE:=fun σ H Q=>te σ H fun x H1=>∃i:Int,x=.int i/\0<=i/\i<10 ^ 10/\Q (.str (p++a4i i)) H1
theorem c6I(he:PE X e te)(hp:p.length<=100:=by decide):PE X (.JoinedStr [.Constant (.str p) j pos1,.FormattedValue e (-1) none pos2] pos) (tFK p te):=by
 intro pins s σ H Q I h
 have ep:(Str.empty++p)=p:=Str.append_left_empty rfl
 refine JoinedStr_many (joinParts_cons (Calls.Constant_str ⟨?_,?_⟩))
 ·rw[ep]
  exact A1 hp (by decide)
 rw[ep]
 refine joinParts_cons (FormattedValue_plain (thn (he pins _ σ H _ (I.tok _) h) fun u s1 hu=>?_))
 obtain⟨x,H1,I1,r1,i,rfl,h0,h1,q⟩:=hu
 obtain⟨t,rfl⟩:=r1
 have hlen:(p++a4i i).length<=i8:=by
  rw[strLen_append]
  have:(a4i i).length<=10:=b3D h0 h1
  exact A1 (show p.length+(a4i i).length<=110 by omega) (by decide)
 refine formatField_int_small (b0n h0 h1) ⟨hlen,?_⟩
 exact joinParts_nil ⟨.str _,H1,(I1.tok _).tok _,⟨_,rfl⟩,q⟩ hlen
end
end L2
namespace PySem
open Sem (wp)
section
variable {prog:u4}{w:World}{A:F2}{E:Value->d4->Prop}{s:d4}
theorem values_raw(d:Addr)(hd:(d == V4)=false):MeetsIn prog w (a0b.«dict.values» ⟨[.ref d],[]⟩) (fun _ R s=>(∃es ep,Raw s.heap d es ep) /\
   R (.ok (.ret (.ref s.heap.objs.size))) { s with heap:=s.heap.push { cls:=.type "dict_values",data:=.fields #[.ref d] } }):=
 .of_wp fun A R s ⟨⟨es,ep,hm⟩,h⟩=>by
  refine a8 ?_
  unfold Builtin.Dict.noArgs
  refine a8 (a2L hm.typeIs ?_)
  show wpAny _ _ (pure d) _ _ s
  refine b6 ?_
  show wpAny _ _ (Builtin.Dict.showsAll d >>= _) _ _ s
  unfold Builtin.Dict.showsAll
  rw[if_neg (by rw[hd];exact j5)]
  exact a8 (b6 (a8 (v0 (b6 ⟨_,rfl,h⟩))))
theorem len_raw(d:Addr)(hd:(d == V4)=false):MeetsIn prog w (a0b.«dict.__len__» ⟨[.ref d],[]⟩) (fun _ R s=>∃es ep,Raw s.heap d es ep/\R (.ok (.ret (.int es.size s.toks))) { s with toks:=s.toks+1 }):=
 .of_wp fun A R s ⟨es,ep,⟨o,ho,hc,hdat⟩,h⟩=>by
  show wpAny _ _ (dictSize d >>= _) _ _ s
  unfold dictSize
  refine a8 (a8 (V3 ho hdat (b6 ?_)))
  show wpAny _ _ (Builtin.Dict.pendingCount d >>= _) _ _ s
  refine a8 (wpAny_pendingCount_other hd (wpAny_ret_mkInt ?_))
  rw[Nat.add_zero]
  exact h
theorem clear_raw(d:Addr):MeetsIn prog w (a0b.«dict.clear» ⟨[.ref d],[]⟩) (fun _ R s=>∃es ep,Raw s.heap d es ep/\es.size<=i8 /\
   ∀h',Raw h' d #[] (ep+1)->Heap.SameBut d s.heap h'->R (.ok (.ret .none)) { s with heap:=h' }):=
 .of_wp fun A R s ⟨es,ep,hm,hsz,h⟩=>by
  obtain⟨o,ho,hc,hdat⟩:=id hm
  unfold a0b.«dict.clear»
  refine a8 ?_
  unfold Builtin.Dict.noArgs
  refine a8 (a2L hm.typeIs ?_)
  show wpAny _ _ (pure d) _ _ s
  refine b6 (a8 (V3 ho hdat (a8 ?_)))
  unfold bearsInstanceDictMark
  refine a8 (wpAny_load ho (b6 (a8 (wpAny_updateDictKeys (hz:=hsz) ho hdat ?_))))
  have hnew:Raw (s.heap.update d (Obj.mapDictKeys fun _ => #[])) d #[] (ep+1):=⟨_,G0 _ ho (Obj.isFreed_of_dict (Obj.data_mapDictKeys hdat _)),hc.mapDictKeys _,Obj.data_mapDictKeys hdat _⟩
  split
  ·exact a8 (wpAny_letGo (b6 ⟨.none,rfl,h _ hnew (z7 ..)⟩))
  ·exact a8 (b6 (b6 ⟨.none,rfl,h _ hnew (z7 ..)⟩))
theorem viter_raw{v d:Addr}{es:Array Y4}{ep:Nat}{Q:Value->d4->Prop}(hv:s.heap.IsValuesView v d)(hm:Raw s.heap d es ep)
  (hQ:Q (.ref s.heap.objs.size) { s with heap:=s.heap.push { cls:=.type "dict_valueiterator",data:=.fields #[.ref d,.int 0 0,.int es.size 0,.int ep 0] } }):wpAny (model prog w) A (pyIter (.ref v)) Q E s:=by
 obtain⟨ov,hov,hcv,hdv⟩:=id hv
 obtain⟨o,ho,hc,hdat⟩:=id hm
 refine wpAny_pyIter_slot hv.typeIs F.slot_dict_values_iter (E7 F.slot_dict_values_iter hv.typeIs F.entry_dict_values_iter ?_ (F.args_dict_values_iter_1 _))
 unfold a0b.«dict_values.__iter__»
 refine a8 (b6 (a8 ?_))
 unfold Builtin.Dict_items.dictOf
 refine a8 (b7W hov hdv (x:=.ref d) rfl (b6 (a8 ?_)))
 unfold Builtin.Dict_items.newIterator
 refine a8 (V3 ho hdat (a8 (a1I ho hdat ?_)))
 have own:Builtin.Dict_items.ownsTuple "dict_valueiterator" = false:=by decide
 simp only[own,U1,if_false]
 refine v0 (b6 ⟨_,rfl,"dict_valueiterator",_,⟨_,d7 _ rfl,rfl⟩,F.slot_dict_valueiterator_next.lookup,?_⟩)
 simpa[rawInt]using hQ
theorem vnext_raw{it d:Addr}{i ep:Nat}{es:Array Y4}{Q:Option Value->d4->Prop}(hit:s.heap.IsValIter it d i es.size ep)(hm:Raw s.heap d es ep)(hi:i<es.size)
  (hQ:∀h',h'.IsValIter it d (i+1) es.size ep->Heap.SameBut it s.heap h'->Q (some es[i].val) { s with heap:=h' }):wpAny (model prog w) A (a1j (.ref it)) Q E s:=by
 have hT:=hit.typeIs
 obtain⟨o,ho,hc,hd⟩:=id hit
 obtain⟨od,hod,_,hdd⟩:=hm
 have own:Builtin.Dict_items.ownsTuple "dict_valueiterator" = false:=by decide
 unfold a1j
 refine a8 (wpAny_attempt (D6 (name:=Str.ofString "__next__") hT F.slot_dict_valueiterator_next (E7 F.slot_dict_valueiterator_next hT F.entry_dict_valueiterator_next ?_ (F.args_dict_valueiterator_next_1 _))))
 refine a8 (b6 (a8 (a8 (a8 (wpAny_typeNameOfWhole_valiter hT (b6 (a8 (wpAny_fieldsOf ho hd ?_))))))))
 simp only[own,U1,if_false]
 show wpAny _ _ (if(Value.ref d == Value.none)=true then _ else _) _ _ s
 have nn:¬(Value.ref d == Value.none)=true:=(j5:¬false=true)
 rw[if_neg nn]
 refine a8 (b6 (a8 (V3 hod hdd ?_)))
 rw[if_neg (by simp)]
 refine a8 (b6 (a8 (a1I hod hdd ?_)))
 rw[if_neg (by simp)]
 refine b6 ?_
 simp only[show ¬((i:Int)<0) by omega,if_false,i9,u7 hi]
 refine a8 (a8 (wpAny_typeNameOfWhole_valiter hT (b6 (a8 (wpAny_isOneOf_valiter hT ?_)))))
 show wpAny _ _ (setField (.ref it) 1 (rawInt ((i:Int)+1)) >>= _) _ _ s
 refine a8 (wpAny_setField ho hd (by simp) ?_)
 have hit':(s.heap.update it (Obj.mapFields (·.setIfInBounds 1 (rawInt ((i:Int)+1))))).IsValIter it d (i+1) es.size ep:=
  ⟨_,G0 _ ho (Obj.isFreed_of_fields (Obj.data_mapFields hd _)),(Obj.cls_mapFields ..).trans hc,by rw[Obj.data_mapFields hd];simp[rawInt]⟩
 refine a8 (L5 (a8 (wpAny_isOneOf_valiter (s:={ s with heap:=s.heap.update it (Obj.mapFields (·.setIfInBounds 1 (rawInt ((i:Int)+1)))) }) hit'.typeIs ?_)))
 refine a8 (wpAny_isOneOf_valiter (s:={ s with heap:=s.heap.update it (Obj.mapFields (·.setIfInBounds 1 (rawInt ((i:Int)+1)))) }) hit'.typeIs ?_)
 show wpAny _ _ (pure es[i].val) _ _ _
 exact b6 (b6 ⟨_,rfl,b6 (hQ _ hit' (z7 ..))⟩)
theorem vend_raw{it d:Addr}{i ep:Nat}{es:Array Y4}{Q:Option Value->d4->Prop}(hh:A.handled=none)(hit:s.heap.IsValIter it d i es.size ep)(hm:Raw s.heap d es ep)(hi:es.size<=i)
  (hQ:∀h',Heap.ExtBut it s.heap h'->Q none { s with heap:=h' }):wpAny (model prog w) A (a1j (.ref it)) Q E s:=by
 have hT:=hit.typeIs
 obtain⟨o,ho,hc,hd⟩:=id hit
 obtain⟨od,hod,_,hdd⟩:=hm
 have own:Builtin.Dict_items.ownsTuple "dict_valueiterator" = false:=by decide
 unfold a1j
 refine a8 (wpAny_attempt (D6 (name:=Str.ofString "__next__") hT F.slot_dict_valueiterator_next (E7 F.slot_dict_valueiterator_next hT F.entry_dict_valueiterator_next ?_ (F.args_dict_valueiterator_next_1 _))))
 refine a8 (b6 (a8 (a8 (a8 (wpAny_typeNameOfWhole_valiter hT (b6 (a8 (wpAny_fieldsOf ho hd ?_))))))))
 simp only[own,U1,if_false]
 show wpAny _ _ (if(Value.ref d == Value.none)=true then _ else _) _ _ s
 have nn:¬(Value.ref d == Value.none)=true:=(j5:¬false=true)
 rw[if_neg nn]
 refine a8 (b6 (a8 (V3 hod hdd ?_)))
 rw[if_neg (by simp)]
 refine a8 (b6 (a8 (a1I hod hdd ?_)))
 rw[if_neg (by simp)]
 refine b6 ?_
 simp only[show ¬((i:Int)<0) by omega,if_false,i9,X6 hi]
 refine a8 (a8 (wpAny_typeNameOfWhole_valiter hT (b6 ?_)))
 show wpAny _ _ (setField (.ref it) 0 .none >>= _) _ _ s
 refine a8 (wpAny_setField ho hd (by simp) ?_)
 refine a8 ?_
 simp only[newExc,newTuple]
 refine a8 (v0 ?_ (by size_fits))
 refine a8 (m:=firstArgMember _ _) (wpAny_of_eq (a:=Value.none) (by simp only[firstArgMember];rfl) (v0 ?_ (by size_fits)))
 simp only[raiseNew]
 refine a8 (wpAny_handled ?_)
 rw[show A.in1.handled=none from hh]
 refine a8 (b6 (wpAny_throw ?_))
 refine a8 (wpAny_isInstance (T := "StopIteration") (b:=true) (show Shared.TypeIs _ (.ref _) _ from⟨_,d7 _ rfl,rfl⟩) isSubtype_stop (b6 (hQ _ ?_)))
 exact((z7 ..).extBut.push _).push _
theorem IsValIter.at{h h':Heap}{it d:Addr}{i n ep:Nat}(x:h.IsValIter it d i n ep)(e:∀o,h.get? it=some o->h'.get? it=some o):h'.IsValIter it d i n ep:=let⟨o,h1,r⟩:=x; ⟨o,e _ h1,r⟩
theorem vwalks_raw(hh:A.handled=none)(I d:Addr)(hne:d≠I)(es:Array Y4)(ep:Nat) :
  Walks prog w A I [I,d] [I] es.size (fun i v=>∃e,es[i]? = some e/\v=e.val) (fun i h=>h.IsValIter I d i es.size ep/\Raw h d es ep) where
 sub:=fun b hb=>by simp at hb;simp[hb]
 frame:=fun _ _ _ st hk=>⟨IsValIter.at st.1 fun o e=>hk I (by simp) o e,st.2.at fun o e=>hk d (by simp) o e⟩
 item:=fun i s Q E hi st hQ=>vnext_raw st.1 st.2 hi fun h' hit' hs'=>hQ _ h' s.toks ⟨_,u7 hi,rfl⟩ ⟨hit',st.2.at fun o e=>hs'.extBut d o hne e⟩ fun b o hb e=>hs'.extBut b o (fun h=>hb (by simp[h])) e
 done:=fun s Q E st hQ=>vend_raw hh st.1 st.2 (d3 _) fun h' he'=>hQ h' s.toks fun b o hb e=>he' b o (fun h=>hb (by simp[h])) e
 self:=fun _ _ _ _ st hQ=>wpAny_pyIter_valiter st.1 hQ
theorem vlist_raw{r d:Addr}{es:Array Y4}{ep:Nat}:PySem.W.KdlSrc prog w "dict_values" r d es.size (fun i v=>∃e,es[i]? = some e/\v=e.val) (fun h=>h.IsValuesView r d/\Raw h d es ep) where
 type:=fun s hm=>hm.1.typeIs
 there:=fun _ hm=>⟨let⟨_,ho,_⟩:=hm.1;d6 ho,let⟨_,h1,_⟩:=hm.2;d6 h1⟩
 keep:=fun _ _ hm hk=>⟨let⟨o,ho,x⟩:=hm.1; ⟨o,hk r (.inl rfl) o ho,x⟩,hm.2.at fun o e=>hk d (.inr rfl) o e⟩
 notList:=by decide
 notTuple:=by decide
 hint:=fun _ _ _ _ hm hq=>PySem.W.kdl_hint_values hm.1.typeIs hq
 iter:=fun _ _ hh hm=>⟨_,_,(fun _ _ hq=>viter_raw hm.1 hm.2 hq),vwalks_raw hh _ d (j8 (let⟨_,h1,_⟩:=hm.2;d6 h1)) es ep,⟨⟨_,d7 _ rfl,rfl,rfl⟩,hm.2.at fun _ e=>b8 _ e⟩⟩
end
end PySem
namespace L2
open PySem PySem.Spec PyProof.Rows
section
variable {X:Cx}
def vwO(v d:Addr):HO:=.ext fun h=>h.IsValuesView v d
theorem a7K{P:u4}{w:World}{H:Hp}{h:Heap}{a:Addr}{kvs:List (List Key×V)}(ok:HOk P w H h)(e:H a=some (.dT kvs)):kvs.length<=i8/\(a == V4)=false/\∃es ep,Raw h a es ep/\es.size=kvs.length/\∀(i:Nat) en,es[i]? = some en->∃k y,kvs[i]? = some (k,y)/\C7 y en.val:=by
 obtain⟨z,hd,xs,r,o,es,ep,h1,h2,h3,h4,_⟩:=c0f ok e
 have hl:=Paired.length r
 have hs:=size_of_entries h4
 refine⟨z,hd,es,ep,⟨o,h1,h2,h3⟩,by omega,fun i en he=>?_⟩
 rw[<-C2,h4,b7]at he
 obtain⟨⟨k,p,v⟩,hx,rfl⟩:=j4.mp he
 obtain⟨y,f1,f2,_⟩:=b9S r hx
 exact⟨k,y,f1,f2⟩
def b9b:V->List V->Hp->VK->Prop:=fun x vs H Q=>∃a kvs,x=.ref a/\vs=[]/\H a=some (.dT kvs)/\∀v,H v=none->Q (.ref v) (upd H v (vwO v a))
theorem b9M:MtR X "dict.values" b9b:=fun pins s σ H x xs v us Q I rx rv h=>by
 obtain⟨a,kvs,rfl,rfl,ha,q⟩:=h
 cases rx
 cases rv
 obtain⟨_,hd,es,ep,hR,_⟩:=a7K I.hok ha
 refine call_meetsIn b1M hR.typeIs PySem.F.entry_dict_values (PySem.F.args_dict_values_1 _) (values_raw a hd) ⟨⟨es,ep,hR⟩,?_⟩
 have hv:(s.heap.push { cls:=.type "dict_values",data:=.fields #[.ref a] }).IsValuesView s.heap.objs.size a:=⟨_,d7 _ rfl,rfl,rfl⟩
 refine⟨.ref _,_,I.laid (t':=s.toks) (a:=s.heap.objs.size) (o:=vwO s.heap.objs.size a) (fun b u e=>b8 _ e) (d3 _) ?_,rfl,q _ (I.hok.fresh (d3 _))⟩
 exact⟨hv,let⟨o,e,_⟩:=hv; ⟨o,e⟩,fun h1 h2 ⟨o,e,r⟩ k=>⟨o,k _ e,r⟩⟩
def b4q:List V->Hp->VK->Prop:=fun xs H Q=>∃v a kvs,xs=[.ref v]/\H v=some (vwO v a)/\H a=some (.dT kvs)/\∀l,H l=none->Q (.ref l) (upd H l (.lst (kvs.map (·.2))))
theorem b3t(hc:X.calm=true):R8 X (.type "list") b4q:=fun pins s σ H xs us Q I r h=>by
 obtain⟨v,a,kvs,rfl,hv,ha,q⟩:=h
 obtain⟨u,rfl,ru⟩:=a2j r
 cases ru
 obtain⟨hz,hd,es,ep,hR,hs,hk⟩:=a7K I.hok ha
 obtain⟨hw,_⟩:=(show Q7 X.prog X.w H s.heap v (vwO v a)from I.hok v _ hv)
 refine c0x (vlist_raw (es:=es) (ep:=ep)) (I.ok.hd hc) ⟨hw,hR⟩ (by omega) fun h' tk acc c hkp ha hit=>?_
 refine⟨.ref _,_,I.laid (t':=tk) (a:=s.heap.objs.size) (o:=.lst (kvs.map (·.2))) hkp (d3 _) ?_,rfl,q _ (I.hok.fresh (d3 _))⟩
 refine⟨by rw[a9];omega,acc.toList,c,?_,by simpa using ha⟩
 refine b0J (by have:=hit.1;rw[a9];simp;omega) fun i x u a b=>?_
 obtain⟨en,e1,e2⟩:=hit.2 i u (by rw[<-C2];exact b)
 obtain⟨k,y,e3,e4⟩:=hk i en e1
 rw[b7,e3]at a
 cases a
 rw[e2]
 exact e4
def b9d:List V->Hp->VK->Prop:=fun xs H Q=>∃a kvs,xs=[.ref a]/\H a=some (.dT kvs)/\Q (.int kvs.length) H
theorem b5e:R8 X (.builtin "len") b9d:=fun pins s σ H xs us Q I r h=>by
 obtain⟨a,kvs,rfl,ha,q⟩:=h
 obtain⟨u,rfl,ru⟩:=a2j r
 cases ru
 obtain⟨hz,hd,es,ep,hR,hs,_⟩:=a7K I.hok ha
 have hz':(es.size:Int)<2 ^ 63:=by rw[hs];rw[sizeLine_eq]at hz;omega
 refine Calls.call_function_entry kind_len plain_len entry_len (args_len1 _) ?_
 unfold a0b.«len»
 refine a8 (m:=oneArg "len" _) (b6 ?_)
 refine a8 (m:=callSpecial? (.ref a) (Str.ofString "__len__")) (D6 (name:=Str.ofString "__len__") hR.typeIs b3F
  (call_meetsIn b3F hR.typeIs PySem.F.entry_dict_len (PySem.F.args_dict_len_1 _) (len_raw a hd) ⟨es,ep,hR,?_⟩))
 show wpAny _ _ _ _ _ { s with toks:=s.toks+1 }
 refine a8 (L5 (b6 (a8 (wpAny_letGo ?_))))
 show wpAny _ _ (if((es.size:Nat):Int)<0 then _ else _) _ _ _
 rw[if_neg (by omega)]
 show wpAny _ _ (if((es.size:Nat):Int) ≥ 2 ^ 63 then _ else _) _ _ _
 rw[if_neg (by omega)]
 rw[hs]
 exact a8 (wpAny_mkInt (b6 ⟨_,rfl,.int kvs.length,H,(I.tok _).tok _,⟨_,rfl⟩,q⟩))
def b1c:V->List V->Hp->VK->Prop:=fun x vs H Q=>∃a kvs,x=.ref a/\vs=[]/\H a=some (.dT kvs)/\Q .non (upd H a (.dT []))
theorem b4K:MtR X "dict.clear" b1c:=fun pins s σ H x xs v us Q I rx rv h=>by
 obtain⟨a,kvs,rfl,rfl,ha,q⟩:=h
 cases rx
 cases rv
 obtain⟨hz,hd,es,ep,hR,hs,_⟩:=a7K I.hok ha
 refine call_meetsIn b1Q hR.typeIs PySem.F.entry_dict_clear (PySem.F.args_dict_clear_1 _) (clear_raw a) ⟨es,ep,hR,by omega,fun h' ⟨o,e1,e2,e3⟩ sb=>?_⟩
 exact⟨.non,_,a7P (t':=s.toks) (ob:=.dT []) I (by rw[ha];exact True.intro) sb ⟨o,e1⟩ ⟨E9 _,hd,[],.nil,o,#[],ep+1,e1,e2,e3,rfl,a2K⟩,rfl,q⟩
end
end L2
namespace Y
open PySem PySem.Spec PyProof.Rows L2
structure y'E(X:Cx)(e:Expr)(t:TE):Prop where h:PE X e t
structure y'A(X:Cx)(e:List Expr)(t:TA):Prop where h:PA X e t
structure y'S(X:Cx)(e:Stmt)(t:TS):Prop where h:PS X e t
structure a8c(X:Cx)(e:List Stmt)(t:TS):Prop where h:PSs X e t
structure y'T(X:Cx)(e:Expr)(t:TT):Prop where h:PT X e t
structure y'W(X:Cx)(e:Expr)(t:TT):Prop where h:PW X e t
structure b8l(X:Cx)(e:List Expr)(t:TT):Prop where h:PTs X e t
structure b0I(X:Cx)(tg e:Expr)(t:TI):Prop where h:PI X tg e t
structure y'G(X:Cx)(e:Expr)(t:TG):Prop where h:PG X e t
structure c0R(X:Cx)(e:List Expr)(t:TGs):Prop where h:PGs X e t
structure y'O(X:Cx)(e:Option Expr)(t:TO):Prop where h:PO X e t
structure V9(X:Cx)(f:Value->Value->Sem Value)(r:R2):Prop where h:OpR X f r
structure c7O(X:Cx)(f:Value->Sem Value)(r:V->Hp->VK->Prop):Prop where h:UnR X f r
structure U4(X:Cx)(f:Value)(r:List V->Hp->VK->Prop):Prop where h:R8 X f r
structure a7l(X:Cx)(id:String)(r:V->List V->Hp->VK->Prop):Prop where h:MtR X id r
structure c2W(X:Cx)(r:R2):Prop where h:IxR X r
structure b8m(X:Cx)(r:V->Option Int->Option Int->Hp->VK->Prop):Prop where h:SlR X r
structure b3R(X:Cx)(t:a9P):Prop where h:c0s X t
structure b8o(X:Cx)(t:V->V->Hp->VK->Prop):Prop where h:c5E X t
structure b8n(X:Cx)(op:a9t)(t:TIp):Prop where h:PIp X op t
section
variable {X:Cx}{st:Stmt}{a4d:List Stmt}{t u:TS}{e a b c o i:Expr}{es more:List Expr}{te ta tb tc to ti:TE}{tt tu:TT}{tr:TA}{pos p pos':Pos}{x:Str}
theorem o0:a8c X [] E2:=⟨L2.c1s⟩
theorem b5(h1:y'S X st t)(h2:a8c X a4d u):a8c X (st::a4d) (u8 t u):=⟨L2.b9i h1.h h2.h⟩
theorem c5(h1:y'S X st t):a8c X [st] t:=⟨L2.c1r h1.h⟩
theorem b8c{n:Nat}(hN:X.N.Nodup)(hi:X.N[n]? = some x)(hx:Loc X.env.scope x)(he:y'E X e te)(hs:a1J e (some (.Name x pos')) pos.line X.env=pure false:=by rfl)(hf:X.fn x=true\/X.env.scope.names.lookup x=some .local:=by first | exact .inl rfl | exact .inr rfl) :
  y'S X (.Assign [.Name x pos'] e pos) (E5 te (o5 n)):=⟨L2.c4l hN hi hx he.h hs hf⟩
theorem a2Q{tg:Expr}{g:TG}(he:y'E X e te)(hg:y'G X tg g)(hs:swapsWithSole [tg] e pos.line X.env=pure false:=by rfl)(hw:swappedStores [tg] e X.env=pure none:=by rfl)
  (h1:(a0Q [tg] X.env).map (·.2)=[a9S tg X.env]:=by rfl):y'S X (.Assign [tg] e pos) (E5 te g):=⟨L2.c4p he.h hg.h hs hw h1⟩
theorem b6e{tget:V->V->Hp->VK->Prop}{tip:TIp}{tset:a9P}{op:a9t}(ho:y'E X o to)(hi:y'E X i ti)(hg:b8o X tget)(he:y'E X e te)(hp:b8n X op tip)(hs:b3R X tset)
  (ha:∀ov iv new,augStore i ov iv new=(do a0A [new,ov,iv] (c3u ov iv new);release [new,ov,iv] [];pure .next):=by intros;rfl):y'S X (.AugAssign (.Subscript o i p) op e pos) (b5m to ti te tget tip tset):=⟨L2.c1w ho.h hi.h hg.h he.h hp.h hs.h ha⟩
theorem b1X{n:Nat}{op:a9t}{tip:TIp}(hN:X.N.Nodup)(hi:X.N[n]? = some x)(hx:Loc X.env.scope x)(he:y'E X e te)(ho:b8n X op tip)(hf:X.fn x=true\/X.env.scope.names.lookup x=some .local:=by first | exact .inl rfl | exact .inr rfl) :
  y'S X (.AugAssign (.Name x pos') op e pos) (b8E n te tip):=⟨L2.c4o hN hi hx he.h ho.h hf⟩
theorem v8{la lb:List Stmt}(hc:y'T X c tt)(ha:a8c X la t)(hb:a8c X lb u):y'S X (.If c la lb pos) (O0 tt t u):=⟨L2.c6C hc.h ha.h hb.h⟩
theorem l9(he:y'E X e te):y'S X (.Return (some e) pos) (J3 te):=⟨L2.c4m he.h⟩
theorem K0(he:y'E X e te)(hs:a1J e none pos.line X.env=pure false:=by rfl):y'S X (.Expr e pos) (a0r te):=⟨L2.c1u he.h hs⟩
theorem J1{tg:Expr}{wi:TI}{g:TG}{body:List Stmt}(hp:b1W (model X.prog X.w) X.A X.env X.xe)(hc:X.calm=true)(hi:b0I X tg e wi)(hg:y'G X tg g)(hb:a8c X body t)
  (hs:∀x,M5 e X.env x=pure x:=by intro _;rfl):y'S X (.For tg e body [] pos) (a1k wi g t):=⟨L2.b9l hp hc hi.h hg.h hb.h hs⟩
theorem b6g{n:Nat}(hN:X.N.Nodup)(hi:X.N[n]? = some x)(hx:Loc X.env.scope x)(hf:X.fn x=true\/X.env.scope.names.lookup x=some .local:=by first | exact .inl rfl | exact .inr rfl):y'G X (.Name x pos) (o5 n):=⟨L2.b1f hN hi hx hf⟩
theorem a0T:c0R X [] a8Y:=⟨L2.b5C⟩
theorem K9{g:TG}{gs:TGs}(h1:y'G X e g)(h2:c0R X es gs)(h:(a0Q (e::es) X.env).map (·.2)=a9S e X.env::(a0Q es X.env).map (·.2):=by rfl):c0R X (e::es) (a0u g gs):=⟨L2.a8D h1.h h2.h h⟩
theorem a1N{k n:Nat}{gs:TGs}(hc:X.calm=true)(h:c0R X es gs)(hn:(a0Q es X.env).length=n:=by rfl)(hst:(a0Q es X.env).findIdx? (·.1)=none:=by rfl):y'G X (.Tuple es k pos) (a8X X.K n gs):=⟨L2.b9q hc h.h hn hst⟩
theorem a7W{ts:a9P}(ho:y'E X o to)(hi:y'E X i ti)(hs:b3R X ts)
  (ha:∀v,a9S (.Subscript o i pos) X.env v=(do
   let ov <-a0A [v] (eval o X.env)
   let iv <-a0A [v,ov] (eval i X.env)
   a7T pos
   a0A [v,ov,iv] (c3u ov iv v)
   release [v,ov,iv] []):=by intro _;rfl):y'G X (.Subscript o i pos) (b7l to ti ts):=⟨L2.c4s ho.h hi.h hs.h ha⟩
theorem L7{tg:Expr}(hg:Gl X "range")(hm:X.mg "range" = none)(ha:y'A X [a] tr)(hs:d9 [a] X.env=[(false,eval a X.env)]:=by rfl):b0I X tg (.Call (.Name "range" p) [a] [] pos) (a1z tr):=⟨L2.b6M hg hm ha.h hs⟩
theorem C5{tg:Expr}(h:y'E X e te):b0I X tg e (R7 X.K te):=⟨L2.c1A h.h⟩
theorem M8:y'A X [] g0:=⟨L2.c4H⟩
theorem F9(ha:y'E X e te)(hr:y'A X es tr)(hs:d9 (e::es) X.env=(false,eval e X.env)::d9 es X.env:=by rfl):y'A X (e::es) (b4 te tr):=⟨L2.c1M ha.h hr.h hs⟩
theorem F8:b8l X [] V0:=⟨L2.c1p⟩
theorem a9T(h:y'T X e tt):b8l X [e] tt:=⟨L2.c1o h.h⟩
theorem J0{elt iter:Expr}{px:Pos}{ifs:List Expr}{scope:Scope}{wi:TI}(hc:N9 X.N X.env.scope scope x)(hcalm:X.calm=true)(hi:b0I X (.Name x px) iter wi)
  (ht:∀cl C fp s3 H3,b8l (T6 X scope cl C x fp s3 H3) ifs tt) (he:∀cl C fp s3 H3,y'E (T6 X scope cl C x fp s3 H3) elt te)
  (hs:∀x,M5 iter X.env x=pure x:=by intro _;rfl):y'E X (.ListComp elt [⟨.Name x px,iter,ifs,0⟩] scope pos) (V1 wi tt te):=
 ⟨L2.c1I hc hcalm hi.h (fun cl C fp s3 H3=>(ht cl C fp s3 H3).h) (fun cl C fp s3 H3=>(he cl C fp s3 H3).h) hs⟩
theorem a5R{elt iter:Expr}{px py spos:Pos}{ifs:List Expr}{scope:Scope}{wi:TI}{n:Nat}{y:Str}(hN:X.N.Nodup)(hiy:X.N[n]? = some y)(hy:X.env.scope.names.lookup y=some .local)(hc:N9 X.N X.env.scope scope x)(hcalm:X.calm=true)(hi:b0I X (.Name x px) iter wi)
  (ht:∀cl C fp s3 H3,b8l (T6 X scope cl C x fp s3 H3) ifs tt) (he:∀cl C fp s3 H3,y'E (T6 X scope cl C x fp s3 H3) elt te)
  (hsw:a1J (.ListComp elt [⟨.Name x px,iter,ifs,0⟩] scope pos) (some (.Name y py)) spos.line X.env=pure true:=by rfl)
  (hs:∀x,M5 iter X.env x=pure x:=by intro _;rfl) :
  y'S X (.Assign [.Name y py] (.ListComp elt [⟨.Name x px,iter,ifs,0⟩] scope pos) spos) (fun D σ H=>V1 wi tt te σ H fun v H1=>D.nx (σ.set n (some v)) H1):=
 ⟨L2.b4v hN hiy hy hc hcalm hi.h (fun cl C fp s3 H3=>(ht cl C fp s3 H3).h) (fun cl C fp s3 H3=>(he cl C fp s3 H3).h) hsw hs⟩
theorem b9{n:Int}{j}:y'E X (.Constant (.int n) j pos) (tC (.int n)):=⟨L2.c4C⟩
theorem S0{v:Bool}{j}:y'E X (.Constant (.bool v) j pos) (tC (.bl v)):=⟨L2.c6K⟩
theorem b1Y{j}:y'E X (.Constant .none j pos) (tC .non):=⟨L2.c4z⟩
theorem v7{j}:y'E X (.Constant (.str x) j pos) (tC (.str x)):=⟨L2.c4v⟩
theorem c6(n:Nat)(hN:X.N[n]? = some x:=by rfl)(hv:Vis X.env.scope x:=by first | exact Or.inl rfl | exact Or.inr (Or.inl rfl) | exact Or.inr (Or.inr rfl))(hd:(x == ("__debug__" : Str))=false:=by decide)
  (hcd:(x == ("__classdict__" : Str))=false:=by decide):y'E X (.Name x pos) (c4 n):=⟨L2.c4t hN hv hd hcd⟩
theorem T7{v:V}{u:Value}(hg:Gl X x)(hm:X.mg x=none)(hv:R4 x=some u)(r:C7 v u)(hn:x ≠ "__name__" := by decide)(hd:(x == ("__debug__" : Str))=false:=by decide):y'E X (.Name x pos) (tC v):=⟨L2.c1L hg hm hv r hn hd⟩
theorem W8{v:V}(hm:∃u,X.mg x=some u/\C7 v u)(hg:Gl X x)(hd:(x == ("__debug__" : Str))=false:=by decide):y'E X (.Name x pos) (tC v):=by
 obtain⟨u,h1,h2⟩:=hm
 exact⟨L2.c1F hg h1 h2 hd⟩
theorem A9{op:a9t}{r:R2}(ho:V9 X (Y0 op) r)(ha:y'E X a ta)(hb:y'E X b tb):y'E X (.BinOp a op b pos) (tOp r ta tb):=⟨L2.c6F ho.h ha.h hb.h⟩
theorem b8g(ha:y'E X a ta):y'E X (.UnaryOp .Not a pos) (b2k ta):=⟨L2.c4y ha.h⟩
theorem a2T{op:CmpOp}{r:R2}(ho:V9 X (o9 op) r)(ha:y'E X a ta)(hb:y'E X b tb)(hm:O4 op b=false):y'E X (.Compare a [op] [b] pos) (tOp r ta tb):=⟨L2.c1J ho.h ha.h hb.h hm⟩
theorem X4{op:CmpOp}{r:R2}(ho:V9 X (o9 op) r)(ha:y'E X a ta)(hb:y'E X b tb)(hm:O4 op b=false):y'T X (.Compare a [op] [b] pos) (C8 (tOp r ta tb)):=⟨L2.c1q ho.h ha.h hb.h hm⟩
theorem a7Y{op op':CmpOp}{r r':R2}(ho:V9 X (o9 op) r)(ho':V9 X (o9 op') r')(ha:y'E X a ta)(hb:y'E X b tb)(hc:y'E X c tc)
  (hm:c5X [op,op'] [b,c]=false:=by with_unfolding_all rfl):y'E X (.Compare a [op,op'] [b,c] pos) (a4a r r' ta tb tc):=⟨L2.b9x ho.h ho'.h ha.h hb.h hc.h hm⟩
theorem b3M{op op':CmpOp}{r r':R2}(ho:V9 X (o9 op) r)(ho':V9 X (o9 op') r')(ha:y'E X a ta)(hb:y'E X b tb)(hc:y'E X c tc)
  (hm:c5X [op,op'] [b,c]=false:=by with_unfolding_all rfl):y'T X (.Compare a [op,op'] [b,c] pos) (C8 (a4a r r' ta tb tc)):=⟨L2.b9h ho.h ho'.h ha.h hb.h hc.h hm⟩
theorem V8{op}(h:y'E X a te):y'E X (.BoolOp op [a] pos) te:=⟨L2.c4x h.h⟩
theorem R6(ha:y'E X a ta)(hb:y'E X (.BoolOp .And (b::more) pos) tb):y'E X (.BoolOp .And (a::b::more) pos) (a0B ta tb):=⟨L2.c4G ha.h hb.h⟩
theorem c0M(ha:y'E X a ta)(hb:y'E X (.BoolOp .Or (b::more) pos) tb):y'E X (.BoolOp .Or (a::b::more) pos) (c0U ta tb):=⟨L2.c6E ha.h hb.h⟩
theorem a5j(hc:y'T X c tt)(ha:y'E X a ta)(hb:y'E X b tb):y'E X (.IfExp c a b pos) (tIf tt ta tb):=⟨L2.b9t hc.h ha.h hb.h⟩
theorem L0{k}(h:y'A X es tr):y'E X (.Tuple es k pos) (a2f tr):=⟨L2.c4u h.h⟩
theorem A7(h:y'A X es tr):y'E X (.List es pos) (X0 tr):=⟨L2.c4B h.h⟩
theorem a2S:y'O X none a2k:=⟨L2.c1z⟩
theorem a2R(h:y'E X e te):y'O X (some e) (a7o te):=⟨L2.c1y h.h⟩
theorem a1O{lo hi:Option Expr}{tl th:TO}{r:V->Option Int->Option Int->Hp->VK->Prop}(hr:b8m X r)(he:y'E X e te)(hl:y'O X lo tl)(hu:y'O X hi th):y'E X (.Subscript e (.Slice lo hi none p) pos) (tSl r te tl th):=⟨L2.b9r hr.h he.h hl.h hu.h⟩
theorem c0O{r:R2}(hr:c2W X r)(ha:y'E X a ta)(hb:y'E X b tb)(hs:b1K b):y'E X (.Subscript a b pos) (tOp r ta tb):=⟨L2.c6H hr.h ha.h hb.h hs⟩
theorem b8f{k j:Nat}{ps:List Str}{sp:Sp}(C:D9 X.prog X.w X.K X.mg X.base k x ps sp)(hr:O9 j X.A)(hk:k<=j)(hg:Gl X x)(ha:y'A X (e::es) tr)
  (hdb:(x == ("__debug__" : Str))=false:=by decide) (he:d9 (e::es) X.env=(false,eval e X.env)::d9 es X.env:=by rfl) (hpl:(W7 pos (d9 es X.env)).any (·.1)=false:=by rfl) :
  y'E X (.Call (.Name x p) (e::es) [] pos) (u0 sp [] E0 tr):=⟨L2.c4w C hr hk hg ha.h hdb he hpl⟩
theorem g9{id:String}{r:List V->Hp->VK->Prop}(hc:U4 X (.builtin id) r)(hg:Gl X x)(hm:X.mg x=none)(hv:R4 x=some (.builtin id))(ha:y'A X (e::es) tr)(hn:x ≠ "__name__" := by decide)(hdb:(x == ("__debug__" : Str))=false:=by decide)
  (he:d9 (e::es) X.env=(false,eval e X.env)::d9 es X.env:=by rfl) (hpl:(W7 pos (d9 es X.env)).any (·.1)=false:=by rfl):y'E X (.Call (.Name x p) (e::es) [] pos) (tCB r tr):=⟨L2.b9y hc.h hg hm hv ha.h hn hdb he hpl⟩
theorem K5{id:String}{r:List V->Hp->VK->Prop}(hc:U4 X (.type id) r)(hg:Gl X x)(hm:X.mg x=none)(hv:R4 x=some (.type id))(ha:y'A X (e::es) tr)(hn:x ≠ "__name__" := by decide)(hdb:(x == ("__debug__" : Str))=false:=by decide)
  (he:d9 (e::es) X.env=(false,eval e X.env)::d9 es X.env:=by rfl) (hpl:(W7 pos (d9 es X.env)).any (·.1)=false:=by rfl):y'E X (.Call (.Name x p) (e::es) [] pos) (tCB r tr):=⟨L2.b6N hc.h hg hm hv ha.h hn hdb he hpl⟩
theorem a0i{ty id:String}{name:Str}{r:V->List V->Hp->VK->Prop}{apos:Pos}(pa:c2S ty)(slot:Slot ty name id)(hty:typeOf (.builtin id)=pure (.type "method_descriptor"))(hm:a7l X id r)(ho:y'E X o to)(ha:y'A X (e::es) tr)
  (hbase:a0a o name X.env (eval o X.env)=eval o X.env:=by rfl)
  (hfew:((W7 pos (d9 (e::es) X.env)).all (fun x => !x.1)&&(a4W pos (a0z [] X.env)).all (fun x=>x.1.isSome)
   && decide ((e::es).length+([]:List b0D).length+(if([]:List b0D).isEmpty then 0 else 1)<30))=true:=by rfl)
  (hline:(apos.endLine == pos.line)=true:=by rfl) (hs:d9 (e::es) X.env=(false,eval e X.env)::d9 es X.env:=by rfl) (hplain:(W7 pos (d9 es X.env)).any (·.1)=false:=by rfl) :
  y'E X (.Call (.Attribute o name apos) (e::es) [] pos) (tBM X.K ty r to tr):=⟨L2.c6J pa slot hty hm.h ho.h ha.h hbase hfew hline hs hplain⟩
theorem U2(ha:y'T X a tt):y'T X (.UnaryOp .Not a pos) (a3Z tt):=⟨L2.c4k ha.h⟩
theorem a2O(ha:y'T X a tt):y'W X (.BoolOp .And [a] pos) tt:=⟨L2.c1l ha.h⟩
theorem V7(ha:y'T X a tt):y'W X (.BoolOp .Or [a] pos) tt:=⟨L2.c4h ha.h⟩
theorem a3V(ha:y'T X a tt)(hb:y'W X (.BoolOp .And (b::more) pos) tu):y'W X (.BoolOp .And (a::b::more) pos) (b2m tt tu):=⟨L2.c4i ha.h hb.h⟩
theorem Z0(ha:y'T X a tt)(hb:y'W X (.BoolOp .Or (b::more) pos) tu):y'W X (.BoolOp .Or (a::b::more) pos) (tOr tt tu):=⟨L2.c6A ha.h hb.h⟩
theorem R9(h:y'W X e tt):y'T X e tt:=⟨PW.pt h.h⟩
theorem O5(h:y'E X e te)(he:∀whole,isTrue e X.env whole=(do let v <-whole;a7T e.pos;a0A [v] (truthy v)):=by intro _;rfl):y'T X e (tB te):=⟨L2.c4j h.h he⟩
theorem G8:V9 X (Y0 .Add) a0R:=⟨L2.c1U⟩
theorem a4y:V9 X (Y0 .Sub) b6G:=⟨L2.c1N⟩
theorem a2U:V9 X (Y0 .Mult) b4p:=⟨L2.c1P⟩
theorem a0q:V9 X (Y0 .Mod) a9G:=⟨L2.c1Q⟩
theorem a9W:V9 X (Y0 .FloorDiv) c1k:=⟨L2.c1T⟩
theorem C1{k:Nat}(hr:O9 k X.A):V9 X (o9 .Eq) qEq:=⟨L2.c4P hr.units0⟩
theorem a5T{k:Nat}(hr:O9 k X.A):V9 X (o9 .NotEq) qNe:=⟨L2.c4J hr.units0⟩
theorem W9:U4 X (.type "list") a1Z:=⟨L2.b5d⟩
theorem a1Q:V9 X (o9 .Lt) qLt:=⟨L2.c4K⟩
theorem a5U:V9 X (o9 .LtE) qLe:=⟨L2.c4L⟩
theorem a1S:V9 X (o9 .Gt) qGt:=⟨L2.c4N⟩
theorem b8k:V9 X (o9 .GtE) qGe:=⟨L2.c4O⟩
theorem a1R:V9 X (o9 .In) (qIn false):=⟨L2.c4M⟩
theorem b1Z:V9 X (o9 .NotIn) (qIn true):=⟨L2.b6P⟩
theorem b2a:V9 X (o9 .IsNot) b4r:=⟨L2.b6Q⟩
theorem a5k:y'E X (.Dict [] [] pos) a6J:=⟨L2.b9v⟩
theorem a9U{k:Nat}(hr:O9 k X.A)(ho:y'E X o to)(hi:y'E X i ti)(hs:c5F i):y'E X (.Subscript o i pos) (b2l to ti):=⟨L2.c1H (b3a hr) ho.h hi.h hs⟩
theorem b8i{k:Nat}(hr:O9 k X.A)(hi:y'E X i ti)(ho:y'E X o to)(h1:O4 .In o=false):y'E X (.Compare i [.In] [o] pos) (a9A ti to):=⟨L2.c4E (L2.b9z (b3a hr) hi.h ho.h) h1⟩
theorem a7U{k:Nat}(hr:O9 k X.A)(hi:y'E X i ti)(ho:y'E X o to)(h1:O4 .In o=false):y'T X (.Compare i [.In] [o] pos) (tB (a9A ti to)):=⟨L2.b9g (L2.b9z (b3a hr) hi.h ho.h) h1⟩
theorem a2P{k:Nat}(hr:O9 k X.A)(ho:y'E X o to)(hi:y'E X i ti)(hv:y'E X e te)(hs:a1J e (some (.Subscript o i pos')) pos.line X.env=pure false:=by rfl):y'S X (.Assign [.Subscript o i pos'] e pos) (a4c to ti te):=⟨L2.c1v (b3a hr) ho.h hi.h hv.h hs⟩
theorem b8e{tg:Expr}(h:y'E X e te):b0I X tg e (c2q te):=⟨L2.c4r h.h⟩
theorem a7k(hc:X.calm=true):U4 X (.builtin "all") b1d:=⟨L2.b7B hc⟩
theorem c3y:c2W X qIx:=⟨L2.c7E⟩
theorem b0F:b8m X qSl:=⟨L2.c7q⟩
theorem b6c:b8m X (c3Z X.K):=⟨L2.b5p⟩
theorem a7E:b3R X b1b:=⟨L2.c6a⟩
theorem c0P:b8o X b6I:=⟨L2.c6W⟩
theorem a8a:b8n X .Add (ipI fun i j=>i+j):=⟨L2.c5s⟩
theorem p8:U4 X (.builtin "len") W6:=⟨L2.b7y⟩
theorem b2f:U4 X (.builtin "abs") b9e:=⟨L2.b7C⟩
theorem L8:U4 X (.builtin "isinstance") a3N:=⟨L2.b7z⟩
theorem U3:a7l X "list.append" Z5:=⟨L2.b4L⟩
end
theorem b2c{P:u4}{w:World}{K:Fg}{mg:Str->Option Value}{base:Heap}{x qual:Str}{st:Stmt}{f:Addr}{fd:Y1}{N ps:List Str}{k:Nat}{sp:Sp}(F:Fun K x qual st f fd)(y'S:z4 N ps (g8 st))(len:∀vs H Q y'E,sp vs H Q y'E->vs.length=ps.length)
  (hbody:∀(cdv:Value) (y'A:F2) (outer:List Env) (s:d4) (H:Hp) (vs:List V) (Q:VK) (y'E:XK),O9 k (y'A.deeper (b1U qual (g8 st) s.heap.objs.size f cdv))->sp vs H Q y'E ->
   ∃t,a8c (b3h CX0 P w K mg base N qual (g8 st) f cdv y'A outer s H y'E).nox (a0G st) t/\t { nx:=fun _ H'=>Q .non H',rt:=Q } (a6c N vs) H):K6 P w K mg base CX0 (k+1) f fd ps sp:=
 F.ok y'S len fun cdv y'A outer s H vs Q y'E hr h=>let⟨t,a,b⟩:=hbody cdv y'A outer s H vs Q y'E hr h; ⟨t,a.h,b⟩
end Y
namespace Y
open PySem PySem.Spec PyProof.Rows L2
section
variable {X:Cx}{st:Stmt}{a4d:List Stmt}{t u:TS}{e a b c o i:Expr}{es more:List Expr}{te ta tb tc to ti:TE}{tt tu:TT}{tr:TA}{pos p pos':Pos}{x y:Str}
theorem a4x{elts:List Expr}{x1}{tp:Pos}(hg:Gl X "enumerate")(hm:X.mg "enumerate" = none)(ha:y'A X [a] tr)(hs:d9 [a] X.env=[(false,eval a X.env)]:=by rfl) :
  b0I X (.Tuple elts x1 tp) (.Call (.Name "enumerate" p) [a] [] pos) (a8V X.K tr):=⟨L2.c1B hg hm ha.h hs⟩
theorem b8d{elts:List Expr}{x1}{tp:Pos}(hg:Gl X "zip")(hm:X.mg "zip" = none)(ha:y'A X [a,b] tr)(hs:d9 [a,b] X.env=[(false,eval a X.env),(false,eval b X.env)]:=by rfl)(hs2:d9 [b] X.env=[(false,eval b X.env)]:=by rfl) :
  b0I X (.Tuple elts x1 tp) (.Call (.Name "zip" p) [a,b] [] pos) (c2p X.K tr):=⟨L2.c4q hg hm ha.h hs hs2⟩
theorem a7X{elt iter:Expr}{px py pt:Pos}{kt}{ifs:List Expr}{scope:Scope}{wi:TI}(hc:a3F X.N X.env.scope scope x y)(hcalm:X.calm=true)(hi:b0I X (.Tuple [.Name x px,.Name y py] kt pt) iter wi)
  (ht:∀cl C fp s3 H3,b8l (Q4 X scope cl C x y fp s3 H3) ifs tt) (he:∀cl C fp s3 H3,y'E (Q4 X scope cl C x y fp s3 H3) elt te)
  (hs:∀x,M5 iter X.env x=pure x:=by intro _;rfl):y'E X (.ListComp elt [⟨.Tuple [.Name x px,.Name y py] kt pt,iter,ifs,0⟩] scope pos) (a8l X.K wi tt te):=
 ⟨L2.b9w hc hcalm hi.h (fun cl C fp s3 H3=>(ht cl C fp s3 H3).h) (fun cl C fp s3 H3=>(he cl C fp s3 H3).h) hs⟩
theorem a5i{body:List Stmt}(hp:b1W (model X.prog X.w) X.A X.env X.xe)(hc:y'T X c tt)(hb:a8c X body t):y'S X (.While c body [] pos) (a6I tt t):=⟨L2.b9j hp hc.h hb.h⟩
theorem a1M{e c:Option Expr}:y'S X (.Raise e c pos) (fun _ _ _=>False):=⟨L2.b9k⟩
theorem a5S{f:Str}(he:y'E X e te)(hb:a0a e f X.env (eval e X.env)=eval e X.env:=by rfl):y'E X (.Attribute e f pos) (b3V X.K te f):=⟨L2.c4D he.h hb⟩
theorem a7V{f:Str}(ha:y'E X o to)(hv:y'E X e te)(hs:a1J e (some (.Attribute o f pos')) pos.line X.env=pure false:=by rfl):y'S X (.Assign [.Attribute o f pos'] e pos) (b6E X.K to te f):=⟨L2.c4n ha.h hv.h hs⟩
theorem c0N{k j:Nat}{C:Addr}{ps:List Str}{sp:Sp}(M:b3z X.prog X.w X.K X.mg X.base k x C ps sp)(hr:O9 j X.A)(hk:k+1<=j)(hg:Gl X x)(ha:y'A X (e::es) tr)
  (hdb:(x == ("__debug__" : Str))=false:=by decide) (he:d9 (e::es) X.env=(false,eval e X.env)::d9 es X.env:=by rfl) (hpl:(W7 pos (d9 es X.env)).any (·.1)=false:=by rfl) :
  y'E X (.Call (.Name x p) (e::es) [] pos) (b0a C sp [] E0 tr):=⟨L2.c6G M hr hk hg ha.h hdb he hpl⟩
theorem b8h{pl:Sem Bool}{k j:Nat}{m:Str}{C:Addr}{ps:List Str}{sp:Sp}{apos:Pos}(M:a3E X.prog X.w X.K X.mg X.base k m C ps sp)(hr:O9 j X.A)(hk:k<=j)(ho:y'E X o to)(ha:y'A X (e::es) tr)
  (hst:d9 (e::es) X.env=(false,eval e X.env)::d9 es X.env:=by rfl) (hpl:(W7 pos (d9 es X.env)).any (·.1)=false:=by rfl)
  (ht:eval (.Call (.Attribute o m apos) (e::es) [] pos) X.env=(do
   let ov <-eval o X.env
   a7T apos.atName
   let(f,first) <-a0A [ov] (a5Q ov m pl)
   b7N pos f first (W7 pos (d9 (e::es) X.env)) (a4W pos (a0z [] X.env))):=by rfl) :
  y'E X (.Call (.Attribute o m apos) (e::es) [] pos) (a6a C m sp [] E0 to tr):=⟨L2.c4A (pl:=pl) M hr hk ho.h ha.h hst hpl ht⟩
theorem b6h{pl:Sem Bool}{k j:Nat}{m:Str}{C:Addr}{ps:List Str}{sp:Sp}{apos:Pos}(M:a3E X.prog X.w X.K X.mg X.base k m C ps sp)(hr:O9 j X.A)(hk:k<=j)(ho:y'E X o to)
  (ht:eval (.Call (.Attribute o m apos) [] [] pos) X.env=(do
   let ov <-eval o X.env
   a7T apos.atName
   let(f,first) <-a0A [ov] (a5Q ov m pl)
   b7N pos f first (W7 pos (d9 [] X.env)) (a4W pos (a0z [] X.env))):=by rfl) :
  y'E X (.Call (.Attribute o m apos) [] [] pos) (a6a C m sp [] E0 to g0):=⟨L2.c1C (pl:=pl) M hr hk ho.h ht⟩
theorem a7Z{ty id:String}{name:Str}{r:V->List V->Hp->VK->Prop}{apos:Pos}(pa:c2S ty)(slot:Slot ty name id)(hty:typeOf (.builtin id)=pure (.type "method_descriptor"))(hm:a7l X id r)(ho:y'E X o to)
  (hbase:a0a o name X.env (eval o X.env)=eval o X.env:=by rfl) (hline:(apos.endLine == pos.line)=true:=by rfl):y'E X (.Call (.Attribute o name apos) [] [] pos) (b3X X.K ty r to):=⟨L2.c4F pa slot hty hm.h ho.h hbase hline⟩
structure c0Q(X:Cx)(pos:Pos)(ks:List (Option Expr))(vs:List Expr)(trs:List (TE×TE)):Prop where h:PPs X pos ks vs trs
theorem b6f:c0Q X pos [] [] []:=⟨L2.c1x⟩
theorem b3N{ks:List (Option Expr)}{vs:List Expr}{trs:List (TE×TE)}(hk:y'E X a ta)(hv:y'E X b tb)(hr:c0Q X pos ks vs trs):c0Q X pos (some a::ks) (b::vs) ((ta,tb)::trs):=⟨L2.b9n hk.h hv.h hr.h⟩
theorem b6i{keys:List (Option Expr)}{values:List Expr}{trs:List (TE×TE)}(h:c0Q X pos keys values trs)(hall:keys.all (·.isSome)=true:=by rfl)(hl:keys.length=values.length:=by rfl)(h0:keys≠[]:=by intro z;cases z)
  (h15:keys.length<=15:=by decide):y'E X (.Dict keys values pos) (b8D trs):=⟨L2.c1G h.h hall hl h0 h15⟩
theorem a2i{k:Nat}(hr:O9 k X.A)(hi:y'E X i ti)(ho:y'E X o to)(h1:O4 .NotIn o=false):y'T X (.Compare i [.NotIn] [o] pos) (tB (a2l ti to)):=⟨L2.b9g (L2.b6O (b3a hr) hi.h ho.h) h1⟩
theorem b2d(hc:X.calm=true):U4 X (.builtin "min") b9c:=⟨L2.b7x hc⟩
theorem b2e(hc:X.calm=true):U4 X (.builtin "any") b4t:=⟨L2.b7A hc⟩
theorem a8b:U4 X (.builtin "sorted") a4G:=⟨L2.b1A⟩
theorem a4Z(hc:X.calm=true):U4 X (.type "list") a3q:=⟨L2.b3u hc⟩
theorem b2b:a7l X "list.index" a6P:=⟨L2.b6X⟩
theorem a3f:a7l X "list.extend" a2t:=⟨L2.b4J⟩
theorem b6l:a7l X "list.pop" b6H:=⟨L2.c2g⟩
theorem a9V{k:Nat}(hr:O9 k X.A):V9 X (o9 .NotEq) (c1j X.K):=⟨L2.c1O hr⟩
theorem b6k{k:Nat}(hr:O9 k X.A):V9 X (o9 .Eq) (c4g X.K):=⟨L2.c1S hr⟩
theorem b6j:V9 X (o9 .In) (c4f X.K):=⟨L2.c1R⟩
end
end Y
namespace Y
open PySem PySem.Spec PyProof.Rows L2
end Y
namespace Y
open PySem PySem.Spec PyProof.Rows L2
theorem a9z{X:Cx}(hc:X.calm=true):U4 X (.type "dict") b4s:=⟨L2.b3v hc⟩
end Y
namespace Y
open PySem PySem.Spec PyProof.Rows L2
end Y
namespace Y
open PySem PySem.Spec PyProof.Rows L2
theorem b3P{X:Cx}{k:Nat}(hr:O9 k X.A):V9 X (o9 .NotIn) (c4e true):=⟨L2.b9F (by have:=hr.units;show X.A.units+1<cLine;omega)⟩
end Y
namespace Y
open PySem PySem.Spec PyProof.Rows L2
end Y
namespace Y
open PySem PySem.Spec PyProof.Rows L2
section
variable {X:Cx}{e0 e1 e2 e3 e4:Expr}{t0 t1 t2 t3 t4:TE}
theorem j9(h0:y'E X e0 t0)(s0:d9 [e0] X.env=(false,eval e0 X.env)::d9 [] X.env:=by rfl):y'A X [e0] (b4 t0 g0):=(F9 h0 M8 s0)
theorem z6(h0:y'E X e0 t0)(h1:y'E X e1 t1)(s0:d9 [e0,e1] X.env=(false,eval e0 X.env)::d9 [e1] X.env:=by rfl)(s1:d9 [e1] X.env=(false,eval e1 X.env)::d9 [] X.env:=by rfl):y'A X [e0,e1] (b4 t0 (b4 t1 g0)):=(F9 h0 (F9 h1 M8 s1) s0)
theorem a1P(h0:y'E X e0 t0)(h1:y'E X e1 t1)(h2:y'E X e2 t2)(s0:d9 [e0,e1,e2] X.env=(false,eval e0 X.env)::d9 [e1,e2] X.env:=by rfl)(s1:d9 [e1,e2] X.env=(false,eval e1 X.env)::d9 [e2] X.env:=by rfl)(s2:d9 [e2] X.env=(false,eval e2 X.env)::d9 [] X.env:=by rfl):y'A X [e0,e1,e2] (b4 t0 (b4 t1 (b4 t2 g0))):=(F9 h0 (F9 h1 (F9 h2 M8 s2) s1) s0)
theorem b8j(h0:y'E X e0 t0)(h1:y'E X e1 t1)(h2:y'E X e2 t2)(h3:y'E X e3 t3)(s0:d9 [e0,e1,e2,e3] X.env=(false,eval e0 X.env)::d9 [e1,e2,e3] X.env:=by rfl)(s1:d9 [e1,e2,e3] X.env=(false,eval e1 X.env)::d9 [e2,e3] X.env:=by rfl)(s2:d9 [e2,e3] X.env=(false,eval e2 X.env)::d9 [e3] X.env:=by rfl)(s3:d9 [e3] X.env=(false,eval e3 X.env)::d9 [] X.env:=by rfl):y'A X [e0,e1,e2,e3] (b4 t0 (b4 t1 (b4 t2 (b4 t3 g0)))):=(F9 h0 (F9 h1 (F9 h2 (F9 h3 M8 s3) s2) s1) s0)
theorem c2V(h0:y'E X e0 t0)(h1:y'E X e1 t1)(h2:y'E X e2 t2)(h3:y'E X e3 t3)(h4:y'E X e4 t4)(s0:d9 [e0,e1,e2,e3,e4] X.env=(false,eval e0 X.env)::d9 [e1,e2,e3,e4] X.env:=by rfl)(s1:d9 [e1,e2,e3,e4] X.env=(false,eval e1 X.env)::d9 [e2,e3,e4] X.env:=by rfl)(s2:d9 [e2,e3,e4] X.env=(false,eval e2 X.env)::d9 [e3,e4] X.env:=by rfl)(s3:d9 [e3,e4] X.env=(false,eval e3 X.env)::d9 [e4] X.env:=by rfl)(s4:d9 [e4] X.env=(false,eval e4 X.env)::d9 [] X.env:=by rfl):y'A X [e0,e1,e2,e3,e4] (b4 t0 (b4 t1 (b4 t2 (b4 t3 (b4 t4 g0))))):=(F9 h0 (F9 h1 (F9 h2 (F9 h3 (F9 h4 M8 s4) s3) s2) s1) s0)
end
end Y
local macro_rules | `(tactic| walk_at "sc") => `(tactic| exact ⟨rfl, rfl, rfl, by decide +kernel, rfl, by decide +kernel, by decide +kernel⟩)
namespace Y
open PySem PySem.Spec PyProof.Rows L2
section
variable {X:Cx}{e a b o:Expr}{es:List Expr}{te ta tb to:TE}{tr:TA}{pos p pos':Pos}{x:Str}
theorem u5(n:Nat)(hN:X.N.Nodup)(he:y'E X e te)(hi:X.N[n]? = some x:=by rfl)(hx:Loc X.env.scope x:=by first | exact Or.inl rfl | exact Or.inr rfl)(hs:a1J e (some (.Name x pos')) pos.line X.env=pure false:=by rfl)(hf:X.fn x=true\/X.env.scope.names.lookup x=some .local:=by first | exact .inl rfl | exact .inr rfl) :
  y'S X (.Assign [.Name x pos'] e pos) (E5 te (o5 n)):=b8c hN hi hx he hs hf
theorem J2(n:Nat)(hN:X.N.Nodup)(hi:X.N[n]? = some x:=by rfl)(hx:Loc X.env.scope x:=by first | exact Or.inl rfl | exact Or.inr rfl)(hf:X.fn x=true\/X.env.scope.names.lookup x=some .local:=by first | exact .inl rfl | exact .inr rfl):y'G X (.Name x pos) (o5 n):=b6g hN hi hx hf
theorem o4{k j:Nat}{ps:List Str}{sp:Sp}(C:D9 X.prog X.w X.K X.mg X.base k x ps sp)(hr:O9 j X.A)(ha:y'A X (e::es) tr)(hk:k<=j:=by decide)(hg:Gl X x:=by rfl)
  (hdb:(x == ("__debug__" : Str))=false:=by decide) (he:d9 (e::es) X.env=(false,eval e X.env)::d9 es X.env:=by rfl) (hpl:(W7 pos (d9 es X.env)).any (·.1)=false:=by rfl) :
  y'E X (.Call (.Name x p) (e::es) [] pos) (u0 sp [] E0 tr):=b8f C hr hk hg ha hdb he hpl
theorem c3x{k j:Nat}{C:Addr}{ps:List Str}{sp:Sp}(M:b3z X.prog X.w X.K X.mg X.base k x C ps sp)(hr:O9 j X.A)(ha:y'A X (e::es) tr)(hk:k+1<=j:=by decide)(hg:Gl X x:=by rfl)
  (hdb:(x == ("__debug__" : Str))=false:=by decide) (he:d9 (e::es) X.env=(false,eval e X.env)::d9 es X.env:=by rfl) (hpl:(W7 pos (d9 es X.env)).any (·.1)=false:=by rfl) :
  y'E X (.Call (.Name x p) (e::es) [] pos) (b0a C sp [] E0 tr):=c0N M hr hk hg ha hdb he hpl
theorem u6(ha:y'E X a ta)(hb:y'E X b tb)(hs:b1K b:=by exact fun _ _=>rfl):y'E X (.Subscript a b pos) (tOp qIx ta tb):=c0O c3y ha hb hs
theorem a5l{op:CmpOp}{r:R2}(ho:V9 X (o9 op) r)(ha:y'E X a ta)(hb:y'E X b tb)(hm:O4 op b=false:=by exact a8M _):y'E X (.Compare a [op] [b] pos) (tOp r ta tb):=a2T ho ha hb hm
theorem D7{op:CmpOp}{r:R2}(ho:V9 X (o9 op) r)(ha:y'E X a ta)(hb:y'E X b tb)(hm:O4 op b=false:=by exact a8M _):y'T X (.Compare a [op] [b] pos) (C8 (tOp r ta tb)):=X4 ho ha hb hm
end
end Y
namespace Y
open PySem PySem.Spec PyProof.Rows L2
section
variable {X:Cx}{e o i:Expr}{te to ti:TE}{t:TS}{pos p:Pos}{k:Nat}
theorem b3O:y'E X (.Dict [] [] pos) b3W:=⟨L2.b9u⟩
theorem b6d{tg:Expr}{g:TG}{body:List Stmt}(hp:b1W (model X.prog X.w) X.A X.env X.xe)(hc:X.calm=true)(hl:y'E X e te)(hg:y'G X tg g)(hb:a8c X body t)
  (hs:∀x,M5 e X.env x=pure x:=by intro _;rfl):y'S X (.For tg e body [] pos) (b8C te g t):=⟨L2.c1t hp hc hl.h hg.h hb.h hs⟩
end
end Y
namespace Y
open PySem PySem.Spec PyProof.Rows L2
end Y
namespace Y
open PySem PySem.Spec PyProof.Rows L2
section
variable {X:Cx}{i o:Expr}{ti to:TE}{pos:Pos}{k:Nat}
end
end Y
namespace Y
open PySem PySem.Spec PyProof.Rows L2
section
variable {X:Cx}{k:Nat}
theorem a9x:U4 X (.builtin "sorted") b4o:=⟨L2.b3r⟩
end
end Y
namespace Y
open PySem PySem.Spec PyProof.Rows L2
section
variable {X:Cx}{e o i:Expr}{te to ti:TE}{t:TS}{pos p:Pos}{k:Nat}
end
end Y
namespace Y
open PySem PySem.Spec PyProof.Rows L2
section
variable {X:Cx}{k:Nat}
theorem a4Y:U4 X (.builtin "sorted") b1a:=⟨L2.b3s⟩
theorem c0L{e:Expr}{te:TE}{p p' pos pos':Pos}(hc:X.calm=true)(hg:Gl X "sorted")(hm:X.mg "sorted" = none)(hv:R4 "sorted" = some (.builtin "sorted"))(hg':Gl X "set")(hm':X.mg "set" = none)(hv':R4 "set" = some (.type "set"))(he:y'E X e te)
  (hs1:d9 [e] X.env=[(false,eval e X.env)]:=by rfl) (hs2:d9 [Expr.Call (.Name "set" p') [e] [] pos'] X.env=[(false,eval (.Call (.Name "set" p') [e] [] pos') X.env)]:=by rfl) :
  y'E X (.Call (.Name "sorted" p) [.Call (.Name "set" p') [e] [] pos'] [] pos) (tSS te):=⟨L2.c6D hc hg hm hv hg' hm' hv' he.h hs1 hs2⟩
end
end Y
namespace Y
open PySem PySem.Spec PyProof.Rows L2
section
variable {X:Cx}{k:Nat}
theorem a5V:U4 X (.type "str") b5y:=⟨L2.b5c⟩
theorem b5j{e:Expr}{te:TE}{j:Nat}{pos pos1 pos2:Pos}{p:Str}(he:y'E X e te)(hp:p.length<=100:=by decide):y'E X (.JoinedStr [.Constant (.str p) j pos1,.FormattedValue e (-1) none pos2] pos) (tFK p te):=⟨L2.c6I he.h hp⟩
theorem b3Q:a7l X "dict.values" b9b:=⟨L2.b9M⟩
theorem b0G:a7l X "dict.clear" b1c:=⟨L2.b4K⟩
theorem a9y(hc:X.calm=true):U4 X (.type "list") b4q:=⟨L2.b3t hc⟩
theorem b0H:U4 X (.builtin "len") b9d:=⟨L2.b5e⟩
end
end Y
namespace RD
open PySem PySem.Spec L2
variable{C a b c d dl dx l na p ra:Addr}{H H' H0 H1:Hp}{o:HO}{xs ys:List V}{i j m n:Nat}{D:a7f}{σ:St}{ta te:TE}{tt:TT}{Q:VK}{v:V}{s z:Str}{QD:Hp->Prop}{R:It->Hp->Prop}{ks:List (List Key)}{M N:Nt}{ns:List Int}{as ds rs:List Addr}{ss:List Str}{RC:Nat->List V}
def A0(b:Addr)(H H':Hp):Prop:=(∀a o,H a=some o->a≠b->H' a=some o)/\∀o,H b=some o->∃o',H' b=some o'
theorem A0.refl(b:Addr)(H:Hp):A0 b H H:=⟨fun _ _ h _=>h,fun o h=>⟨o,h⟩⟩
theorem A0.trans{H2:Hp}(x:A0 b H H1)(y:A0 b H1 H2):A0 b H H2:=
 ⟨fun a o h n=>y.1 a o (x.1 a o h n) n,fun o h=>let⟨o',h'⟩:=x.2 o h;y.2 o' h'⟩
theorem A0.upd(b:Addr)(H:Hp)(o:HO):A0 b H (upd H b o):=⟨fun a u h n=>by rw[g6 n];exact h,fun _ _=>⟨o,c9⟩⟩
theorem A0.new(h:H p=none):A0 b H (L2.upd H p o):=
 ⟨fun a u e _=>by rw[g6 (d5 e h)];exact e,fun u e=>⟨u,by rw[g6 (d5 e h)];exact e⟩⟩
theorem A0.of_same(s:o6 H H'):A0 b H H':=⟨fun a o h _=>s a o h,fun o h=>⟨o,s _ _ h⟩⟩
theorem t8(h:H p=none):o6 H (L2.upd H p o):=fun a u e=>by rw[g6 (d5 e h)];exact e
theorem A0.none(k:A0 b H H')(h:H' p=Option.none):H p=Option.none:=by
 cases e:H p with
 | none=>rfl
 | some o=>
  by_cases z:p=b
  ·subst z
   obtain⟨o',h'⟩:=k.2 o e
   rw[h]at h'
   cases h'
  ·rw[k.1 p o e z]at h
   cases h
theorem A0.tup{b a:Addr}{H H':Hp}{xs ys:List V}(k:A0 b H H')(hb:H b=some (.lst ys))(h:H a=some (.tup xs)):H' a=some (.tup xs):=
 k.1 a _ h (L1 h hb (by intro z;cases z))
structure Bag(H:Hp)(b c:Addr):Prop where
 ex:∃(i0 i1 i2:Int) (ns:List Int),H b=some (.lst [.int i0,.int i1,.int i2,.ref c])/\H c=some (.lst (ns.map V.int))/\0<=i0/\0<=i1/\i1<2147483647/\0<=i2/\∀x∈ns,0<=x
theorem Bag.lst{H:Hp}{b c:Addr}(h:Bag H b c):∃xs,H b=some (.lst xs):=by
 obtain⟨i0,i1,i2,ns,h,_⟩:=h.ex
 exact⟨_,h⟩
theorem Bag.same(h:Bag H b c)(s:o6 H H'):Bag H' b c:=by
 obtain⟨i0,i1,i2,ns,h1,h2,r⟩:=h.ex
 exact⟨i0,i1,i2,ns,s _ _ h1,s _ _ h2,r⟩
theorem Bag.new(h:Bag H b c)(n:H p=none):Bag (L2.upd H p o) b c:=h.same (t8 n)
theorem Bag.put(h:Bag H b c)(n1:p≠b)(n2:p≠c):Bag (L2.upd H p o) b c:=by
 obtain⟨i0,i1,i2,ns,h1,h2,r⟩:=h.ex
 exact⟨i0,i1,i2,ns,by rw[g6 n1.symm];exact h1,by rw[g6 n2.symm];exact h2,r⟩
theorem Bag.nb(h:Bag H b c)(n:H p=none):p≠b/\p≠c:=by
 obtain⟨i0,i1,i2,ns,h1,h2,r⟩:=h.ex
 exact⟨(d5 h1 n).symm,(d5 h2 n).symm⟩
theorem A0.put(k:A0 b H H')(n:H p=Option.none):A0 b H (L2.upd H' p o):=
 ⟨fun a u e z=>by rw[g6 (d5 e n)];exact k.1 a u e z,fun u e=>by
  obtain⟨o',h⟩:=k.2 u e
  exact⟨o',by rw[g6 (d5 e n)];exact h⟩⟩
theorem a2d{α:Type}(a:α)(r:List α):atI (a::r) 0=some a:=by
 have := @a1E α (a::r) 0 a rfl
 simpa using this
theorem a3O{α:Type}(a b:α)(r:List α):atI (a::b::r) 1=some b := @a1E α (a::b::r) 1 b rfl
theorem a7B{α:Type}(a b c:α)(r:List α):atI (a::b::c::r) 2=some c := @a1E α (a::b::c::r) 2 c rfl
theorem c7a{α:Type}(a b c d:α)(r:List α):atI (a::b::c::d::r) 3=some d := @a1E α (a::b::c::d::r) 3 d rfl
theorem a4s{α:Type}{xs:List α}{i:Int}(h0:0<=i)(h1:i<xs.length):∃v,atI xs i=some v/\xs[i.toNat]? = some v:=by
 have hl:i.toNat<xs.length:=by omega
 have e:xs[i.toNat]? = some (xs[i.toNat]'hl):=by simp[hl]
 refine⟨_,?_,e⟩
 have:=a1E e
 rwa [Int.toNat_of_nonneg h0]at this
section
variable {t u:TS}{tb tc to ti:TE}{tu:TT}{tr:TA}{QB:Bool->Hp->Prop}{QA:List V->Hp->Prop}{QO:Option Int->Hp->Prop}{x y:V}{i j:Int}{r r':R2}{K:Fg}
theorem X7(h:t { D with nx:=u D } σ H):u8 t u D σ H:=h
theorem a1V{P:St->Hp->Prop}(tail:∀σ H,P σ H->u D σ H)(main:∀nx:St->Hp->Prop,(∀σ H,P σ H->nx σ H)->t { D with nx:=nx } σ H):u8 t u D σ H:=main _ tail
theorem c6n{g:TG}(h:te σ H fun x H1=>g x σ H1 D.nx):E5 te g D σ H:=h
theorem b0Y{QS:St->Hp->Prop}(h:QS (σ.set n (some v)) H):o5 n v σ H QS:=h
theorem c3Q{QS:St->Hp->Prop}{ts:a9P}(h:to σ H fun o H1=>ti σ H1 fun i H2=>ts o i v H2 fun H3=>QS σ H3):b7l to ti ts v σ H QS:=h
theorem c6f(h:te σ H D.rt):J3 te D σ H:=h
theorem c3R(h:te σ H fun _ H1=>D.nx σ H1):a0r te D σ H:=h
theorem c7v(h:tt σ H fun b H1=>if b=true then t D σ H1 else u D σ H1):O0 tt t u D σ H:=h
theorem c3M(h:D.nx σ H):E2 D σ H:=h
theorem c3I(h:te σ H fun x H'=>∃k,x=.bl k/\QB k H'):C8 te σ H QB:=h
theorem c7r(h:te σ H fun x H'=>∃k,x=.bl k/\QB k H'):tB te σ H QB:=h
theorem c6i(h:tt σ H fun c H1=>QB (!c) H1):a3Z tt σ H QB:=h
theorem c6o(h:tt σ H fun c H1=>if c=true then tu σ H1 QB else QB false H1):b2m tt tu σ H QB:=h
theorem c7u(h:tt σ H fun c H1=>if c=true then QB true H1 else tu σ H1 QB):tOr tt tu σ H QB:=h
theorem c3V(h:ta σ H fun x H1=>∃c,x=.bl c/\if c=true then tb σ H1 Q else Q (.bl false) H1):a0B ta tb σ H Q:=h
theorem c6g(h:ta σ H fun x H1=>∃c,x=.bl c/\if c=true then Q (.bl true) H1 else tb σ H1 Q):c0U ta tb σ H Q:=h
theorem c3L(h:ta σ H fun x H1=>∃c,x=.bl c/\Q (.bl (!c)) H1):b2k ta σ H Q:=h
theorem c6k(h:tt σ H fun c H1=>if c=true then ta σ H1 Q else tb σ H1 Q):tIf tt ta tb σ H Q:=h
theorem c6h(h:ta σ H fun x H1=>tb σ H1 fun y H2=>r x y H2 Q):tOp r ta tb σ H Q:=h
theorem c1g(h:ta σ H fun x H1=>tb σ H1 fun y H2=>r x y H2 fun z H3=>∃k,z=.bl k/\(if k=true then tc σ H3 fun w' H4=>r' y w' H4 Q else Q (.bl false) H3)):a4a r r' ta tb tc σ H Q:=h
theorem c6d(e:σ[n]? = some (some v))(h:Q v H):c4 n σ H Q:=⟨v,e,h⟩
theorem s_c(h:Q v H):tC v σ H Q:=h
theorem b8S(h:te σ H fun x H1=>tr σ H1 fun xs H2=>QA (x::xs) H2):b4 te tr σ H QA:=h
theorem c3c(h:QA [] H):g0 σ H QA:=h
theorem c3T{sp:Sp}{E:XK}(h:tr σ H fun vs H1=>sp (vs++[]) H1 Q E):u0 sp [] E tr σ H Q:=h
theorem c7w{f:List V->Hp->VK->Prop}(h:tr σ H fun vs H1=>f vs H1 Q):tCB f tr σ H Q:=h
def New(o:HO)(n:Nat)(H:Hp)(Q:VK):Prop:=n<=i8/\∀p,H p=none->Q (.ref p) (upd H p o)
theorem C4(hl:n<=100000)(h:∀p H',H p=none->H' p=some o->o6 H H'->Q (.ref p) H'):New o n H Q:=
 ⟨A1 hl (by rw[a3e];decide),fun p hp=>h p _ hp c9 (t8 hp)⟩
theorem c6e(h:tr σ H fun xs H1=>New (.tup xs) xs.length H1 Q):a2f tr σ H Q:=h
theorem c6j(h:tr σ H fun xs H1=>New (.lst xs) xs.length H1 Q):X0 tr σ H Q:=h
theorem c7t{f:V->Option Int->Option Int->Hp->VK->Prop}{tl th:TO}(h:te σ H fun x H1=>tl σ H1 fun l H2=>th σ H2 fun u H3=>f x l u H3 Q):tSl f te tl th σ H Q:=h
theorem c3K(h:te σ H fun x H1=>∃i,x=.int i/\QO (some i) H1):a7o te σ H QO:=h
theorem b8O(h:QO none H):a2k σ H QO:=h
theorem b4h(h:QB true H):V0 σ H QB:=h
theorem a7x{f:V->List V->Hp->VK->Prop}(h:to σ H fun x H1=>tyV K "list" x H1/\tr σ H1 fun xs H2=>f x xs H2 Q):tBM K "list" f to tr σ H Q:=h
theorem c3U{tget:V->V->Hp->VK->Prop}{tip:TIp}{tset:a9P}(h:to σ H fun o H1=>ti σ H1 fun i H2=>tget o i H2 fun x H3=>te σ H3 fun y H4=>tip x y H4 fun z H5=>tset o i z H5 fun H6=>D.nx σ H6):b5m to ti te tget tip tset D σ H:=h
theorem c3k(h:Q (.int (i+j)) H):a0R (.int i) (.int j) H Q:=h
theorem b4n{a b:Str}(hl:a.length+b.length<=i8)(h:Q (.str (a++b)) H):a0R (.str a) (.str b) H Q:=⟨hl,h⟩
theorem b9a(ha:H a=some (.lst xs))(hb:H b=some (.lst ys))(h:New (.lst (xs++ys)) (xs.length+ys.length) H Q):a0R (.ref a) (.ref b) H Q:=by
 unfold a0R
 simp only[ha,hb]
 exact h
theorem c4c{g:Int->Int->V}(h:Q (g i j) H):b2D g (.int i) (.int j) H Q:=h
theorem a1Y{C:Int->Int->Prop}{g:Int->Int->V}(hc:C i j)(h:Q (g i j) H):q2I C g (.int i) (.int j) H Q:=⟨hc,h⟩
theorem c7B{f:Int->Int->Int}(h:Q (.int (f i j)) H):ipI f (.int i) (.int j) H Q:=⟨i,j,rfl,rfl,h⟩
theorem O6(hp:H p=some (.lst xs))(he:atI xs i=some v)(h:Q v H):qIx (.ref p) (.int i) H Q:=by
 unfold qIx
 simp only[hp]
 exact⟨v,he,h⟩
theorem J7(hp:H p=some (.tup xs))(he:atI xs i=some v)(h:Q v H):qIx (.ref p) (.int i) H Q:=by
 unfold qIx
 simp only[hp]
 exact⟨v,he,h⟩
theorem c6v{c:Nat}(hz:z.length<=i8)(he:atI z.cps.toList i=some c)(h:Q (.str ⟨#[c]⟩) H):qIx (.str z) (.int i) H Q:=⟨hz,c,he,h⟩
theorem b5x{QH:Hp->Prop}{k:Nat}(hp:H p=some (.lst xs))(he:ixN xs.length i=some k)(h:QH (upd H p (.lst (xs.set k v)))):b1b (.ref p) (.int i) v H QH:=by
 unfold b1b
 simp only[hp]
 exact⟨k,he,h⟩
theorem c6w(hp:H p=some (.lst xs))(h0:0<=i)(he:xs[i.toNat]? = some v)(h:Q v H):b6I (.ref p) (.int i) H Q:=by
 unfold b6I
 simp only[hp]
 exact⟨h0,v,he,h⟩
theorem Q1(hp:H p=some (.lst xs))(h:Q (.int xs.length) H):W6 [.ref p] H Q:=by
 unfold W6
 simp only[hp]
 exact h
theorem a4e(hp:H p=some (.tup xs))(h:Q (.int xs.length) H):W6 [.ref p] H Q:=by
 unfold W6
 simp only[hp]
 exact h
theorem c4b(hz:z.length<=i8)(h:Q (.int z.length) H):W6 [.str z] H Q:=⟨hz,h⟩
theorem c6z(h:Q (.int (if i<0 then -i else i)) H):b9e [.int i] H Q:=h
theorem c7C(hs:b2u x y=true)(h:Q (.bl (decide (x=y))) H):qEq x y H Q:=⟨_,if_pos hs,h⟩
theorem c7A(hs:b2u x y=true)(h:Q (.bl (!decide (x=y))) H):qNe x y H Q:=⟨_,if_pos hs,h⟩
theorem c2u(ha:H a=some (.lst xs))(hb:H b=some (.lst ys))(fx:xs.all L9=true)(fy:ys.all L9=true):eqO (.ref a) (.ref b) H=some (Q3 xs ys):=by
 unfold eqO
 rw[if_neg (by intro z;cases z)]
 simp only[ha,hb]
 rw[if_pos ⟨fx,fy⟩]
theorem c0b(v:V)(h:L9 v=true):eqV v v=true:=by
 cases v with
 | non=>rfl
 | bl b=>simp[eqV]
 | int i=>simp[eqV]
 | str s=>simp[eqV]
 | byt b=>cases h
 | flt b=>cases h
 | ref a=>cases h
 | ty n=>cases h
theorem b3c(xs:List V)(h:xs.all L9=true):Q3 xs xs=true:=by
 unfold Q3
 rw[a9r,beq_self_eq_true,b3K,E4]
 intro j hj
 have hl:j<xs.length:=by simpa using hj
 have e:xs.getD j .non=xs[j]:=by simp[M9,hl]
 rw[e]
 exact c0b _ (E4.mp h _ (y9 _))
theorem c4a(hp:H p=some (.tup ys))(h:∀l H',H l=none->H' l=some (.lst ys)->o6 H H'->Q (.ref l) H'):a1Z [.ref p] H Q:=by
 unfold a1Z
 simp only[hp]
 exact fun l hl=>h l _ hl c9 (t8 hl)
theorem a6l(hp:H p=some (.tup xs))(hx:L9 x=true)(ha:xs.all L9=true)(h:Q (.bl (inV x xs)) H):qIn false x (.ref p) H Q:=by
 unfold qIn
 cases x <;> first | (simp only[hp];exact⟨hx,ha,h⟩) | cases hx
theorem a1m(hp:H l=some (.lst xs))(hl:xs.length<i8)(h:Q .non (upd H l (.lst (xs++[y])))):Z5 (.ref l) [y] H Q:=by
 unfold Z5
 simp only[hp]
 exact⟨hl,h⟩
theorem c3h{lo hi:Option Int}(ha:H a=some (.tup xs))(hw:¬(HT.sIx xs.length 0 lo=0/\HT.sIx xs.length xs.length hi=xs.length))(h:∀p H',H p=none->H' p=some (.tup (a4N xs lo hi))->o6 H H'->Q (.ref p) H'):qSl (.ref a) lo hi H Q:=by
 unfold qSl
 simp only[ha]
 exact⟨hw,fun p hp=>h p _ hp c9 (t8 hp)⟩
theorem c3i{lo hi:Option Int}(ha:H a=some (.lst xs))(h:∀p H',H p=none->H' p=some (.lst (a4N xs lo hi))->o6 H H'->Q (.ref p) H'):qSl (.ref a) lo hi H Q:=by
 unfold qSl
 simp only[ha]
 exact fun p hp=>h p _ hp c9 (t8 hp)
theorem a1X{s c:String}(e:a2D x H=some s)(hc:c∈a6Y)(h:Q (.bl (b4Q s c)) H):a3N [x,.ty c] H Q:=⟨s,e,hc,h⟩
end
section
variable {D:Addr}{K:Fg}
theorem a4q{lo:Int}(Pv:Nat->List V->Hp->Prop)(h0:Pv 0 [] (upd H1 D (.lst [])))(hP:∀i ys H,Pv i ys H->H D=some (.lst ys))
  (step:∀i ys H2,i<n->Pv i ys H2->∀R:VK,(∀y H5,H5 D=some (.lst ys)->ys.length<i8->Pv (i+1) (ys++[y]) (upd H5 D (.lst (ys++[y])))->R y H5)->te (some (.int (lo+i))::σ) H2 R)
  (done:∀ys H2,Pv n ys H2->QD H2) :
  ∃W:Nat->Nat->List V->Hp->Prop,(∃m,W 0 m [] (upd H1 D (.lst [])))/\∀i m ys H2,W i m ys H2->H2 D=some (.lst ys) /\
   (((Itr lo n).stop i H2 /\ QD H2) \/ ((Itr lo n).go i H2 /\ ∀ x H3,(Itr lo n).yld i H2 x H3 -> V0 (some x :: σ) H3 fun ok H4 => if ok = true then
     te (some x::σ) H4 (fun y H5=>H5 D=some (.lst ys)/\ys.length<i8/\∃m',m'<m/\W (i+1) m' (ys++[y]) (upd H5 D (.lst (ys++[y]))))
     else ∃m',m'<m/\W (i+1) m' ys H4)):=by
 refine⟨fun i m ys H=>m=n - i/\i<=n/\Pv i ys H,⟨n,rfl,E9 _,h0⟩,?_⟩
 rintro i m ys H2 ⟨rfl,hi,p⟩
 refine⟨hP i ys H2 p,?_⟩
 by_cases hlt:i<n
 ·refine .inr ⟨hlt,fun x H3 y=>?_⟩
  obtain⟨e,y⟩:=y
  subst e y
  refine b4h ?_
  rw[if_pos rfl]
  exact step i ys _ hlt p _ fun y H5 h1 h2 h3=>⟨h1,h2,n - (i+1),by omega,rfl,hlt,h3⟩
 ·have e:i=n:=by omega
  subst e
  exact .inl ⟨d3 _,done ys H2 p⟩
theorem W3(Pv:Nat->List V->Hp->Prop)(h0:Pv 0 [] (upd H1 D (.lst [])))(hP:∀i ys H,Pv i ys H->H D=some (.lst ys))(hl:∀i ys H,i<=xs.length->Pv i ys H->SqL K H a xs)
  (step:∀i x ys H2,xs[i]? = some x->Pv i ys H2->∀R:VK,(∀y H5,H5 D=some (.lst ys)->ys.length<i8->Pv (i+1) (ys++[y]) (upd H5 D (.lst (ys++[y])))->R y H5)->te (some x::σ) H2 R)
  (done:∀ys H2,Pv xs.length ys H2->QD H2) :
  ∃W:Nat->Nat->List V->Hp->Prop,(∃m,W 0 m [] (upd H1 D (.lst [])))/\∀i m ys H2,W i m ys H2->H2 D=some (.lst ys) /\
   (((Itl K a).stop i H2 /\ QD H2) \/ ((Itl K a).go i H2 /\ ∀ x H3,(Itl K a).yld i H2 x H3 -> V0 (some x :: σ) H3 fun ok H4 => if ok = true then
     te (some x::σ) H4 (fun y H5=>H5 D=some (.lst ys)/\ys.length<i8/\∃m',m'<m/\W (i+1) m' (ys++[y]) (upd H5 D (.lst (ys++[y]))))
     else ∃m',m'<m/\W (i+1) m' ys H4)):=by
 refine⟨fun i m ys H=>m=xs.length - i/\i<=xs.length/\Pv i ys H,⟨xs.length,rfl,E9 _,h0⟩,?_⟩
 rintro i m ys H2 ⟨rfl,hi,p⟩
 refine⟨hP i ys H2 p,?_⟩
 have q:=hl i ys H2 hi p
 by_cases hlt:i<xs.length
 ·refine .inr ⟨⟨xs,xs[i],q,by simp[hlt]⟩,fun x H3 y=>?_⟩
  obtain⟨e,y⟩:=y
  subst e
  refine b4h ?_
  rw[if_pos rfl]
  exact step i x ys _ (y xs q) p _ fun y H5 h1 h2 h3=>⟨h1,h2,xs.length - (i+1),by omega,rfl,hlt,h3⟩
 ·have e:i=xs.length:=by omega
  subst e
  exact .inl ⟨⟨xs,q,d3 _⟩,done ys H2 p⟩
theorem W0{wi:TI}(h:wi σ H1 fun J H1=>∀D,H1 D=none->∃W:Nat->Nat->List V->Hp->Prop,
 (∃m,W 0 m [] (upd H1 D (.lst [])))/\∀i m ys H2,W i m ys H2->H2 D=some (.lst ys) /\
  ((J.stop i H2 /\ Q (.ref D) H2) \/ (J.go i H2 /\ ∀ x H3,J.yld i H2 x H3 -> tt (some x :: σ) H3 fun ok H4 => if ok = true then
    te (some x::σ) H4 (fun y H5=>H5 D=some (.lst ys)/\ys.length<i8/\∃m',m'<m/\W (i+1) m' (ys++[y]) (upd H5 D (.lst (ys++[y]))))
    else ∃m',m'<m/\W (i+1) m' ys H4))):V1 wi tt te σ H1 Q:=h
theorem a1s{ta:TA}(h:ta σ H1 fun vs H2=>∃j:Int,vs=[.int j] /\ -(2 ^ 62)<=j/\j<2 ^ 62/\R (Itr 0 j.toNat) H2):a1z ta σ H1 R:=h
theorem O7(h:ta σ H1 fun x H2=>∃a,x=.ref a/\(∃xs,SqL K H2 a xs)/\R (Itl K a) H2):R7 K ta σ H1 R:=h
theorem Z9{wi:TI}{g:TG}{tb:TS}{D:a7f}(h:wi σ H1 fun J H1=>∃W:Nat->Nat->St->Hp->Prop,(∃m,W 0 m σ H1)/\∀i m σ H,W i m σ H ->
 (J.stop i H/\D.nx σ H)\/(J.go i H/\∃N:St->Hp->Prop,(∀σ' H',N σ' H'->∃m',m'<m/\W (i+1) m' σ' H')/\∀x H',J.yld i H x H'->g x σ H' fun σ2 H2=>tb { D with nx:=N,ct:=N,bk:=D.nx } σ2 H2)):a1k wi g tb D σ H1:=h
end
def G7(H H':Hp):Prop:=∀a xs,H a=some (.tup xs)->H' a=some (.tup xs)
theorem G7.trans{H2:Hp}(x:G7 H H1)(y:G7 H1 H2):G7 H H2:=fun a xs h=>y a xs (x a xs h)
theorem G7.put(h:H p=some (.lst ys)):G7 H (upd H p o):=fun a xs e=>by
 rw[g6 (L1 e h (by intro z;cases z))];exact e
theorem o6.ts(s:o6 H H'):G7 H H':=fun a xs h=>s a _ h
theorem A0.ts(k:A0 b H H')(hB:Bag H b c):G7 H H':=fun a xs h=>by
 obtain⟨ys,hb⟩:=hB.lst
 exact k.tup hb h
def OpV(v:V):Prop:=(∃s,v=.str s)\/∃n:Int,v=.int n/\0<=n/\n<1000000000000
def c5I(H:Hp)(p:Addr):Prop:=∃k v1 v2,H p=some (.tup [.str k,v1,v2])/\OpV v1/\OpV v2/\k∈(["plus","minus","times","less","same"]:List Str)
inductive b0w(H:Hp):List V->Prop
 | set (n:Str) (p:Addr):c5I H p->b0w H [.str "set",.str n,.ref p]
 | copy (n:Str) (v:V):OpV v->b0w H [.str "copy",.str n,v]
 | take (n:Str):b0w H [.str "take",.str n]
 | tell (v:V):OpV v->b0w H [.str "tell",v]
 | ask (v:V):OpV v->b0w H [.str "ask",v]
 | skip:b0w H [.str "skip"]
structure c7P(H:Hp)(a:Addr):Prop where
 ex:∃ss:List Str,H a=some (.lst (ss.map V.str))/\ss≠[]/\ss.length<=8
theorem small(h:n<=100000):n<=i8:=A1 h (by rw[a3e];decide)
theorem G9(h:n<100000):n<i8:=w4 h (by rw[a3e];decide)
theorem F4{c:Bool}{A B:Prop}(hc:c=true)(h:A):if c=true then A else B:=by rw[if_pos hc];exact h
theorem y0{c:Bool}{A B:Prop}(hc:c=false)(h:B):if c=true then A else B:=by rw[hc];exact L2.c5r h
section
variable {t u:TS}{tb tc to ti:TE}{tu:TT}{tr:TA}{QB:Bool->Hp->Prop}{QA:List V->Hp->Prop}{x y:V}{i j:Int}{K:Fg}
theorem b4k(h:∀p H',H p=none->H' p=some (.dK [])->o6 H H'->Q (.ref p) H'):a6J σ H Q:=fun p hp=>h p _ hp c9 (t8 hp)
theorem b5s(h:ti σ H fun y H1=>to σ H1 fun x H2=>∃a o,x=.ref a/\a3a H2 a y o/\Q (.bl o.isSome) H2):a9A ti to σ H Q:=h
theorem a8A(h:ti σ H fun y H1=>to σ H1 fun x H2=>∃a o,x=.ref a/\a3a H2 a y o/\Q (.bl (!o.isSome)) H2):a2l ti to σ H Q:=h
theorem a8z(h:te σ H fun v H1=>to σ H1 fun x H2=>ti σ H2 fun y H3=>∃a H4,x=.ref a/\a9m H3 a y v H4/\D.nx σ H4):a4c to ti te D σ H:=h
theorem b5r{f:Str}(h:ta σ H fun x H1=>∃a C dx fs v,x=.ref a/\H1 a=some (.ins C dx fs)/\Cls K C/\a2e K C f/\fs.lookup f=some v/\Q v H1):b3V K ta f σ H Q:=h
theorem b4j{f:Str}(h:te σ H fun y H1=>ta σ H1 fun x H2=>∃a C dx fs,x=.ref a/\H2 a=some (.ins C dx fs)/\Cls K C/\a2e K C f/\fs.length<1000/\D.nx σ (upd H2 a (.ins C dx (a2g f y fs)))):b6E K ta te f D σ H:=h
theorem b8Q{m:Str}{sp:Sp}{E:XK}(h:ta σ H fun x H1=>∃a dx fs,x=.ref a/\H1 a=some (.ins C dx fs)/\fs.lookup m=none/\tr σ H1 fun vs H2=>sp (x::(vs++[])) H2 Q E):a6a C m sp [] E ta tr σ H Q:=h
theorem c3N{sp:Sp}{E:XK}(h:tr σ H fun vs H1=>∀x dx,H1 x=none->H1 dx=none->dx≠x ->
 sp (.ref x::(vs++[])) (upd (upd H1 dx (.own x)) x (.ins C dx [])) (fun v H2=>v=.non/\Q (.ref x) H2) E):b0a C sp [] E tr σ H Q:=h
theorem c6m{f:V->List V->Hp->VK->Prop}(h:to σ H fun x H1=>tyV K "list" x H1/\f x [] H1 Q):b3X K "list" f to σ H Q:=h
theorem Z1(h:H p=some (.lst xs)):tyV K "list" (.ref p) H:=.inl ⟨rfl,xs,SqL.of h⟩
theorem a3m{a b:Nat}{QS:St->Hp->Prop}(hp:SqT K H p [x,y])(h:QS ((σ.set a (some x)).set b (some y)) H):a8X K 2 (a0u (o5 a) (a0u (o5 b) a8Y)) (.ref p) σ H QS:=
 ⟨p,_,rfl,hp,rfl,_,_,rfl,_,_,rfl,rfl,h⟩
theorem a7I(h:tr σ H fun vs H1=>∃a,vs=[.ref a]/\(∃xs,SqL K H1 a xs)/\R (Ite K a) H1):a8V K tr σ H R:=h
theorem c3O(h:tr σ H fun vs H1=>∃a b,vs=[.ref a,.ref b]/\(∃xs,SqL K H1 a xs)/\(∃xs,SqL K H1 b xs)/\R (Itz K a b) H1):c2p K tr σ H R:=h
theorem b0T(h:∃W:Nat->St->Hp->Prop,(∃m,W m σ H)/\∀m σ H,W m σ H ->
 tt σ H fun b H1=>if b=true then ∃N:St->Hp->Prop,(∀σ' H',N σ' H'->∃m',m'<m/\W m' σ' H')/\t { D with nx:=N,ct:=N,bk:=D.nx } σ H1 else D.nx σ H1):a6I tt t D σ H:=h
theorem c3J(h:te σ H fun v H1=>D.nx (σ.set n (some v)) H1):(fun D σ H=>te σ H fun v H1=>(D:a7f).nx (σ.set n (some v)) H1:TS) D σ H:=h
theorem b5u{wi:TI}(h:wi σ H1 fun J H1=>∀D,H1 D=none->∃W:Nat->Nat->List V->Hp->Prop,
 (∃m,W 0 m [] (upd H1 D (.lst [])))/\∀i m ys H2,W i m ys H2->H2 D=some (.lst ys) /\
  ((J.stop i H2 /\ Q (.ref D) H2) \/ (J.go i H2 /\ ∀ x H3,J.yld i H2 x H3 -> ∃ a u v,x = .ref a /\ SqT K H3 a [u,v] /\ tt (some u :: some v :: σ) H3 fun ok H4 => if ok = true then
    te (some u::some v::σ) H4 (fun y H5=>H5 D=some (.lst ys)/\ys.length<i8/\∃m',m'<m/\W (i+1) m' (ys++[y]) (upd H5 D (.lst (ys++[y]))))
    else ∃m',m'<m/\W (i+1) m' ys H4))):a8l K wi tt te σ H1 Q:=h
theorem c5v{J:It}{D:Addr}(n:Nat)(Pv:Nat->List V->Hp->Prop)(h0:Pv 0 [] (upd H1 D (.lst [])))(hP:∀i ys H,Pv i ys H->H D=some (.lst ys))(stop:∀ys H,Pv n ys H->J.stop n H/\QD H)(go:∀i ys H,i<n->Pv i ys H->J.go i H)
  (step:∀i ys H2,i<n->Pv i ys H2->∀x H3,J.yld i H2 x H3->∀(R:VK) (S:Hp->Prop),(∀y H5,H5 D=some (.lst ys)->ys.length<i8->Pv (i+1) (ys++[y]) (upd H5 D (.lst (ys++[y])))->R y H5)->(∀H4,Pv (i+1) ys H4->S H4) ->
   tt (some x::σ) H3 fun ok H4=>if ok=true then te (some x::σ) H4 R else S H4) :
  ∃W:Nat->Nat->List V->Hp->Prop,(∃m,W 0 m [] (upd H1 D (.lst [])))/\∀i m ys H2,W i m ys H2->H2 D=some (.lst ys) /\
   ((J.stop i H2 /\ QD H2) \/ (J.go i H2 /\ ∀ x H3,J.yld i H2 x H3 -> tt (some x :: σ) H3 fun ok H4 => if ok = true then
     te (some x::σ) H4 (fun y H5=>H5 D=some (.lst ys)/\ys.length<i8/\∃m',m'<m/\W (i+1) m' (ys++[y]) (upd H5 D (.lst (ys++[y]))))
     else ∃m',m'<m/\W (i+1) m' ys H4)):=by
 refine⟨fun i m ys H=>m=n - i/\i<=n/\Pv i ys H,⟨n,rfl,E9 _,h0⟩,?_⟩
 rintro i m ys H2 ⟨rfl,hi,p⟩
 refine⟨hP i ys H2 p,?_⟩
 by_cases hlt:i<n
 ·exact .inr ⟨go i ys H2 hlt p,fun x H3 hy=>step i ys H2 hlt p x H3 hy _ _ (fun y H5 h1 h2 h3=>⟨h1,h2,n - (i+1),by omega,rfl,hlt,h3⟩) fun H4 h4=>⟨n - (i+1),by omega,rfl,hlt,h4⟩⟩
 ·have e:i=n:=by omega
  subst e
  exact .inl (stop ys H2 p)
theorem c0l{J:It}{D:Addr}(n:Nat)(Pv:Nat->List V->Hp->Prop)(h0:Pv 0 [] (upd H1 D (.lst [])))(hP:∀i ys H,Pv i ys H->H D=some (.lst ys))(stop:∀ys H,Pv n ys H->J.stop n H/\QD H)(go:∀i ys H,i<n->Pv i ys H->J.go i H)
  (step:∀i ys H2,i<n->Pv i ys H2->∀x H3,J.yld i H2 x H3->∃a u v,x=.ref a/\SqT K H3 a [u,v]/\∀(R:VK) (S:Hp->Prop),(∀y H5,H5 D=some (.lst ys)->ys.length<i8->Pv (i+1) (ys++[y]) (upd H5 D (.lst (ys++[y])))->R y H5)->(∀H4,Pv (i+1) ys H4->S H4) ->
   tt (some u::some v::σ) H3 fun ok H4=>if ok=true then te (some u::some v::σ) H4 R else S H4) :
  ∃W:Nat->Nat->List V->Hp->Prop,(∃m,W 0 m [] (upd H1 D (.lst [])))/\∀i m ys H2,W i m ys H2->H2 D=some (.lst ys) /\
   ((J.stop i H2 /\ QD H2) \/ (J.go i H2 /\ ∀ x H3,J.yld i H2 x H3 -> ∃ a u v,x = .ref a /\ SqT K H3 a [u,v] /\ tt (some u :: some v :: σ) H3 fun ok H4 => if ok = true then
     te (some u::some v::σ) H4 (fun y H5=>H5 D=some (.lst ys)/\ys.length<i8/\∃m',m'<m/\W (i+1) m' (ys++[y]) (upd H5 D (.lst (ys++[y]))))
     else ∃m',m'<m/\W (i+1) m' ys H4)):=by
 refine⟨fun i m ys H=>m=n - i/\i<=n/\Pv i ys H,⟨n,rfl,E9 _,h0⟩,?_⟩
 rintro i m ys H2 ⟨rfl,hi,p⟩
 refine⟨hP i ys H2 p,?_⟩
 by_cases hlt:i<n
 ·refine .inr ⟨go i ys H2 hlt p,fun x H3 hy=>?_⟩
  obtain⟨a,u,v,e,hs,st⟩:=step i ys H2 hlt p x H3 hy
  exact⟨a,u,v,e,hs,st _ _ (fun y H5 h1 h2 h3=>⟨h1,h2,n - (i+1),by omega,rfl,hlt,h3⟩) fun H4 h4=>⟨n - (i+1),by omega,rfl,hlt,h4⟩⟩
 ·have e:i=n:=by omega
  subst e
  exact .inl (stop ys H2 p)
theorem b5N{J:It}{g:TG}{tb:TS}(n:Nat)(Pv:Nat->St->Hp->Prop)(h0:Pv 0 σ H)(stop:∀σ H,Pv n σ H->J.stop n H/\D.nx σ H)(go:∀i σ H,i<n->Pv i σ H->J.go i H)
  (hs:∀i σ H,i<n->Pv i σ H->∀x H',J.yld i H x H'->g x σ H' fun σ2 H2=>tb { D with nx:=Pv (i+1),ct:=Pv (i+1),bk:=D.nx } σ2 H2) :
  ∃W:Nat->Nat->St->Hp->Prop,(∃m,W 0 m σ H)/\∀i m σ H,W i m σ H ->
   (J.stop i H/\D.nx σ H)\/(J.go i H/\∃N:St->Hp->Prop,(∀σ' H',N σ' H'->∃m',m'<m/\W (i+1) m' σ' H')/\∀x H',J.yld i H x H'->g x σ H' fun σ2 H2=>tb { D with nx:=N,ct:=N,bk:=D.nx } σ2 H2):=by
 refine⟨fun i m σ H=>m=n - i/\i<=n/\Pv i σ H,⟨n,rfl,E9 _,h0⟩,?_⟩
 rintro i m σ H ⟨rfl,hi,p⟩
 by_cases hlt:i<n
 ·exact .inr ⟨go i σ H hlt p,Pv (i+1),fun σ' H' p'=>⟨n - (i+1),by omega,rfl,hlt,p'⟩,fun x H' hy=>hs i σ H hlt p x H' hy⟩
 ·have e:i=n:=by omega
  subst e
  exact .inl (stop σ H p)
theorem c6u(h:Q (.int (if j<i then j else i)) H):b9c [.int i,.int j] H Q:=h
theorem a7t(bs:List Bool):U5 (bs.map V.bl)=some bs:=by
 induction bs with
 | nil=>rfl
 | cons s r ih=>simp[U5,ih]
theorem c6x{bs:List Bool}(hl:H l=some (.lst (bs.map V.bl)))(h:Q (.bl (bs.any id)) H):b4t [.ref l] H Q:=by
 unfold b4t
 simp only[hl]
 exact⟨bs,a7t bs,h⟩
theorem c6y{bs:List Bool}(hl:H l=some (.lst (bs.map V.bl)))(h:Q (.bl (bs.all id)) H):b1d [.ref l] H Q:=by
 unfold b1d
 simp only[hl]
 exact⟨bs,a7t bs,h⟩
theorem a8C{zs:List V}(hl:H l=some (.lst xs))(hb:H b=some (.lst zs))(hz:xs.length+zs.length<=i8)(h:Q .non (upd H l (.lst (xs++zs)))):a2t (.ref l) [.ref b] H Q:=by
 unfold a2t
 simp only[hl,hb]
 exact⟨hz,h⟩
theorem c6t(hl:H l=some (.lst (xs++[y])))(h:Q y (upd H l (.lst xs))):b6H (.ref l) [] H Q:=by
 unfold b6H
 simp only[hl]
 refine⟨y,by simp,?_⟩
 simpa using h
theorem a4F(hp:H p=some (.lst ys))(h:∀l H',H l=none->H' l=some (.lst ys)->o6 H H'->Q (.ref l) H'):a1Z [.ref p] H Q:=by
 unfold a1Z
 simp only[hp]
 exact fun l hl=>h l _ hl c9 (t8 hl)
end
def IL(l:List Nat):List V:=l.map fun(n:Nat)=>V.int (n:Int)
theorem U9(l:List Nat):(IL l).length=l.length:=by simp[IL]
theorem c2I(l:List Nat):(IL l).all L9=true:=by
 rw[E4]
 intro x hx
 obtain⟨s,_,rfl⟩:=q9.mp hx
 rfl
def KS(ks:List Nat):List (Key×V):=ks.map fun(k:Nat)=>(Sum.inl (k:Int),V.bl true)
theorem c0t(ks:List Nat)(k:Nat):(a2C (KS ks) (Sum.inl (k:Int))).isSome=decide (k∈ks):=by
 induction ks with
 | nil=>rfl
 | cons a r ih=>
  by_cases e:a=k
  ·subst e
   rw[show KS (a::r)=(Sum.inl (a:Int),V.bl true)::KS r from rfl,a3W rfl]
   simp
  ·rw[show KS (a::r)=(Sum.inl (a:Int),V.bl true)::KS r from rfl,a3X (by intro z;have:=Sum.inl.inj z;exact e (by omega)),ih]
   have:(k∈a::r)↔k∈r:=by
    rw[d8]
    exact⟨fun h=>h.elim (fun z=>absurd z.symm e) id,.inr⟩
   simp[this]
def a4f(ks:List Nat)(k:Nat):List Nat:=if k∈ks then ks else ks++[k]
theorem c5G(ks:List Nat)(k:Nat):a1u (KS ks) (Sum.inl (k:Int)) (V.bl true)=KS (a4f ks k):=by
 unfold a1u a4f
 rw[a2V,c0t]
 by_cases h:k∈ks
 ·rw[if_pos (c8U h),if_pos h]
  unfold KS
  rw[S9]
  apply a6D
  intro a _
  show(if(Sum.inl (a:Int):Key)=Sum.inl (k:Int)then ((Sum.inl (a:Int):Key),V.bl true)else ((Sum.inl (a:Int):Key),V.bl true))=_
  split <;> rfl
 ·rw[if_neg (by simpa using h),if_neg h]
  simp[KS]
theorem Y8{ks:List Nat}{k:Nat}:j∈a4f ks k↔j∈ks\/j=k:=by
 unfold a4f
 split
 ·rename_i h
  exact⟨.inl,fun q=>q.elim id fun z=>z ▸ h⟩
 ·simp
theorem a7M{ks:List Nat}{k:Nat}(h:ks.Nodup):(a4f ks k).Nodup:=by
 unfold a4f
 split
 ·exact h
 ·rename_i hk
  rw[a1h]
  exact⟨h,by simp,fun a ha b hb=>by rw[c7.mp hb];intro z;exact hk (z ▸ ha)⟩
theorem c5H(ks:List Nat):(KS ks).length=ks.length:=by simp[KS]
theorem a8N:∀(n:Nat) (ks:List Nat),ks.Nodup->(∀k∈ks,k<n)->ks.length<=n:=by
 intro n
 induction n with
 | zero=>
  intro ks _ h
  cases ks with
  | nil=>exact d3 _
  | cons a r=>exact absurd (h a D4) (a0P _)
 | succ n ih=>
  intro ks nd h
  by_cases hn:n∈ks
  ·have:=ih (ks.erase n) (nd.erase n) fun k hk=>by
    have h1:=(List.Nodup.mem_erase_iff nd).mp hk
    have:=h k h1.2
    have:=h1.1
    omega
   rw[a3M hn]at this
   omega
  ·have:=ih ks nd fun k hk=>by
    have:=h k hk
    have:k≠n:=fun z=>hn (z ▸ hk)
    omega
   omega
theorem a4J{ks:List Nat}(h:H d=some (.dK (KS ks)))(k:Nat):∃o,a3a H d (.int (k:Int)) o/\o.isSome=decide (k∈ks):=⟨_,a3a.k (k:=Sum.inl (k:Int)) h,c0t ks k⟩
theorem b1w{ks:List Nat}(h:H d=some (.dK (KS ks)))(hl:ks.length<100000)(k:Nat):a9m H d (.int (k:Int)) (.bl true) (upd H d (.dK (KS (a4f ks k)))):=by
 rw[<-c5G]
 exact a9m.k (k:=Sum.inl (k:Int)) h (G9 (by rw[c5H];exact hl))
end RD
namespace RD
variable{C a b c d dl dx l na p ra:Addr}{H H' H0 H1:Hp}{o:HO}{xs ys:List V}{i j m n:Nat}{D:a7f}{σ:St}{ta te:TE}{tt:TT}{Q:VK}{v:V}{s z:Str}{QD:Hp->Prop}{R:It->Hp->Prop}{ks:List (List Key)}{M N:Nt}{ns:List Int}{as ds rs:List Addr}{ss:List Str}{RC:Nat->List V}
theorem b9L:∀(l m:List Nat),l.Nodup->(∀x∈l,x∈m)->l.length<=m.length
 | [],_,_,_=>E9 _
 | a::r,m,nd,h=>by
  have ha:=h a D4
  have:=b9L r (m.erase a) (Q8.mp nd).2 fun x hx=>(b7R (show x≠a from fun z=>(Q8.mp nd).1 (z ▸ hx))).mpr (h x (D0 _ hx))
  rw[a3M ha]at this
  have:=a4M ha
  rw[y8]
  omega
inductive Gd(N:Nt):Nat->Prop
 | stop {k:Nat}:N[k]? = some []->Gd N k
 | step {k t:Nat} {l:List Nat}:N[k]? = some l->t∈l->Gd N t->Gd N k
inductive Rc(N:Nt):Nat->Prop
 | zero:Rc N 0
 | step {k t:Nat} {l:List Nat}:Rc N k->N[k]? = some l->t∈l->Rc N t
structure a2Z(N:Nt):Prop where
 pos:0<N.length
 le:N.length<=400
 two:∀l∈N,l.length<=2
 lt:∀l∈N,∀t∈l,t<N.length
 rc:∀k,k<N.length->Rc N k
 gd:∀k,k<N.length->Gd N k
def a2u(N:Nt)(G:List Nat):List (List Nat):=(z5 N.length).map fun k=>if k∈G then N.getD k [] else (N.length - 1)::(N.getD k []).drop 1
theorem b0m(N:Nt)(G:List Nat):(a2u N G).length=N.length:=by simp[a2u]
theorem a8Q{G:List Nat}{k:Nat}(h:k<N.length):(a2u N G)[k]? = some (if k∈G then N.getD k [] else (N.length - 1)::(N.getD k []).drop 1):=by
 unfold a2u
 rw[b7,a0v h]
 rfl
theorem a6n{G:List Nat}{k:Nat}{l:List Nat}(h:N[k]? = some l)(hk:k∈G):(a2u N G)[k]? = some l:=by
 have hl:=(j6.mp h).1
 rw[a8Q hl,if_pos hk]
 simp[M9,h]
theorem b0l{G:List Nat}{k:Nat}{l:List Nat}(h:N[k]? = some l)(hk:¬k∈G):(a2u N G)[k]? = some ((N.length - 1)::l.drop 1):=by
 have hl:=(j6.mp h).1
 rw[a8Q hl,if_neg hk]
 simp[M9,h]
theorem c2t{G:List Nat}(hG:∀k∈G,Gd N k)(hl:N[N.length - 1]? = some [])(hm:N.length - 1∈G):∀k,k<N.length->Gd (a2u N G) k:=by
 have last:Gd (a2u N G) (N.length - 1):=.stop (a6n hl hm)
 have out:∀k,k<N.length->¬k∈G->Gd (a2u N G) k:=fun k hk h=>.step (b0l (l:=N[k]) (by simp) h) D4 last
 have go:∀k,Gd N k->Gd (a2u N G) k:=by
  intro k h
  induction h with
  | @stop k h=>
   by_cases hk:k∈G
   ·exact .stop (a6n h hk)
   ·exact out k (j6.mp h).1 hk
  | @step k t l h ht _ ih=>
   by_cases hk:k∈G
   ·exact .step (a6n h hk) ht ih
   ·exact out k (j6.mp h).1 hk
 intro k hk
 by_cases h:k∈G
 ·exact go k (hG k h)
 ·exact out k hk h
theorem b2U{G:List Nat}(hp:0<N.length)(hs:∀l∈N,l.length<=2/\∀t∈l,t<N.length)(hl:N[N.length - 1]? = some [])(hm:N.length - 1∈G):∀l∈a2u N G,l.length<=2/\∀t∈l,t<N.length:=by
 intro l hl'
 obtain⟨k,hk⟩:=C3.mp hl'
 have hkl:k<N.length:=by have:=(j6.mp hk).1;rwa [b0m]at this
 rw[a8Q hkl]at hk
 have e:N.getD k []=N[k]:=by simp[M9,hkl]
 rw[e]at hk
 obtain⟨h1,h2⟩:=hs N[k] (y9 _)
 by_cases hg:k∈G
 ·rw[if_pos hg]at hk
  cases hk
  exact⟨h1,h2⟩
 ·rw[if_neg hg]at hk
  cases hk
  refine⟨?_,fun t ht=>?_⟩
  ·rw[y8,a9w];omega
  ·rcases d8.mp ht with z | z
   ·omega
   ·exact h2 t (List.drop_subset _ _ z)
def a5m(N:Nt)(O:List Nat):List (List Nat):=O.map fun k=>(N.getD k []).map fun t=>O.idxOf t
theorem b9X{O:List Nat}{t:Nat}(h:t∈O):O.idxOf t<O.length:=b3H.mpr h
theorem b0K{O:List Nat}{k:Nat}{l:List Nat}(hk:k∈O)(h:N[k]? = some l):(a5m N O)[O.idxOf k]? = some (l.map fun t=>O.idxOf t):=by
 unfold a5m
 have:O[O.idxOf k]? = some k:=by
  rw[c8 (b9X hk)]
  simp
 rw[b7,this]
 simp[M9,h]
theorem b4V{O:List Nat}(h0:0∈O)(hs:O.Pairwise (· <= ·)):O.idxOf 0=0:=by
 cases O with
 | nil=>cases h0
 | cons a r=>
  have:a=0:=by
   rcases d8.mp h0 with z | z
   ·exact z.symm
   ·have:=(c0E.mp hs).1 0 z
    omega
  subst this
  simp
theorem b6n{O:List Nat}(h0:0∈O)(hs:O.Pairwise (· <= ·))(hnd:O.Nodup)(hlt:∀k∈O,k<N.length)(hN:N.length<=400)(hcl:∀k∈O,∀l,N[k]? = some l->∀t∈l,t∈O)(hrc:∀k∈O,Rc N k)
  (hsm:∀l∈N,l.length<=2) (hgd:∀k,k<N.length->Gd N k):a2Z (a5m N O):=by
 have hlen:(a5m N O).length=O.length:=by simp[a5m]
 have rc:∀k,Rc N k->k∈O/\Rc (a5m N O) (O.idxOf k):=by
  intro k h
  induction h with
  | zero=>
   refine⟨h0,?_⟩
   rw[b4V h0 hs]
   exact .zero
  | @step k t l _ hl ht ih=>
   obtain⟨i1,i2⟩:=ih
   exact⟨hcl k i1 l hl t ht,.step i2 (b0K i1 hl) (q9.mpr ⟨t,ht,rfl⟩)⟩
 have gd:∀k,Gd N k->k∈O->Gd (a5m N O) (O.idxOf k):=by
  intro k h
  induction h with
  | @stop k h=>
   intro hk
   exact .stop (by rw[b0K hk h];rfl)
  | @step k t l h ht _ ih=>
   intro hk
   exact .step (b0K hk h) (q9.mpr ⟨t,ht,rfl⟩) (ih (hcl k hk l h t ht))
 have at_:∀i,i<O.length->∃k∈O,O.idxOf k=i:=fun i hi=>⟨O[i],y9 _,hnd.idxOf_getElem i hi⟩
 have mem:∀l∈a5m N O,∃k∈O,∃l',N[k]? = some l'/\l=l'.map fun t=>O.idxOf t:=by
  intro l hl
  obtain⟨k,hk,rfl⟩:=q9.mp hl
  refine⟨k,hk,N[k]'(hlt k hk),by simp[hlt k hk],?_⟩
  simp[M9,hlt k hk]
 refine⟨?_,?_,fun l hl=>?_,fun l hl t ht=>?_,fun i hi=>?_,fun i hi=>?_⟩
 ·rw[hlen]
  exact a4M h0
 ·rw[hlen]
  exact A1 (a8N _ _ hnd hlt) hN
 ·obtain⟨k,hk,l',e,rfl⟩:=mem l hl
  rw[a9]
  exact hsm l' (P4 e)
 ·obtain⟨k,hk,l',e,rfl⟩:=mem l hl
  obtain⟨t',ht',rfl⟩:=q9.mp ht
  rw[hlen]
  exact b9X (hcl k hk l' e t' ht')
 ·rw[hlen]at hi
  obtain⟨k,hk,rfl⟩:=at_ i hi
  exact(rc k (hrc k hk)).2
 ·rw[hlen]at hi
  obtain⟨k,hk,rfl⟩:=at_ i hi
  exact gd k (hgd k (hlt k hk)) hk
end RD
namespace RD
open PySem PySem.Spec PyProof.Rows L2
variable{C a b c d dl dx l na p ra:Addr}{H H' H0 H1:Hp}{o:HO}{xs ys:List V}{i j m n:Nat}{D:a7f}{σ:L2.St}{ta te:TE}{tt:TT}{Q:VK}{v:V}{s z:Str}{QD:Hp->Prop}{R:It->Hp->Prop}{ks:List (List Key)}{M N:Nt}{ns:List Int}{as ds rs:List Addr}{ss:List Str}{RC:Nat->List V}
structure Cn where
 P0:Addr
 a3G:Addr
 a0N:Addr
structure a7D(K:Fg)(c:Cn):Prop where
 a0O:Cls K c.P0
 a0m:a2e K c.P0 "entries"
 a0h:a2e K c.P0 "nexts"
 a1F:a2e K c.P0 "rows"
 b1N:∀H,SqT K H c.a3G [.str "plus",.str "minus",.str "times",.str "less",.str "same"]
 a6B:∀H,SqT K H c.a0N [.int (-1),.int (0)]
def spD(n m:Nat)(t:TS):Sp:=fun vs H Q _=>vs.length=n/\t { nx:=fun _ H'=>Q .non H',rt:=Q } (vs.map some++z8 (m - vs.length) none) H
def c3b(K:Fg):TS:=J3 (X0 (b4 (tC (.int 0)) (b4 (tC (.int 1234567891)) (b4 (tC (.int 0)) (b4 (V1 (R7 K (tSl (c3Z K) (c4 0) a2k (a7o (tC (.int 63))))) V0 (tCB b9e (b4 (c4 0) g0))) g0)))))
def b0O(K:Fg):Sp:=spD 1 1 (c3b K)
def b8u(K:Fg):TS:=u8 (O0 (C8 (tOp qEq (tOp qIx (c4 0) (tC (.int 0))) (tC (.int 0)))) (u8 (E5 (tC (.int 12345)) (o5 2)) (u8 (O0 (C8 (tOp qLt (tOp qIx (c4 0) (tC (.int 2))) (tCB W6 (b4 (tOp qIx (c4 0) (tC (.int 3))) g0)))) (u8 (E5 (tOp qIx (tOp qIx (c4 0) (tC (.int 3))) (tOp qIx (c4 0) (tC (.int 2)))) (o5 3)) (u8 (b5m (c4 0) (tC (.int 2)) (tC (.int 1)) b6I (ipI fun i j=>i+j) b1b) (u8 (O0 (C8 (tOp qGe (c4 3) (tC (.int 1000000000000000000)))) (E5 (c4 3) (b7l (c4 0) (tC (.int 0)) b1b)) E2) (E5 (tOp a0R (tOp a9G (c4 3) (tC (.int 2147483647))) (tC (.int 1))) (o5 2))))) E2) (E5 (tOp a9G (tOp a0R (tOp b4p (tOp qIx (c4 0) (tC (.int 1))) (tC (.int 48271))) (c4 2)) (tC (.int 2147483647))) (b7l (c4 0) (tC (.int 1)) b1b)))) E2) (u8 (O0 (C8 (tOp qGt (tOp qIx (c4 0) (tC (.int 0))) (tC (.int 0)))) (u8 (E5 (tOp a9G (tOp qIx (c4 0) (tC (.int 0))) (c4 1)) (o5 4)) (u8 (E5 (tOp c1k (tOp qIx (c4 0) (tC (.int 0))) (c4 1)) (b7l (c4 0) (tC (.int 0)) b1b)) (J3 (c4 4)))) E2) (u8 (E5 (tOp a9G (tOp b4p (tOp qIx (c4 0) (tC (.int 1))) (tC (.int 39373))) (tC (.int 1000000007))) (o5 5)) (u8 (E5 (tOp a9G (tOp b4p (c4 5) (tC (.int 30011))) (tC (.int 998244353))) (o5 6)) (u8 (O0 (C8 (tOp qGt (c4 1) (tC (.int 1000000)))) (J3 (tOp a9G (tOp a0R (tOp b4p (c4 6) (tC (.int 1000000000))) (c4 5)) (c4 1))) E2) (J3 (tOp a9G (tOp c1k (c4 6) (tC (.int 3))) (c4 1)))))))
def F3(K:Fg):Sp:=spD 2 7 (b8u K)
def b8w(K:Fg):TS:=u8 (E5 (X0 (b4 (tC (.str "a")) (b4 (tC (.str "b1")) (b4 (tC (.str "set")) (b4 (tC (.str "k0")) (b4 (tC (.str "ask")) (b4 (tC (.str "k1")) (b4 (tC (.str "total")) (b4 (tC (.str "x2y3z4w5")) (b4 (tC (.str "k2")) (b4 (tC (.str "take")) g0))))))))))) (o5 1)) (u8 (E5 (u0 (F3 K) [] E0 (b4 (c4 0) (b4 (tC (.int 10)) g0))) (o5 2)) (J3 (V1 (a1z (b4 (tOp a0R (tC (.int 2)) (u0 (F3 K) [] E0 (b4 (c4 0) (b4 (tC (.int 3)) g0)))) g0)) V0 (tOp qIx (c4 2) (tOp a9G (tOp a0R (c4 3) (tOp b4p (tC (.int 3)) (c4 0))) (tC (.int 10)))))))
def a6e(K:Fg):Sp:=spD 1 3 (b8w K)
def c2Z(K:Fg):TS:=u8 (E5 (X0 g0) (o5 2)) (u8 (a1k (a1z (b4 (c4 1) g0)) (o5 3) (u8 (E5 (tCB b9c (b4 (tOp a0R (c4 3) (tC (.int 1))) (b4 (tOp b6G (c4 1) (tC (.int 1))) g0))) (o5 4)) (u8 (E5 (X0 (b4 (c4 4) (b4 (u0 (F3 K) [] E0 (b4 (c4 0) (b4 (c4 1) g0))) g0))) (o5 5)) (u8 (E5 (u0 (F3 K) [] E0 (b4 (c4 0) (b4 (tC (.int 8)) g0))) (o5 6)) (u8 (O0 (C8 (tOp qLt (c4 6) (tC (.int 3)))) (E5 (X0 (b4 (tOp qIx (c4 5) (tC (.int 1))) (b4 (c4 4) g0))) (o5 5)) E2) (u8 (O0 (C8 (tOp qEq (c4 6) (tC (.int 3)))) (E5 (X0 (b4 (tOp qIx (c4 5) (tC (.int 1))) (b4 (u0 (F3 K) [] E0 (b4 (c4 0) (b4 (c4 1) g0))) g0))) (o5 5)) E2) (u8 (O0 (tOr (b2m (C8 (tOp qGt (c4 6) (tC (.int 3)))) (C8 (tOp qLt (c4 6) (tC (.int 7))))) (C8 (tOp qEq (c4 1) (tC (.int 1))))) (E5 (X0 (b4 (c4 4) g0)) (o5 5)) E2) (u8 (O0 (b2m (C8 (tOp qEq (c4 6) (tC (.int 7)))) (C8 (tOp qGt (c4 1) (tC (.int 1))))) (E5 (X0 (b4 (tOp qIx (c4 5) (tC (.int 1))) g0)) (o5 5)) E2) (u8 (O0 (tOr (C8 (tOp qEq (c4 3) (tOp b6G (c4 1) (tC (.int 1))))) (b2m (C8 (tOp qEq (c4 6) (tC (.int 6)))) (C8 (tOp qEq (u0 (F3 K) [] E0 (b4 (c4 0) (b4 (tC (.int 4)) g0))) (tC (.int 0)))))) (E5 (X0 g0) (o5 5)) E2) (a0r (tBM K "list" Z5 (c4 2) (b4 (c4 5) g0)))))))))))) (J3 (c4 2)))
def b0N(K:Fg):Sp:=spD 2 7 (c2Z K)
def b2i(K:Fg):TS:=u8 (E5 a6J (o5 1)) (u8 (a1k (a1z (b4 (tCB W6 (b4 (c4 0) g0)) g0)) (o5 2) (a1k (a1z (b4 (tCB W6 (b4 (c4 0) g0)) g0)) (o5 3) (O0 (tOr (C8 (tOp qEq (tOp qIx (c4 0) (c4 3)) (X0 g0))) (tB (tCB b4t (b4 (V1 (R7 K (tOp qIx (c4 0) (c4 3))) V0 (a9A (c4 0) (c4 2))) g0)))) (a4c (c4 1) (c4 3) (tC (.bl true))) E2))) (u8 (E5 (V1 (a1z (b4 (tCB W6 (b4 (c4 0) g0)) g0)) V0 (tIf (tB (a9A (c4 0) (c4 2))) (tOp qIx (c4 1) (c4 0)) (tOp a0R (X0 (b4 (tOp b6G (tCB W6 (b4 (c4 1) g0)) (tC (.int 1))) g0)) (tSl qSl (tOp qIx (c4 1) (c4 0)) (a7o (tC (.int 1))) a2k)))) (o5 0)) (u8 (E5 (b8D ((tC (.int 0),tC (.bl true))::[])) (o5 4)) (u8 (a1k (a1z (b4 (tCB W6 (b4 (c4 0) g0)) g0)) (o5 2) (a1k (a1z (b4 (tCB W6 (b4 (c4 0) g0)) g0)) (o5 3) (O0 (tB (a9A (c4 3) (c4 4))) (a1k (R7 K (tOp qIx (c4 0) (c4 3))) (o5 5) (a4c (c4 4) (c4 5) (tC (.bl true)))) E2))) (u8 (E5 (tCB a4G (b4 (tCB a3q (b4 (c4 4) g0)) g0)) (o5 6)) (J3 (V1 (R7 K (c4 6)) V0 (V1 (R7 K (tOp qIx (c4 1) (c4 0))) V0 (tBM K "list" a6P (c4 8) (b4 (c4 0) g0))))))))))
def a4B(K:Fg):Sp:=spD 1 7 (b2i K)
def a9Y(K:Fg):TS:=u8 (O0 (C8 (tOp qEq (u0 (F3 K) [] E0 (b4 (c4 0) (b4 (tC (.int 4)) g0))) (tC (.int 0)))) (u8 (E5 (X0 (b4 (tC (.int 0)) (b4 (tC (.int 1)) (b4 (tC (.int 999999999999)) (b4 (u0 (F3 K) [] E0 (b4 (c4 0) (b4 (tC (.int 1000000000000)) g0))) g0))))) (o5 2)) (J3 (tOp qIx (c4 2) (u0 (F3 K) [] E0 (b4 (c4 0) (b4 (tC (.int 4)) g0)))))) E2) (J3 (tOp qIx (c4 1) (u0 (F3 K) [] E0 (b4 (c4 0) (b4 (tCB W6 (b4 (c4 1) g0)) g0)))))
def Y5(K:Fg):Sp:=spD 2 3 (a9Y K)
def b8B(K:Fg):TS:=u8 (E5 (X0 (b4 (tC (.str "plus")) (b4 (tC (.str "minus")) (b4 (tC (.str "times")) (b4 (tC (.str "less")) (b4 (tC (.str "same")) g0)))))) (o5 2)) (J3 (a2f (b4 (tOp qIx (c4 2) (u0 (F3 K) [] E0 (b4 (c4 0) (b4 (tC (.int 5)) g0)))) (b4 (u0 (Y5 K) [] E0 (b4 (c4 0) (b4 (c4 1) g0))) (b4 (u0 (Y5 K) [] E0 (b4 (c4 0) (b4 (c4 1) g0))) g0)))))
def a7G(K:Fg):Sp:=spD 2 3 (b8B K)
def c2Y(K:Fg):TS:=u8 (O0 (tB (c4 3)) (J3 (a2f (b4 (tC (.str "ask")) (b4 (u0 (Y5 K) [] E0 (b4 (c4 0) (b4 (c4 1) g0))) g0)))) E2) (u8 (E5 (u0 (F3 K) [] E0 (b4 (c4 0) (b4 (tC (.int 8)) g0))) (o5 4)) (u8 (E5 (tOp qIx (c4 1) (u0 (F3 K) [] E0 (b4 (c4 0) (b4 (tCB W6 (b4 (c4 1) g0)) g0)))) (o5 5)) (u8 (O0 (C8 (tOp qLt (c4 4) (tC (.int 5)))) (J3 (a2f (b4 (tC (.str "set")) (b4 (c4 5) (b4 (tOp qIx (c4 2) (u0 (F3 K) [] E0 (b4 (c4 0) (b4 (tCB W6 (b4 (c4 2) g0)) g0)))) g0))))) E2) (u8 (O0 (C8 (tOp qEq (c4 4) (tC (.int 5)))) (J3 (a2f (b4 (tC (.str "copy")) (b4 (c4 5) (b4 (u0 (Y5 K) [] E0 (b4 (c4 0) (b4 (c4 1) g0))) g0))))) E2) (u8 (O0 (C8 (tOp qEq (c4 4) (tC (.int 6)))) (J3 (tOp qIx (X0 (b4 (a2f (b4 (tC (.str "take")) (b4 (c4 5) g0))) (b4 (a2f (b4 (tC (.str "tell")) (b4 (u0 (Y5 K) [] E0 (b4 (c4 0) (b4 (c4 1) g0))) g0))) g0))) (u0 (F3 K) [] E0 (b4 (c4 0) (b4 (tC (.int 2)) g0))))) E2) (J3 (a2f (b4 (tC (.str "skip")) g0))))))))
def b0M(K:Fg):Sp:=spD 4 6 (c2Y K)
def b8x(K:Fg):TS:=u8 (E5 (u0 (a6e K) [] E0 (b4 (c4 0) g0)) (o5 1)) (u8 (E5 (tOp a0R (tC (.int 1)) (u0 (F3 K) [] E0 (b4 (c4 0) (b4 (tC (.int 9)) g0)))) (o5 2)) (u8 (E5 (tOp a0R (tC (.int 1)) (u0 (F3 K) [] E0 (b4 (c4 0) (b4 (tC (.int 5)) g0)))) (o5 3)) (u8 (O0 (C8 (tOp qEq (u0 (F3 K) [] E0 (b4 (c4 0) (b4 (tC (.int 8)) g0))) (tC (.int 7)))) (u8 (E5 (tOp a0R (tC (.int 15)) (u0 (F3 K) [] E0 (b4 (c4 0) (b4 (tC (.int 10)) g0)))) (o5 2)) (E5 (tOp a0R (tC (.int 1)) (u0 (F3 K) [] E0 (b4 (c4 0) (b4 (tC (.int 3)) g0)))) (o5 3))) E2) (u8 (E5 (u0 (a4B K) [] E0 (b4 (u0 (b0N K) [] E0 (b4 (c4 0) (b4 (c4 2) g0))) g0)) (o5 4)) (u8 (E5 (V1 (a1z (b4 (c4 3) g0)) V0 (u0 (a7G K) [] E0 (b4 (c4 1) (b4 (c4 2) g0)))) (o5 5)) (u8 (fun D σ H=>(V1 (R7 K (c4 4)) V0 (u0 (b0M K) [] E0 (b4 (c4 1) (b4 (c4 2) (b4 (c4 6) (b4 (tOp qEq (tCB W6 (b4 (c4 0) g0)) (tC (.int 2))) g0)))))) σ H fun v H1=>D.nx (σ.set 6 (some v)) H1) (J3 (a2f (b4 (c4 6) (b4 (c4 4) g0))))))))))
def a6f(K:Fg):Sp:=spD 1 7 (b8x K)
def b5l(K:Fg):TS:=u8 (E5 (u0 (a6e K) [] E0 (b4 (c4 0) g0)) (o5 1)) (u8 (E5 (tOp a0R (tC (.int 12)) (u0 (F3 K) [] E0 (b4 (c4 0) (b4 (tC (.int 19)) g0)))) (o5 2)) (u8 (E5 (X0 g0) (o5 3)) (u8 (a1k (a1z (b4 (c4 2) g0)) (o5 4) (u8 (E5 (a2f (b4 (tC (.str "plus")) (b4 (tOp qIx (c4 1) (u0 (F3 K) [] E0 (b4 (c4 0) (b4 (tCB W6 (b4 (c4 1) g0)) g0)))) (b4 (c4 4) g0)))) (o5 5)) (a0r (tBM K "list" Z5 (c4 3) (b4 (a2f (b4 (tC (.str "set")) (b4 (tOp qIx (c4 1) (u0 (F3 K) [] E0 (b4 (c4 0) (b4 (tCB W6 (b4 (c4 1) g0)) g0)))) (b4 (c4 5) g0)))) g0))))) (J3 (a2f (b4 (c4 3) (b4 (tOp a0R (V1 (a1z (b4 (tOp b6G (c4 2) (tC (.int 1))) g0)) V0 (X0 (b4 (tOp a0R (c4 0) (tC (.int 1))) g0))) (X0 (b4 (X0 g0) g0))) g0)))))))
def a6h(K:Fg):Sp:=spD 1 6 (b5l K)
def a3Y(K:Fg):TS:=u8 (O0 (tOr (a3Z (tB (tCB a3N (b4 (c4 0) (b4 (tC (.ty "list")) g0))))) (C8 (tOp qLt (tCB W6 (b4 (c4 0) g0)) (c4 2)))) (fun _ _ _=>False) E2) (O0 (C8 (tOp qGt (tCB W6 (b4 (c4 0) g0)) (tC (.int 400)))) (fun _ _ _=>False) E2)
def a0j(K:Fg):Sp:=spD 3 3 (a3Y K)
def a6H(K:Fg):TS:=u8 (O0 (tOr (a3Z (tB (tCB a3N (b4 (c4 0) (b4 (tC (.ty "str")) g0))))) (a3Z (C8 (a4a qLe qLe (tC (.int 1)) (tCB W6 (b4 (c4 0) g0)) (tC (.int 8)))))) (J3 (tC (.bl false))) E2) (J3 (a0B (tOp (qIn false) (tOp qIx (c4 0) (tC (.int 0))) (tC (.str "abcdefghijklmnopqrstuvwxyz"))) (tCB b1d (b4 (V1 (c2q (c4 0)) V0 (tOp (qIn false) (c4 0) (tOp a0R (tC (.str "abcdefghijklmnopqrstuvwxyz")) (tC (.str "0123456789"))))) g0))))
def X1(K:Fg):Sp:=spD 1 1 (a6H K)
def b3T(K:Fg):TS:=J3 (a0B (tCB a3N (b4 (c4 0) (b4 (tC (.ty "int")) g0))) (b2k (tCB a3N (b4 (c4 0) (b4 (tC (.ty "bool")) g0)))))
def a1l(K:Fg):Sp:=spD 1 1 (b3T K)
def a8i(K:Fg):TS:=J3 (a0B (u0 (a1l K) [] E0 (b4 (c4 0) g0)) (a4a qLe qLt (tC (.int 0)) (c4 0) (tC (.int 1000000000000))))
def a2q(K:Fg):Sp:=spD 1 1 (a8i K)
def a5W(K:Fg):TS:=J3 (c0U (u0 (X1 K) [] E0 (b4 (c4 0) g0)) (u0 (a2q K) [] E0 (b4 (c4 0) g0)))
def U8(K:Fg):Sp:=spD 1 1 (a5W K)
def a9Z(K:Fg)(c:Cn):TS:=u8 (O0 (tOr (a3Z (tB (tCB a3N (b4 (c4 0) (b4 (tC (.ty "tuple")) g0))))) (C8 (tOp qNe (tCB W6 (b4 (c4 0) g0)) (tC (.int 3))))) (J3 (tC (.bl false))) E2) (J3 (a0B (tOp (c4f K) (tOp qIx (c4 0) (tC (.int 0))) (tC (.ref c.a3G))) (a0B (u0 (U8 K) [] E0 (b4 (tOp qIx (c4 0) (tC (.int 1))) g0)) (u0 (U8 K) [] E0 (b4 (tOp qIx (c4 0) (tC (.int 2))) g0)))))
def a3i(K:Fg)(c:Cn):Sp:=spD 1 1 (a9Z K c)
def b2j(K:Fg)(c:Cn):TS:=u8 (O0 (tOr (a3Z (tB (tCB a3N (b4 (c4 0) (b4 (tC (.ty "tuple")) g0))))) (C8 (tOp qEq (tCB W6 (b4 (c4 0) g0)) (tC (.int 0))))) (J3 (tC (.bl false))) E2) (u8 (E5 (tOp qIx (c4 0) (tC (.int 0))) (o5 1)) (u8 (E5 (tSl qSl (c4 0) (a7o (tC (.int 1))) a2k) (o5 2)) (u8 (O0 (C8 (tOp qEq (c4 1) (tC (.str "set")))) (J3 (a0B (tOp qEq (tCB W6 (b4 (c4 2) g0)) (tC (.int 2))) (a0B (u0 (X1 K) [] E0 (b4 (tOp qIx (c4 2) (tC (.int 0))) g0)) (u0 (a3i K c) [] E0 (b4 (tOp qIx (c4 2) (tC (.int 1))) g0))))) E2) (u8 (O0 (C8 (tOp qEq (c4 1) (tC (.str "copy")))) (J3 (a0B (tOp qEq (tCB W6 (b4 (c4 2) g0)) (tC (.int 2))) (a0B (u0 (X1 K) [] E0 (b4 (tOp qIx (c4 2) (tC (.int 0))) g0)) (u0 (U8 K) [] E0 (b4 (tOp qIx (c4 2) (tC (.int 1))) g0))))) E2) (u8 (O0 (C8 (tOp qEq (c4 1) (tC (.str "take")))) (J3 (a0B (tOp qEq (tCB W6 (b4 (c4 2) g0)) (tC (.int 1))) (u0 (X1 K) [] E0 (b4 (tOp qIx (c4 2) (tC (.int 0))) g0)))) E2) (u8 (O0 (C8 (tOp (qIn false) (c4 1) (a2f (b4 (tC (.str "tell")) (b4 (tC (.str "ask")) g0))))) (J3 (a0B (tOp qEq (tCB W6 (b4 (c4 2) g0)) (tC (.int 1))) (u0 (U8 K) [] E0 (b4 (tOp qIx (c4 2) (tC (.int 0))) g0)))) E2) (J3 (a0B (tOp qEq (c4 1) (tC (.str "skip"))) (tOp qEq (tCB W6 (b4 (c4 2) g0)) (tC (.int 0)))))))))))
def a4C(K:Fg)(c:Cn):Sp:=spD 1 3 (b2j K c)
def a5Y(K:Fg):TS:=a1k (a8V K (b4 (c4 0) g0)) (a8X K 2 (a0u (o5 1) (a0u (o5 2) (a8Y)))) (O0 (a3Z (tB (c4 2))) (fun _ _ _=>False) E2)
def a0f(K:Fg):Sp:=spD 1 3 (a5Y K)
def a8j(K:Fg):TS:=J3 (a0B (u0 (a1l K) [] E0 (b4 (c4 0) g0)) (a4a qLe qLt (tC (.int 0)) (c4 0) (c4 1)))
def a2r(K:Fg):Sp:=spD 2 2 (a8j K)
def a7m(K:Fg):TS:=u8 (O0 (a3Z (tB (tCB a3N (b4 (c4 1) (b4 (tC (.ty "list")) g0))))) (J3 (tC (.bl false))) E2) (u8 (E5 (tIf (C8 (tOp qEq (tOp qIx (c4 0) (tC (.int 0))) (tC (.str "ask")))) (a2f (b4 (tC (.int 2)) g0)) (a2f (b4 (tC (.int 0)) (b4 (tC (.int 1)) g0)))) (o5 3)) (J3 (a0B (tOp (qIn false) (tCB W6 (b4 (c4 1) g0)) (c4 3)) (tCB b1d (b4 (V1 (R7 K (c4 1)) V0 (u0 (a2r K) [] E0 (b4 (c4 0) (b4 (c4 3) g0)))) g0)))))
def a1A(K:Fg):Sp:=spD 3 4 (a7m K)
def a5d(K:Fg):TS:=u8 (O0 (tOr (a3Z (tB (tCB a3N (b4 (c4 1) (b4 (tC (.ty "list")) g0))))) (C8 (tOp qNe (tCB W6 (b4 (c4 1) g0)) (tCB W6 (b4 (c4 0) g0))))) (fun _ _ _=>False) E2) (a0r (u0 (a0f K) [] E0 (b4 (a8l K (c2p K (b4 (c4 0) (b4 (c4 1) g0))) V0 (u0 (a1A K) [] E0 (b4 (c4 0) (b4 (c4 1) (b4 (tCB W6 (b4 (c4 2) g0)) g0))))) g0)))
def a0F(K:Fg):Sp:=spD 2 2 (a5d K)
def a9X(K:Fg):TS:=u8 (E5 a6J (o5 2)) (u8 (E5 (tCB a1Z (b4 (c4 0) g0)) (o5 3)) (u8 (a6I (C8 (tOp qGt (tCB W6 (b4 (c4 3) g0)) (tC (.int 0)))) (u8 (E5 (b3X K "list" b6H (c4 3)) (o5 4)) (O0 (tB (a2l (c4 4) (c4 2))) (u8 (a4c (c4 2) (c4 4) (tC (.bl true))) (a0r (tBM K "list" a2t (c4 3) (b4 (tOp qIx (c4 1) (c4 4)) g0)))) E2))) (J3 (c4 2))))
def a1U(K:Fg):Sp:=spD 2 5 (a9X K)
def b2g(K:Fg):TS:=u8 (fun D σ H=>(V1 (R7 K (c4 0)) V0 (X0 g0)) σ H fun v H1=>D.nx (σ.set 1 (some v)) H1) (u8 (a1k (a8V K (b4 (c4 0) g0)) (a8X K 2 (a0u (o5 2) (a0u (o5 3) (a8Y)))) (a1k (R7 K (c4 3)) (o5 4) (a0r (tBM K "list" Z5 (tOp qIx (c4 1) (c4 4)) (b4 (c4 2) g0))))) (J3 (c4 1)))
def a4A(K:Fg):Sp:=spD 1 5 (b2g K)
def a8e(K:Fg):TS:=J3 (a8l K (a8V K (b4 (c4 0) g0)) (C8 (tOp qEq (tCB W6 (b4 (c4 1) g0)) (tC (.int 0)))) (c4 0))
def a2m(K:Fg):Sp:=spD 1 1 (a8e K)
def a5X(K:Fg):TS:=u8 (E5 (u0 (a1U K) [] E0 (b4 (X0 (b4 (tC (.int 0)) g0)) (b4 (c4 0) g0))) (o5 1)) (u8 (E5 (u0 (a1U K) [] E0 (b4 (u0 (a2m K) [] E0 (b4 (c4 0) g0)) (b4 (u0 (a4A K) [] E0 (b4 (c4 0) g0)) g0))) (o5 2)) (a1k (a1z (b4 (tCB W6 (b4 (c4 0) g0)) g0)) (o5 3) (O0 (tOr (tB (a2l (c4 3) (c4 1))) (tB (a2l (c4 3) (c4 2)))) (fun _ _ _=>False) E2)))
def a0Z(K:Fg):Sp:=spD 1 4 (a5X K)
def a8f(K:Fg)(c:Cn):TS:=u8 (E5 (X0 (b4 (tC (.ref c.a0N)) g0)) (o5 1)) (u8 (a1k (a8V K (b4 (c4 0) g0)) (a8X K 2 (a0u (o5 2) (a0u (o5 3) (a8Y)))) (a0r (tBM K "list" a2t (c4 1) (b4 (V1 (a1z (b4 (tCB W6 (b4 (c4 3) g0)) g0)) V0 (a2f (b4 (c4 3) (b4 (c4 0) g0)))) g0)))) (J3 (c4 1)))
def a2n(K:Fg)(c:Cn):Sp:=spD 1 4 (a8f K c)
def a3H(K:Fg)(c:Cn):TS:=u8 (O0 (C8 (tOp (c4g K) (c4 1) (tC (.ref c.a0N)))) (J3 (tC (.int 0))) E2) (J3 (tOp qIx (tOp qIx (b3V K (c4 0) "nexts") (tOp qIx (c4 1) (tC (.int 0)))) (tOp qIx (c4 1) (tC (.int 1)))))
def Z2(K:Fg)(c:Cn):Sp:=spD 2 2 (a3H K c)
def a7n(K:Fg)(c:Cn):TS:=u8 (a0r (u0 (a0j K) [] E0 (b4 (c4 1) (b4 (tC (.int 0)) (b4 (tC (.int 1)) g0))))) (u8 (a0r (u0 (a0f K) [] E0 (b4 (V1 (R7 K (c4 1)) V0 (u0 (a4C K c) [] E0 (b4 (c4 0) g0))) g0))) (u8 (a0r (u0 (a0F K) [] E0 (b4 (c4 1) (b4 (c4 2) g0)))) (u8 (a0r (u0 (a0Z K) [] E0 (b4 (c4 2) g0))) (u8 (b6E K (c4 0) (tCB a1Z (b4 (c4 1) g0)) "rows") (u8 (b6E K (c4 0) (V1 (R7 K (c4 2)) V0 (tCB a1Z (b4 (c4 0) g0))) "nexts") (u8 (b6E K (c4 0) (V1 (R7 K (c4 1)) V0 (X0 g0)) "entries") (a1k (R7 K (u0 (a2n K c) [] E0 (b4 (b3V K (c4 0) "nexts") g0))) (o5 3) (a0r (tBM K "list" Z5 (tOp qIx (b3V K (c4 0) "entries") (a6a c.P0 "leads_to" (Z2 K c) [] E0 (c4 0) (b4 (c4 3) g0))) (b4 (c4 3) g0))))))))))
def a1B(K:Fg)(c:Cn):Sp:=spD 3 4 (a7n K c)
def b8y(K:Fg)(c:Cn):TS:=J3 (b0a c.P0 (a1B K c) [] E0 (b4 (tCB a1Z (b4 (c4 0) g0)) (b4 (V1 (R7 K (c4 1)) V0 (tCB a1Z (b4 (c4 0) g0))) g0)))
def a6g(K:Fg)(c:Cn):Sp:=spD 2 2 (b8y K c)
def a8k(K:Fg):TS:=u8 (E5 (X0 g0) (o5 1)) (u8 (a1k (R7 K (c4 0)) (o5 2) (O0 (b2m (C8 (tOp qEq (tOp qIx (c4 2) (tC (.int 0))) (tC (.str "set")))) (C8 (tOp (c4e true) (tOp qIx (c4 2) (tC (.int 2))) (c4 1)))) (a0r (tBM K "list" Z5 (c4 1) (b4 (tOp qIx (c4 2) (tC (.int 2))) g0))) E2)) (J3 (c4 1)))
def a0s(K:Fg):Sp:=spD 1 3 (a8k K)
def b8v(K:Fg):TS:=J3 (V1 (R7 K (c4 1)) (C8 (tOp qGt (u0 (F3 K) [] E0 (b4 (c4 1) (b4 (tC (.int 4)) g0))) (tC (.int 0)))) (c4 0))
def a6d(K:Fg):Sp:=spD 2 2 (b8v K)
def a5c(K:Fg):TS:=u8 (E5 (tOp qIx (c4 0) (tC (.int 0))) (o5 1)) (u8 (O0 (C8 (tOp qEq (c4 1) (tC (.str "set")))) (J3 (X0 (b4 (tOp qIx (tOp qIx (c4 0) (tC (.int 2))) (tC (.int 1))) (b4 (tOp qIx (tOp qIx (c4 0) (tC (.int 2))) (tC (.int 2))) g0)))) E2) (u8 (O0 (C8 (tOp qEq (c4 1) (tC (.str "copy")))) (J3 (X0 (b4 (tOp qIx (c4 0) (tC (.int 2))) g0))) E2) (u8 (O0 (C8 (tOp (qIn false) (c4 1) (a2f (b4 (tC (.str "tell")) (b4 (tC (.str "ask")) g0))))) (J3 (X0 (b4 (tOp qIx (c4 0) (tC (.int 1))) g0))) E2) (J3 (X0 g0)))))
def a0D(K:Fg):Sp:=spD 1 2 (a5c K)
def a8g(K:Fg):TS:=u8 (E5 (X0 g0) (o5 1)) (u8 (a1k (R7 K (u0 (a0D K) [] E0 (b4 (c4 0) g0))) (o5 2) (O0 (b2m (tB (tCB a3N (b4 (c4 2) (b4 (tC (.ty "str")) g0)))) (C8 (tOp (qIn true) (c4 2) (c4 1)))) (a0r (tBM K "list" Z5 (c4 1) (b4 (c4 2) g0))) E2)) (J3 (c4 1)))
def a2o(K:Fg):Sp:=spD 1 3 (a8g K)
def b2h(K:Fg):TS:=J3 (tIf (C8 (tOp (qIn false) (tOp qIx (c4 0) (tC (.int 0))) (a2f (b4 (tC (.str "set")) (b4 (tC (.str "copy")) (b4 (tC (.str "take")) g0)))))) (tOp qIx (c4 0) (tC (.int 1))) (tC .non))
def a2W(K:Fg):Sp:=spD 1 1 (b2h K)
def a5Z(K:Fg):TS:=u8 (E5 (X0 g0) (o5 1)) (u8 (a1k (R7 K (b3V K (c4 0) "rows")) (o5 2) (u8 (a0r (tBM K "list" a2t (c4 1) (b4 (u0 (a2o K) [] E0 (b4 (c4 2) g0)) g0))) (O0 (C8 (tOp b4r (u0 (a2W K) [] E0 (b4 (c4 2) g0)) (tC .non))) (a0r (tBM K "list" Z5 (c4 1) (b4 (u0 (a2W K) [] E0 (b4 (c4 2) g0)) g0))) E2))) (J3 (tSS (c4 1))))
def a1a(K:Fg):Sp:=spD 1 3 (a5Z K)
def a5b(K:Fg)(c:Cn):TS:=u8 (E5 (tCB b4s (b4 (V1 (R7 K (a6a c.P0 "names" (a1a K) [] E0 (c4 0) g0)) V0 (a2f (b4 (c4 0) (b4 (tC (.bl true)) g0)))) g0)) (o5 2)) (u8 (E5 b3W (o5 3)) (u8 (E5 (tC (.int 0)) (o5 4)) (u8 (a1k (R7 K (c4 1)) (o5 5) (u8 (a6I (tB (a9A (tFK "k" (c4 4)) (c4 2))) (b8E 4 (tC (.int 1)) (ipI fun i j=>i+j))) (u8 (a4c (c4 3) (c4 5) (tFK "k" (c4 4))) (b8E 4 (tC (.int 1)) (ipI fun i j=>i+j))))) (J3 (c4 3)))))
def a0C(K:Fg)(c:Cn):Sp:=spD 2 6 (a5b K c)
def a8h(K:Fg):TS:=u8 (E5 a6J (o5 1)) (u8 (a1k (R7 K (c4 0)) (o5 2) (u8 (E5 (tCB a1Z (b4 (tSl qSl (c4 2) (a7o (tC (.int 1))) a2k) g0)) (o5 3)) (u8 (O0 (C8 (tOp qEq (tOp qIx (c4 2) (tC (.int 0))) (tC (.str "set")))) (E5 (X0 (b4 (tOp qIx (c4 2) (tC (.int 1))) (b4 (tOp qIx (tOp qIx (c4 2) (tC (.int 2))) (tC (.int 1))) (b4 (tOp qIx (tOp qIx (c4 2) (tC (.int 2))) (tC (.int 2))) g0)))) (o5 3)) E2) (a1k (R7 K (c4 3)) (o5 4) (O0 (tB (tCB a3N (b4 (c4 4) (b4 (tC (.ty "str")) g0)))) (a4c (c4 1) (c4 4) (tC (.bl true))) E2))))) (J3 (tCB b4o (b4 (tCB a3q (b4 (c4 1) g0)) g0))))
def a2p(K:Fg):Sp:=spD 1 5 (a8h K)
def c3a(K:Fg):TS:=u8 (E5 (u0 (a2p K) [] E0 (b4 (c4 0) g0)) (o5 2)) (u8 (E5 (X0 g0) (o5 3)) (u8 (E5 (tC (.int 0)) (o5 4)) (u8 (a1k (R7 K (c4 1)) (o5 5) (u8 (a6I (C8 (tOp (qIn false) (tOp a0R (tC (.str "k")) (tCB b5y (b4 (c4 4) g0))) (c4 2))) (E5 (tOp a0R (c4 4) (tC (.int 1))) (o5 4))) (u8 (a0r (tBM K "list" Z5 (c4 3) (b4 (a2f (b4 (c4 5) (b4 (tOp a0R (tC (.str "k")) (tCB b5y (b4 (c4 4) g0))) g0))) g0))) (E5 (tOp a0R (c4 4) (tC (.int 1))) (o5 4))))) (J3 (c4 3)))))
def a8o(K:Fg):Sp:=spD 2 6 (c3a K)
def b8A(K:Fg)(c:Cn):TS:=u8 (E5 (tCB a1Z (b4 (c4 2) g0)) (o5 3)) (u8 (E5 (u0 (a0C K c) [] E0 (b4 (c4 0) (b4 (c4 3) g0))) (o5 4)) (u8 (O0 (tOr (a3Z (tB (tCB a3N (b4 (c4 4) (b4 (tC (.ty "dict")) g0))))) (C8 (tOp (c1j K) (c4 3) (c4 2)))) (J3 (tC (.bl false))) E2) (u8 (b8C (c4 4) (o5 5) (O0 (a3Z (tB (tCB a3N (b4 (b2l (c4 4) (c4 5)) (b4 (tC (.ty "str")) g0))))) (J3 (tC (.bl false))) E2)) (u8 (O0 (C8 (tOp (c1j K) (tCB b1a (b4 (tCB b4q (b4 (b3X K "dict" b9b (c4 4)) g0)) g0)) (tCB b1a (b4 (V1 (R7 K (u0 (a8o K) [] E0 (b4 (c4 1) (b4 (c4 2) g0)))) V0 (tOp qIx (c4 0) (tC (.int 1)))) g0)))) (J3 (tC (.bl false))) E2) (u8 (O0 (C8 (tOp qNe (tCB b9d (b4 (c4 4) g0)) (tCB W6 (b4 (c4 2) g0)))) (J3 (tC (.bl false))) E2) (u8 (a1k (R7 K (u0 (a8o K) [] E0 (b4 (c4 1) (b4 (c4 2) g0)))) (a8X K 2 (a0u (o5 5) (a0u (o5 6) (a8Y)))) (O0 (tOr (tB (a2l (c4 5) (c4 4))) (C8 (tOp qNe (b2l (c4 4) (c4 5)) (c4 6)))) (J3 (tC (.bl false))) E2)) (u8 (a0r (b3X K "dict" b1c (c4 4))) (J3 (tC (.bl true))))))))))
def a0E(K:Fg)(c:Cn):Sp:=spD 3 7 (b8A K c)
def b8z(K:Fg)(c:Cn):TS:=u8 (E5 (u0 (b0O K) [] E0 (b4 (c4 0) g0)) (o5 1)) (u8 (E5 (u0 (a6f K) [] E0 (b4 (c4 1) g0)) (a8X K 2 (a0u (o5 2) (a0u (o5 3) (a8Y))))) (u8 (E5 (u0 (a6f K) [] E0 (b4 (c4 1) g0)) (a8X K 2 (a0u (o5 4) (a0u (o5 5) (a8Y))))) (u8 (O0 (C8 (tOp qEq (u0 (F3 K) [] E0 (b4 (c4 1) (b4 (tC (.int 8)) g0))) (tC (.int 7)))) (E5 (u0 (a6h K) [] E0 (b4 (c4 1) g0)) (a8X K 2 (a0u (o5 2) (a0u (o5 3) (a8Y))))) E2) (u8 (E5 (u0 (a6g K c) [] E0 (b4 (c4 2) (b4 (c4 3) g0))) (o5 6)) (u8 (E5 (u0 (a6g K c) [] E0 (b4 (c4 4) (b4 (c4 5) g0))) (o5 7)) (u8 (E5 (u0 (a6d K) [] E0 (b4 (c4 1) (b4 (u0 (a0s K) [] E0 (b4 (c4 2) g0)) g0))) (o5 8)) (u8 (E5 (u0 (a6d K) [] E0 (b4 (c4 1) (b4 (u0 (a0s K) [] E0 (b4 (c4 4) g0)) g0))) (o5 9)) (u8 (O0 (tOr (a3Z (tB (u0 (a0E K c) [] E0 (b4 (c4 6) (b4 (c4 2) (b4 (c4 8) g0)))))) (a3Z (tB (u0 (a0E K c) [] E0 (b4 (c4 7) (b4 (c4 4) (b4 (c4 9) g0))))))) (J3 (tC (.bl false))) E2) (u8 (O0 (tOr (a3Z (tB (u0 (a0E K c) [] E0 (b4 (c4 6) (b4 (c4 2) (b4 (tSl qSl (c4 8) (a7o (tC (.int 1))) a2k) g0)))))) (a3Z (tB (u0 (a0E K c) [] E0 (b4 (c4 6) (b4 (c4 2) (b4 (u0 (a0s K) [] E0 (b4 (c4 2) g0)) g0))))))) (J3 (tC (.bl false))) E2) (J3 (a0B (u0 (a0E K c) [] E0 (b4 (c4 6) (b4 (c4 2) (b4 (c4 8) g0)))) (u0 (a0E K c) [] E0 (b4 (c4 7) (b4 (c4 4) (b4 (X0 g0) g0)))))))))))))))
def a8n(K:Fg):Sp:=fun vs H Q _=>vs.length=1/\∀c,a7D K c->b8z K c { nx:=fun _ H'=>Q .non H',rt:=Q } (vs.map some++z8 (10 - vs.length) none) H
end RD
local macro_rules | `(tactic| walk_at "st") => `(tactic| (with_reducible first
 | refine RD.c6n ?_ | refine RD.b0Y ?_ | refine RD.c3Q ?_ | refine RD.c6f ?_ | refine RD.c3R ?_ | refine RD.c7v ?_ | refine RD.c3M ?_ | refine RD.c3I ?_ | refine RD.c7r ?_ | refine RD.c6i ?_ | refine RD.c6o ?_ | refine RD.c7u ?_ | refine RD.c3V ?_ | refine RD.c6g ?_ | refine RD.c3L ?_ | refine RD.c6k ?_ | refine RD.c6h ?_ | refine RD.c1g ?_ | refine RD.s_un ?_ | refine RD.s_neg ?_ | refine RD.s_c ?_ | refine RD.b8S ?_ | refine RD.c3c ?_ | refine RD.c3T ?_ | refine RD.c7w ?_ | refine RD.c6e ?_ | refine RD.c6j ?_ | refine RD.c7t ?_ | refine RD.c3K ?_ | refine RD.b8O ?_ | refine RD.s_rev ?_ | refine RD.b4h ?_ | refine RD.c3U ?_ | refine RD.s_bmS ?_
 | refine RD.c6d (by with_unfolding_all rfl) ?_ | refine Exists.intro _ (And.intro (Eq.refl (L2.V.bl _)) ?_) | refine Exists.intro _ (And.intro (Eq.refl (L2.V.int _)) ?_)
 | refine RD.c3k ?_ | refine RD.c4c ?_ | refine RD.c7B ?_ | refine RD.c6z ?_ | refine RD.c7C rfl ?_ | refine RD.c7A rfl ?_))
local macro_rules | `(tactic| walk_at "ev") => `(tactic| repeat walk_at "st")
local macro_rules | `(tactic| walk_at "go") => `(tactic| repeat (first | with_reducible refine RD.X7 ?_ | walk_at "st"))
local macro_rules | `(tactic| ext) => `(tactic| walk_at "ev")
local macro_rules | `(tactic| exists $t:term) => `(tactic| (refine $t; walk_at "ev"))
local macro_rules | `(tactic| specialize $t:term) => `(tactic| (with_reducible refine $t; walk_at "ev"))
local macro_rules | `(tactic| exact_mod_cast $t:term) => `(tactic| with_reducible refine $t)
local macro_rules | `(tactic| nofun) => `(tactic| (with_reducible refine RD.X7 ?_; walk_at "ev"))
namespace RD
open PySem PySem.Spec L2
variable{C a b c d dl dx l na p ra:Addr}{H H' H0 H1:Hp}{o:HO}{xs ys:List V}{i j m n:Nat}{D:a7f}{σ:St}{ta te:TE}{tt:TT}{Q:VK}{v:V}{s z:Str}{QD:Hp->Prop}{R:It->Hp->Prop}{ks:List (List Key)}{M N:Nt}{ns:List Int}{as ds rs:List Addr}{ss:List Str}{RC:Nat->List V}
section
variable {D:Addr}
theorem c3P(h:ta σ H fun v H2=>∃x,v=.str x/\R (Its x) H2):c2q ta σ H R:=h
theorem c0k{x:Str}(Pv:Nat->List V->Hp->Prop)(h0:Pv 0 [] (upd H1 D (.lst [])))(hP:∀i ys H,Pv i ys H->H D=some (.lst ys))
  (step:∀i c ys H2,x.cps[i]? = some c->Pv i ys H2->∀(R:VK) (R':Hp->Prop),(∀y H5,H5 D=some (.lst ys)->ys.length<i8->Pv (i+1) (ys++[y]) (upd H5 D (.lst (ys++[y])))->R y H5)->(∀H4,Pv (i+1) ys H4->R' H4) ->
   tt (some (.str ⟨#[c]⟩)::σ) H2 fun ok H4=>if ok=true then te (some (.str ⟨#[c]⟩)::σ) H4 R else R' H4)
  (done:∀ys H2,Pv x.length ys H2->QD H2) :
  ∃W:Nat->Nat->List V->Hp->Prop,(∃m,W 0 m [] (upd H1 D (.lst [])))/\∀i m ys H2,W i m ys H2->H2 D=some (.lst ys) /\
   (((Its x).stop i H2 /\ QD H2) \/ ((Its x).go i H2 /\ ∀ v H3,(Its x).yld i H2 v H3 -> tt (some v :: σ) H3 fun ok H4 => if ok = true then
     te (some v::σ) H4 (fun y H5=>H5 D=some (.lst ys)/\ys.length<i8/\∃m',m'<m/\W (i+1) m' (ys++[y]) (upd H5 D (.lst (ys++[y]))))
     else ∃m',m'<m/\W (i+1) m' ys H4)):=by
 refine⟨fun i m ys H=>m=x.length - i/\i<=x.length/\Pv i ys H,⟨x.length,rfl,E9 _,h0⟩,?_⟩
 rintro i m ys H2 ⟨rfl,hi,p⟩
 refine⟨hP i ys H2 p,?_⟩
 by_cases hlt:i<x.length
 ·refine .inr ⟨hlt,fun v H3 y=>?_⟩
  obtain⟨e,c,hc,ev⟩:=y
  subst e ev
  exact step i c ys _ hc p _ _ (fun y H5 h1 h2 h3=>⟨h1,h2,x.length - (i+1),by omega,rfl,hlt,h3⟩) fun H4 h=>⟨x.length - (i+1),by omega,rfl,hlt,h⟩
 ·have e:i=x.length:=by omega
  subst e
  exact .inl ⟨d3 _,done ys H2 p⟩
end
def sgn(S:Str)(c:Nat):Bool := !(Builtin.Str.occurrences S ⟨#[c]⟩ 0 S.length 1).isEmpty
theorem c3j{S:Str}{c:Nat}(h:Q (.bl (sgn S c)) H):qIn false (.str ⟨#[c]⟩) (.str S) H Q:=h
abbrev LET:Str := "abcdefghijklmnopqrstuvwxyz"
abbrev SGN:Str := "abcdefghijklmnopqrstuvwxyz0123456789"
theorem c3D:LET++("0123456789" : Str)=SGN:=by decide +kernel
def a4j(z:Str):Bool:=decide (1<=z.length)&&decide (z.length<=8)&&(match z.cps[0]? with | some c=>sgn LET c | none=>false)&&z.cps.toList.all (sgn SGN)
theorem b2Y{K:Fg}{E:XK}(hz:z.length<=100)(k:∀H',o6 H H'->Q (.bl (a4j z)) H'):X1 K [.str z] H Q E:=by
 refine⟨rfl,?_⟩
 unfold a6H
 have hz':=small (show z.length<=100000 by omega)
 nofun
 exists a1X (s := "str") rfl (by decide) ?_
 exists y0 (by decide) ?_
 exists c4b hz' ?_
 by_cases h1:1<=z.length
 case neg=>
  exists y0 (c8T (by omega)) ?_
  exists F4 rfl ?_
  have e:a4j z=false:=by unfold a4j;rw[c8T h1];simp
  rw[<-e]
  exact k H (o6.refl _)
 exists F4 (c8U (by omega)) ?_
 by_cases h8:z.length<=8
 case neg=>
  rw[c8T (show ¬((z.length:Int)<=8) by omega)]
  exists F4 rfl ?_
  have e:a4j z=false:=by unfold a4j;rw[c8T h8];simp
  rw[<-e]
  exact k H (o6.refl _)
 rw[c8U (show(z.length:Int)<=8 by omega)]
 exists y0 rfl ?_
 have hl:z.cps.toList.length=z.length:=z9
 obtain⟨c0,hc0,hc1⟩:=a4s (xs:=z.cps.toList) (i:=0) (by decide) (by omega)
 have hc2:z.cps[0]? = some c0:=by rw[<-C2];exact hc1
 exists c6v hz' hc0 ?_
 have en:a4j z=(sgn LET c0&&z.cps.toList.all (sgn SGN)):=by
  unfold a4j
  rw[c8U h1,c8U h8,hc2]
  simp
 refine c3j (S:=LET) ?_
 refine⟨_,rfl,?_⟩
 cases hs:sgn LET c0 with
 | false=>
  refine c5r ?_
  have e:a4j z=false:=by rw[en,hs];rfl
  rw[<-e]
  exact k H (o6.refl _)
 | true=>
  exists b2X ?_
  specialize W0 (c3P ?_)
  refine⟨z,rfl,fun D hD=>?_⟩
  refine c0k (fun i ys H2=>ys=(z.cps.toList.take i).map (fun c=>V.bl (sgn SGN c))/\H2=upd H D (.lst ys)) ⟨by simp,rfl⟩ ?_ ?_ ?_
  ·rintro i ys _ ⟨_,rfl⟩
   exact c9
  ·rintro i c ys _ hc ⟨rfl,rfl⟩ R R' hR hR'
   have hc':z.cps.toList[i]? = some c:=by rw[C2];exact hc
   ext
   exists b2X ?_
   refine b4n (small (by decide +kernel)) ?_
   have e:(("abcdefghijklmnopqrstuvwxyz" : Str)++("0123456789" : Str))=SGN:=c3D
   rw[e]
   refine c3j (S:=SGN) ?_
   refine hR (.bl (sgn SGN c)) _ c9 (G9 ?_) ⟨?_,?_⟩
   ·rw[a9,C9];omega
   ·rw[G5,hc'];simp
   ·rw[a7F]
  ·rintro ys _ ⟨rfl,rfl⟩
   ext
   have eb:U5 ((z.cps.toList.take z.length).map (fun c=>V.bl (sgn SGN c)))=some ((z.cps.toList.take z.length).map (sgn SGN)):=by
    generalize z.cps.toList.take z.length=l
    induction l with
    | nil=>rfl
    | cons a r ih=>simp[U5,ih]
   have ea:((z.cps.toList.take z.length).map (sgn SGN)).all id=a4j z:=by
    rw[en,hs,c7d,a1g (by omega),List.all_map]
    rfl
   refine(show b1d [.ref D] _ _ from ?_)
   unfold b1d
   simp only[c9]
   refine⟨_,eb,?_⟩
   rw[ea]
   exact k _ (t8 hD)
def NmS(s:Str):Prop:=a4j s=true/\s.length<=8
def OpN(v:V):Prop:=(∃s,v=.str s/\NmS s)\/∃n:Int,v=.int n/\0<=n/\n<1000000000000
abbrev c0u:List Str:=["plus","minus","times","less","same"]
def a6z(H:Hp)(p:Addr):Prop:=∃k v1 v2,H p=some (.tup [.str k,v1,v2])/\OpN v1/\OpN v2/\k∈c0u
theorem a6z.ts(h:a6z H p)(t:G7 H H'):a6z H' p:=by
 obtain⟨k,v1,v2,h,a,b,c⟩:=h
 exact⟨k,v1,v2,t _ _ h,a,b,c⟩
inductive a3P(H:Hp):List V->Prop
 | set (n:Str) (p:Addr):NmS n->a6z H p->a3P H [.str "set",.str n,.ref p]
 | copy (n:Str) (v:V):NmS n->OpN v->a3P H [.str "copy",.str n,v]
 | take (n:Str):NmS n->a3P H [.str "take",.str n]
 | tell (v:V):OpN v->a3P H [.str "tell",v]
 | ask (v:V):OpN v->a3P H [.str "ask",v]
 | skip:a3P H [.str "skip"]
theorem a3P.ts(h:a3P H xs)(t:G7 H H'):a3P H' xs:=by
 cases h with
 | set n p a d=>exact .set n p a (d.ts t)
 | copy n v a o=>exact .copy n v a o
 | take n a=>exact .take n a
 | tell v o=>exact .tell v o
 | ask v o=>exact .ask v o
 | skip=>exact .skip
def a7C(H:Hp)(v:V)(ask:Bool):Prop:=∃p xs,v=.ref p/\H p=some (.tup xs)/\a3P H xs/\(∃k r,xs=.str k::r/\decide ((k:Str) = "ask")=ask)
theorem a7C.ts{a:Bool}(h:a7C H v a)(t:G7 H H'):a7C H' v a:=by
 obtain⟨p,xs,rfl,h,r,q⟩:=h
 exact⟨p,xs,rfl,t _ _ h,r.ts t,q⟩
theorem c5t{n:Int}(k:Q (.bl true) H) :
  J3 (a0B (tCB a3N (b4 (c4 0) (b4 (tC (.ty "int")) g0))) (b2k (tCB a3N (b4 (c4 0) (b4 (tC (.ty "bool")) g0))))) { nx:=fun _ H'=>Q .non H',rt:=Q } [some (.int n)] H:=by
 ext
 exists a1X (s := "int") rfl (by decide) ?_
 exists F4 (by decide) ?_
 exists a1X (s := "int") rfl (by decide) ?_
 exact k
theorem a6p{K:Fg}{n:Int}{E:XK}(k:Q (.bl true) H):a1l K [.int n] H Q E:=⟨rfl,c5t k⟩
theorem b1r{K:Fg}{n:Int}{E:XK}(h0:0<=n)(h1:n<1000000000000)(k:Q (.bl true) H):a2q K [.int n] H Q E:=by
 refine⟨rfl,?_⟩
 unfold a8i
 ext
 refine a6p ?_
 exists ⟨_,rfl,b2X ?_⟩
 exists F4 (c8U h0) ?_
 show Q (.bl (decide (n<1000000000000))) H
 rw[c8U h1]
 exact k
theorem b1s{K:Fg}{n m:Int}{E:XK}(h0:0<=n)(h1:n<m)(k:Q (.bl true) H):a2r K [.int n,.int m] H Q E:=by
 refine⟨rfl,?_⟩
 unfold a8j
 ext
 refine a6p ?_
 exists ⟨_,rfl,b2X ?_⟩
 exists F4 (c8U h0) ?_
 show Q (.bl (decide (n<m))) H
 rw[c8U h1]
 exact k
theorem a3v{K:Fg}{E:XK}(h:NmS z)(k:∀H',o6 H H'->Q (.bl true) H'):X1 K [.str z] H Q E:=by
 refine b2Y (by have:=h.2;omega) fun H' s=>?_
 rw[h.1]
 exact k H' s
theorem b2Z{K:Fg}{n:Int}{E:XK}(k:Q (.bl false) H):X1 K [.int n] H Q E:=by
 refine⟨rfl,?_⟩
 unfold a6H
 nofun
 exists a1X (s := "int") rfl (by decide) ?_
 refine F4 (by decide) ?_
 exists F4 rfl ?_
 exact k
theorem a0g{K:Fg}{E:XK}(h:OpN v)(k:∀H',o6 H H'->Q (.bl true) H'):U8 K [v] H Q E:=by
 refine⟨rfl,?_⟩
 unfold a5W
 ext
 rcases h with ⟨s,rfl,hs⟩ | ⟨n,rfl,h0,h1⟩
 ·refine a3v hs fun G s=>?_
  exact⟨_,rfl,b2X (k G s)⟩
 ·refine b2Z ?_
  exists ⟨_,rfl,c5r ?_⟩
  exact b1r h0 h1 (k H (o6.refl _))
theorem b9T{k:Str}(h:k∈c0u):inV (.str k) [.str "plus",.str "minus",.str "times",.str "less",.str "same"]=true:=by
 simp only[c0u,d8,j7,or_false]at h
 rcases h with rfl | rfl | rfl | rfl | rfl <;> decide +kernel
theorem b4P{K:Fg}{c:Cn}{E:XK}(ck:a7D K c)(h:a6z H p)(k:∀H',o6 H H'->Q (.bl true) H'):a3i K c [.ref p] H Q E:=by
 obtain⟨kd,v1,v2,hp,o1,o2,hk⟩:=h
 refine⟨rfl,?_⟩
 unfold a9Z
 nofun
 exists a1X (s := "tuple") (by simp only[a2D,hp]) (by decide) ?_
 exists y0 (by decide) ?_
 exists a4e hp ?_
 exists y0 (by simp) ?_
 exists J7 hp (a2d _ _) ?_
 refine⟨_,_,rfl,ck.b1N H,rfl,rfl,?_⟩
 exists ⟨_,rfl,F4 (b9T hk) ?_⟩
 exists J7 hp (a3O _ _ _) ?_
 refine a0g o1 fun G1 s1=>?_
 exists ⟨_,rfl,b2X ?_⟩
 exists J7 (s1 _ _ hp) (a7B _ _ _ _) ?_
 exact a0g o2 fun G2 s2=>k G2 (s1.trans s2)
theorem c2y(a:V)(r:List V):a4N (a::r) (some 1) none=r:=by
 unfold a4N
 have e:HT.sIx (a::r).length 0 (some 1)=1:=by
  have:=HT.b0Z (a::r).length 0 1
  rw[show((1:Nat):Int)=1 from rfl]at this
  rw[this,y8]
  omega
 rw[e]
 show List.take ((a::r).length - 1) r=r
 rw[a1g (by simp)]
theorem b2O(a:V)(r:List V):¬(HT.sIx (a::r).length 0 (some 1)=0/\HT.sIx (a::r).length (a::r).length none=(a::r).length):=by
 intro h
 have e:HT.sIx (a::r).length 0 (some 1)=1:=by
  have:=HT.b0Z (a::r).length 0 1
  rw[show((1:Nat):Int)=1 from rfl]at this
  rw[this,y8]
  omega
 omega
theorem b7g{K:Fg}{c:Cn}{a:Bool}{E:XK}(ck:a7D K c)(h:a7C H v a)(k:∀H',o6 H H'->Q (.bl true) H'):a4C K c [v] H Q E:=by
 obtain⟨p,xs,rfl,hp,hr,kd,r,rfl,_⟩:=h
 refine⟨rfl,?_⟩
 unfold b2j
 nofun
 exists a1X (s := "tuple") (by simp only[a2D,hp]) (by decide) ?_
 exists y0 (by decide) ?_
 exists a4e hp ?_
 exists y0 (c8T (by intro z;have:=V.int.inj z;rw[y8]at this;omega)) ?_
 nofun
 exists J7 hp (a2d _ _) ?_
 nofun
 refine c3h hp (b2O _ _) fun q G hq e s=>?_
 rw[c2y]at e
 ext
 have hr:=hr.ts (o6.ts s)
 cases hr with
 | set n d hn hd=>
  nofun
  exists F4 (by decide) ?_
  exists a4e e ?_
  exists F4 (by simp) ?_
  exists J7 e (a2d _ _) ?_
  refine a3v hn fun G1 s1=>?_
  exists ⟨_,rfl,b2X ?_⟩
  exists J7 (s1 _ _ e) (a3O _ _ _) ?_
  exact b4P ck (hd.ts (o6.ts s1)) fun G2 s2=>k G2 ((s.trans s1).trans s2)
 | copy n v hn ho=>
  nofun
  exists y0 (by decide) ?_
  nofun
  exists F4 (by decide) ?_
  exists a4e e ?_
  exists F4 (by simp) ?_
  exists J7 e (a2d _ _) ?_
  refine a3v hn fun G1 s1=>?_
  exists ⟨_,rfl,b2X ?_⟩
  exists J7 (s1 _ _ e) (a3O _ _ _) ?_
  exact a0g ho fun G2 s2=>k G2 ((s.trans s1).trans s2)
 | take n hn=>
  nofun
  exists y0 (by decide) ?_
  nofun
  exists y0 (by decide) ?_
  nofun
  exists F4 (by decide) ?_
  exists a4e e ?_
  exists F4 (by simp) ?_
  exists J7 e (a2d _ _) ?_
  exact a3v hn fun G1 s1=>k G1 (s.trans s1)
 | tell v ho=>
  nofun
  exists y0 (by decide) ?_
  nofun
  exists y0 (by decide) ?_
  nofun
  exists y0 (by decide) ?_
  nofun
  refine C4 (by simp) fun q2 G2 hq2 e2 s2=>?_
  exists a6l e2 rfl rfl ?_
  exists F4 (by decide +kernel) ?_
  exists a4e (s2 _ _ e) ?_
  exists F4 (by simp) ?_
  exists J7 (s2 _ _ e) (a2d _ _) ?_
  exact a0g ho fun G1 s1=>k G1 ((s.trans s2).trans s1)
 | ask v ho=>
  nofun
  exists y0 (by decide) ?_
  nofun
  exists y0 (by decide) ?_
  nofun
  exists y0 (by decide) ?_
  nofun
  refine C4 (by simp) fun q2 G2 hq2 e2 s2=>?_
  exists a6l e2 rfl rfl ?_
  exists F4 (by decide +kernel) ?_
  exists a4e (s2 _ _ e) ?_
  exists F4 (by simp) ?_
  exists J7 (s2 _ _ e) (a2d _ _) ?_
  exact a0g ho fun G1 s1=>k G1 ((s.trans s2).trans s1)
 | skip=>
  nofun
  exists y0 (by decide) ?_
  nofun
  exists y0 (by decide) ?_
  nofun
  exists y0 (by decide) ?_
  nofun
  refine C4 (by simp) fun q2 G2 hq2 e2 s2=>?_
  exists a6l e2 rfl rfl ?_
  exists y0 (by decide +kernel) ?_
  exists F4 (by decide) ?_
  exists a4e (s2 _ _ e) ?_
  have e0:decide (V.int ((([]:List V).length:Nat):Int)=V.int 0)=true:=by decide
  rw[e0]
  exact k G2 (s.trans s2)
theorem ix0{α:Type}(a b c d:α):ixN [a,b,c,d].length 0=some 0:=by
 show ixN 4 0=some 0
 decide
theorem ix1{α:Type}(a b c d:α):ixN [a,b,c,d].length 1=some 1:=by
 show ixN 4 1=some 1
 decide
theorem ix2{α:Type}(a b c d:α):ixN [a,b,c,d].length 2=some 2:=by
 show ixN 4 2=some 2
 decide
structure a9n(H:Hp)(b:Addr)(i0 i1 i2:Int)(c:Addr)(ns:List Int):Prop where
 hb:H b=some (.lst [.int i0,.int i1,.int i2,.ref c])
 hc:H c=some (.lst (ns.map V.int))
 p0:0<=i0
 p1:0<=i1
 p1':i1<2147483647
 p2:0<=i2
 pn:∀x∈ns,0<=x
theorem a9n.bag{i0 i1 i2:Int}(h:a9n H b i0 i1 i2 c ns):Bag H b c:=⟨i0,i1,i2,ns,h.hb,h.hc,h.p0,h.p1,h.p1',h.p2,h.pn⟩
theorem Bag.parts(h:Bag H b c):∃i0 i1 i2 ns,a9n H b i0 i1 i2 c ns:=by
 obtain⟨i0,i1,i2,ns,h1,h2,h3,h4,h5,h6,h7⟩:=h.ex
 exact⟨i0,i1,i2,ns,h1,h2,h3,h4,h5,h6,h7⟩
theorem a9n.ne{i0 i1 i2:Int}(h:a9n H b i0 i1 i2 c ns):c≠b:=L1 h.hc h.hb (by
  intro z
  have z:=HO.lst.inj z
  cases ns with
  | nil=>cases z
  | cons a r=>cases r with
   | nil=>cases z
   | cons a2 r=>cases r with
    | nil=>cases z
    | cons a3 r=>cases r with
     | nil=>cases z
     | cons a4 r=>simp at z)
theorem a9n.put{i0 i1 i2 j0 j1 j2:Int}(h:a9n H b i0 i1 i2 c ns)(q0:0<=j0)(q1:0<=j1)(q1':j1<2147483647)(q2:0<=j2) :
  a9n (upd H b (.lst [.int j0,.int j1,.int j2,.ref c])) b j0 j1 j2 c ns:=⟨c9,by rw[g6 h.ne];exact h.hc,q0,q1,q1',q2,h.pn⟩
theorem M3{K:Fg}{many:Int}{E:XK}(hB:Bag H b c)(h0:0<many)(h1:many<2 ^ 64)
  (k:∀n H',0<=n->n<many->Bag H' b c->A0 b H H'->Q (.int n) H'):F3 K [.ref b,.int many] H Q E:=by
 obtain⟨i0,i1,i2,ns,B⟩:=hB.parts
 refine⟨rfl,?_⟩
 unfold b8u
 refine a1V (P:=fun σ H1=>∃x2 x3 j0 j1 j2,σ=[some (.ref b),some (.int many),x2,x3,none,none,none]/\a9n H1 b j0 j1 j2 c ns/\A0 b H H1) ?_ ?_
 ·-- the second part
  rintro _ H1 ⟨x2,x3,j0,j1,j2,rfl,B1,k1⟩
  refine a1V (P:=fun σ H2=>H2=H1/\σ=[some (.ref b),some (.int many),x2,x3,none,none,none]) ?_ ?_
  ·rintro _ _ ⟨rfl,rfl⟩
   walk_at "go"
   refine O6 B1.hb (a3O _ _ _) ?_
   walk_at "go"
   refine a1Y (.inr (by omega)) ?_
   walk_at "go"
   refine a1Y (by omega) ?_
   walk_at "go"
   have g1:=V6 (j1 * 39373) (show(1000000007:Int)≠0 by decide)
   have g2:=U6 (j1 * 39373) (show(0:Int)<1000000007 by decide)
   refine a1Y (.inr (by omega)) ?_
   walk_at "go"
   refine a1Y (by omega) ?_
   walk_at "go"
   have g3:=V6 (j1 * 39373 % 1000000007 * 30011) (show(998244353:Int)≠0 by decide)
   have g4:=U6 (j1 * 39373 % 1000000007 * 30011) (show(0:Int)<998244353 by decide)
   refine a1n (fun _=>?_) (fun _=>?_)
   ·walk_at "go"
    refine a1Y (.inr (by omega)) ?_
    walk_at "go"
    refine a1Y h0 ?_
    exact k _ _ (V6 _ (by omega)) (U6 _ h0) B1.bag k1
   ·walk_at "go"
    refine a1Y (by omega) ?_
    walk_at "go"
    refine a1Y h0 ?_
    exact k _ _ (V6 _ (by omega)) (U6 _ h0) B1.bag k1
  ·intro nx hnx
   walk_at "go"
   refine O6 B1.hb (a2d _ _) ?_
   walk_at "go"
   refine a1n (fun _=>?_) (fun _=>?_)
   ·walk_at "go"
    refine O6 B1.hb (a2d _ _) ?_
    walk_at "go"
    refine a1Y h0 ?_
    walk_at "go"
    refine O6 B1.hb (a2d _ _) ?_
    walk_at "go"
    refine a1Y ⟨h0,h1⟩ ?_
    walk_at "go"
    refine b5x B1.hb (ix0 _ _ _ _) ?_
    walk_at "go"
    refine k _ _ (V6 _ (by omega)) (U6 _ h0) (B1.put (Int.ediv_nonneg B1.p0 (by omega)) B1.p1 B1.p1' B1.p2).bag (k1.trans (A0.upd _ _ _))
   ·walk_at "go"
    exact hnx _ _ ⟨rfl,rfl⟩
 ·intro nx hnx
  walk_at "go"
  refine O6 B.hb (a2d _ _) ?_
  walk_at "go"
  refine a1n (fun e=>?_) (fun _=>?_)
  ·have e:i0=0:=by simpa using e
   subst e
   nofun
   exact_mod_cast a1V (P:=fun σ H1=>∃m x3 j0 j2,σ=[some (.ref b),some (.int many),some (.int m),x3,none,none,none]/\a9n H1 b j0 i1 j2 c ns/\A0 b H H1/\0<=m) ?_ ?_
   ·rintro _ H1 ⟨m,x3,j0,j2,rfl,B1,k1,hm⟩
    walk_at "go"
    refine O6 B1.hb (a3O _ _ _) ?_
    walk_at "go"
    refine a1Y (.inr (by omega)) ?_
    walk_at "go"
    refine a1Y (by omega) ?_
    walk_at "go"
    refine b5x B1.hb (ix1 _ _ _ _) ?_
    have g1:=V6 (i1 * 48271+m) (show(2147483647:Int)≠0 by decide)
    have g2:=U6 (i1 * 48271+m) (show(0:Int)<2147483647 by decide)
    exact hnx _ _ ⟨_,x3,j0,_,j2,rfl,B1.put B1.p0 g1 g2 B1.p2,k1.trans (A0.upd _ _ _)⟩
   ·intro nx2 hnx2
    walk_at "go"
    refine O6 B.hb (a7B _ _ _ _) ?_
    walk_at "go"
    refine O6 B.hb (c7a _ _ _ _ _) ?_
    walk_at "go"
    refine Q1 B.hc ?_
    walk_at "go"
    refine a1n (fun e=>?_) (fun _=>?_)
    ·have e:i2<(ns.length:Int):=by simpa using e
     obtain⟨v,ev,ev2⟩:=a4s (xs:=ns.map V.int) B.p2 (by simpa using e)
     obtain⟨z,ez,rfl⟩:∃z,ns[i2.toNat]? = some z/\v=V.int z:=by
      rw[b7]at ev2
      cases q:ns[i2.toNat]? with
      | none=>rw[q]at ev2;cases ev2
      | some z=>rw[q]at ev2;exact⟨z,rfl,(Option.some.inj ev2).symm⟩
     have hz:0<=z:=B.pn z (mI ez)
     walk_at "go"
     refine O6 B.hb (c7a _ _ _ _ _) ?_
     walk_at "go"
     refine O6 B.hb (a7B _ _ _ _) ?_
     walk_at "go"
     refine O6 B.hc ev ?_
     walk_at "go"
     exists c6w B.hb (by decide) rfl ?_
     refine b5x B.hb (ix2 _ _ _ _) ?_
     have B2:=B.put (j0:=0) (j1:=i1) (j2:=i2+1) (Int.le_refl _) B.p1 B.p1' (by have:=B.p2;omega)
     exact_mod_cast a1V (P:=fun σ H1=>∃j0,σ=[some (.ref b),some (.int many),some (.int 12345),some (.int z),none,none,none]/\a9n H1 b j0 i1 (i2+1) c ns/\A0 b H H1) ?_ ?_
     ·rintro _ H1 ⟨j0,rfl,B1,k1⟩
      walk_at "go"
      refine a1Y (by omega) ?_
      walk_at "go"
      have g1:=V6 z (show(2147483647:Int)≠0 by decide)
      exact hnx2 _ _ ⟨_,_,j0,_,rfl,B1,k1,by omega⟩
     ·intro nx3 hnx3
      walk_at "go"
      refine a1n (fun _=>?_) (fun _=>?_)
      ·walk_at "go"
       refine b5x B2.hb (ix0 _ _ _ _) ?_
       refine hnx3 _ _ ⟨z,rfl,?_,(A0.upd _ _ _).trans (A0.upd _ _ _)⟩
       exact B2.put hz B.p1 B.p1' (by have:=B.p2;omega)
      ·walk_at "go"
       exact hnx3 _ _ ⟨0,rfl,B2,A0.upd _ _ _⟩
    ·walk_at "go"
     exact hnx2 _ _ ⟨_,_,0,i2,rfl,B,A0.refl _ _,by decide⟩
  ·walk_at "go"
   exact hnx _ _ ⟨_,_,i0,i1,i2,rfl,B,A0.refl _ _⟩
theorem c5x{K:Fg}{E:XK}(hS:SqL K H a (ns.map V.int))(hl:ns.length<=63)
  (k:∀b c H',Bag H' b c->o6 H H'->H b=none->Q (.ref b) H'):b0O K [.ref a] H Q E:=by
 refine⟨rfl,?_⟩
 unfold c3b
 walk_at "go"
 exact_mod_cast W0 (O7 ?_)
 walk_at "go"
 refine⟨a,_,rfl,hS,fun p hp=>⟨p,rfl,⟨_,SqL.of c9⟩,fun D hD=>?_⟩⟩
 have hcut:a4N (ns.map V.int) none (some 63)=ns.map V.int:=by
  unfold a4N
  have e:HT.sIx (ns.map V.int).length 0 none=0:=rfl
  have e2:HT.sIx (ns.map V.int).length (ns.map V.int).length (some 63)=ns.length:=by
   have:=HT.b0Z (ns.map V.int).length (ns.map V.int).length 63
   rw[a9]at this ⊢
   rw[show((63:Nat):Int)=63 from rfl]at this
   rw[this];omega
  rw[e,e2,List.drop_zero,Nat.sub_zero,a1g (by simp)]
 rw[hcut]at hD ⊢
 have s1:o6 H (upd H p (.lst (ns.map V.int))):=t8 hp
 refine W3 (xs:=ns.map V.int) (fun i ys H2=>ys=(ns.take i).map (fun x=>V.int (if x<0 then -x else x))/\H2=upd (upd H p (.lst (ns.map V.int))) D (.lst ys)) ⟨by simp,rfl⟩ ?_ ?_ ?_ ?_
 ·rintro i ys _ ⟨_,rfl⟩
  exact c9
 ·rintro i ys _ _ ⟨_,rfl⟩
  refine SqL.of ?_
  rw[g6 (d5 c9 hD),c9]
 ·rintro i x ys _ hx ⟨rfl,rfl⟩ R hR
  rw[b7]at hx
  cases e:ns[i]? with
  | none=>rw[e]at hx;cases hx
  | some z=>
   rw[e]at hx
   cases hx
   ext
   refine hR _ _ c9 (G9 ?_) ⟨?_,?_⟩
   ·rw[a9,C9];omega
   ·rw[G5,e];simp
   ·rw[a7F]
 ·rintro ys _ ⟨rfl,rfl⟩
  ext
  refine C4 (by simp) fun b H4 hb hb4 s4=>?_
  rw[a9,a1g (d3 _)]at hb s4
  refine k b D _ ⟨0,1234567891,0,ns.map (fun x=>if x<0 then -x else x),hb4,?_,by decide,by decide,by decide,by decide,?_⟩ ?_ ?_
  ·rw[s4 D _ c9,S9];rfl
  ·intro x hx
   obtain⟨y,_,rfl⟩:=q9.mp hx
   split <;> omega
  ·exact(s1.trans (t8 hD)).trans s4
  ·exact(s1.trans (t8 hD)).free hb
structure a5K(H:Hp)(a:Addr):Prop where
 ex:∃ss:List Str,H a=some (.lst (ss.map V.str))/\ss≠[]/\ss.length<=8/\∀s∈ss,NmS s
theorem a5K.kept(h:a5K H a)(hB:Bag H b c)(k:A0 b H H'):a5K H' a/\a≠b:=by
 obtain⟨ss,h1,h2,h3,h4⟩:=h.ex
 obtain⟨i0,i1,i2,ns,hb,_⟩:=hB.ex
 have ne:a≠b:=L1 h1 hb (by
  intro z
  have z:=HO.lst.inj z
  cases ss with
  | nil=>exact h2 rfl
  | cons s r=>cases z)
 exact⟨⟨ss,k.1 a _ h1 ne,h2,h3,h4⟩,ne⟩
structure b3y(H:Hp)(a:Addr):Prop where
 ex:∃ps:List Addr,H a=some (.lst (ps.map V.ref))/\ps≠[]/\ps.length<=8/\∀p∈ps,a6z H p
theorem a0k(hB:Bag H b c)(h:H a=some (.lst (as.map V.ref))):a≠b:=by
 obtain⟨i0,i1,i2,ns,hb,_⟩:=hB.ex
 refine L1 h hb ?_
 intro z
 have z:=HO.lst.inj z
 cases as with
 | nil=>cases z
 | cons s r=>cases z
theorem b2r(hB:Bag H b c)(h:H a=some (.lst xs))(hl:xs.length<=3):a≠b:=by
 obtain⟨i0,i1,i2,ns,hb,_⟩:=hB.ex
 refine L1 h hb ?_
 intro z
 have z:=HO.lst.inj z
 rw[z]at hl
 simp at hl
theorem b3y.kept(h:b3y H a)(hB:Bag H b c)(k:A0 b H H'):b3y H' a:=by
 obtain⟨ps,h1,h2,h3,h4⟩:=h.ex
 exact⟨ps,k.1 a _ h1 (a0k hB h1),h2,h3,fun p hp=>(h4 p hp).ts (A0.ts k hB)⟩
structure D8(H:Hp)(a:Addr)(N:Nt):Prop where
 ex:∃as:List Addr,H a=some (.lst (as.map V.ref))/\as.length=N.length/\∀(i:Nat) x l,as[i]? = some x->N[i]? = some l->H x=some (.lst (IL l))
theorem D8.same(h:D8 H a N)(k:o6 H H'):D8 H' a N:=by
 obtain⟨as,h1,h2,h3⟩:=h.ex
 exact⟨as,k a _ h1,h2,fun i x l e1 e2=>k _ _ (h3 i x l e1 e2)⟩
theorem D8.kept(h:D8 H a N)(hB:Bag H b c)(hN:∀l∈N,l.length<=2)(k:A0 b H H'):D8 H' a N:=by
 obtain⟨as,h1,h2,h3⟩:=h.ex
 refine⟨as,k.1 a _ h1 (a0k hB h1),h2,fun i x l e1 e2=>?_⟩
 have q:=h3 i x l e1 e2
 refine k.1 _ _ q (b2r hB q ?_)
 rw[U9]
 have:=hN l (mI e2)
 omega
theorem D8.at(h:D8 H a N){k:Nat}{l:List Nat}(e:N[k]? = some l):∃(xs:List V) (x:Addr),H a=some (.lst xs)/\atI xs (k:Int)=some (.ref x)/\H x=some (.lst (IL l))/\xs.length=N.length:=by
 obtain⟨as,h1,h2,h3⟩:=h.ex
 have hk:k<as.length:=by rw[h2];exact(gI e)
 have e1:as[k]? = some as[k]:=by simp
 refine⟨_,as[k],h1,?_,h3 k _ l e1 e,by rw[a9,h2]⟩
 exact a1E (by rw[b7,e1];rfl)
theorem D8.len(h:D8 H a N):∃xs,H a=some (.lst xs)/\xs.length=N.length:=by
 obtain⟨as,h1,h2,h3⟩:=h.ex
 exact⟨_,h1,by rw[a9,h2]⟩
theorem c7c{l:List Nat}{t:Nat}(e:l[j]? = some t):atI (IL l) (j:Int)=some (.int (t:Int)):=a1E (by unfold IL;rw[b7,e];rfl)
theorem a7L{K:Fg}{E:XK}(hB:Bag H b c)(ha:H a=some (.lst xs))(na:a≠b)(h0:xs≠[])(hl:xs.length<=100)
  (k:∀(n:Int) v H',atI xs n=some v->v∈xs->H' a=some (.lst xs)->Bag H' b c->A0 b H H'->Q (.int n) H'):F3 K [.ref b,.int xs.length] H Q E:=by
 have hp:0<xs.length:=c0z.mpr h0
 refine M3 hB (by omega) (by omega) fun n H1 n0 n1 B1 k1=>?_
 obtain⟨v,hv,hv2⟩:=a4s (xs:=xs) n0 n1
 exact k n v H1 hv (mI hv2) (k1.1 _ _ ha na) B1 k1
theorem b4a{α:Type}(l:List α):l=[]\/∃r a,l=r++[a]:=by
 cases h:l.reverse with
 | nil=>left;simpa using h
 | cons a r=>
  right
  refine⟨r.reverse,a,?_⟩
  have:=congrArg List.reverse h
  simpa using this
structure a9Q(H0 H:Hp)(b c D:Addr)(m:Nat)(as:List Addr)(N:Nt):Prop where
 bag:Bag H b c
 kept:A0 b H0 H
 hD:H D=some (.lst (as.map V.ref))
 nb:D≠b
 nc:D≠c
 len:as.length=N.length
 at_:∀(i:Nat) x l,as[i]? = some x->N[i]? = some l->H x=some (.lst (IL l))/\x≠D/\x≠b
 small:∀l∈N,l.length<=2/\∀t∈l,t<m
theorem a9Q.next{D:Addr}(h:a9Q H0 H b c D m as N)(B:Bag H' b c)(k:A0 b H H'):a9Q H0 H' b c D m as N:=
 ⟨B,h.kept.trans k,k.1 _ _ h.hD h.nb,h.nb,h.nc,h.len,fun i x l e1 e2=>let⟨q1,q2,q3⟩:=h.at_ i x l e1 e2; ⟨k.1 _ _ q1 q3,q2,q3⟩,h.small⟩
structure a6w(H:Hp)(b D q:Addr)(m:Nat)(l:List Nat):Prop where
 h:H q=some (.lst (IL l))
 nD:q≠D
 nb:q≠b
 len:l.length<=2
 lt:∀t∈l,t<m
theorem a6w.next{D q:Addr}{l:List Nat}(h:a6w H b D q m l)(k:A0 b H H'):a6w H' b D q m l:=⟨k.1 _ _ h.h h.nb,h.nD,h.nb,h.len,h.lt⟩
theorem Q0{α:Type}{xs:List α}{x y:α}(h:(xs++[x])[i]? = some y):(i<xs.length/\xs[i]? = some y)\/(i=xs.length/\y=x):=by
 by_cases hi:i<xs.length
 ·left
  rw[O2 hi]at h
  exact⟨hi,h⟩
 ·right
  rw[M4 (by omega)]at h
  have:i - xs.length=0:=by
   have:=(gI h)
   simp at this
   omega
  rw[this]at h
  simp at h
  exact⟨by omega,h.symm⟩
theorem b0p{a b:Int}:decide (V.int a=V.int b)=decide (a=b):=by
 by_cases h:a=b
 ·subst h;simp
 ·rw[c8T h,c8T (fun z=>h (V.int.inj z))]
theorem c5b{K:Fg}{E:XK}(hB:Bag H b c)(m0:0<m)(m1:m<=24)
  (k:∀a N H',D8 H' a N->N.length=m->(∀l∈N,l.length<=2/\∀t∈l,t<m)->N[m - 1]? = some []->Bag H' b c->A0 b H H'->Q (.ref a) H'):b0N K [.ref b,.int (m:Int)] H Q E:=by
 refine⟨rfl,?_⟩
 unfold c2Z
 nofun
 exists C4 (by simp) fun D H1 hD e1 s1=>?_
 obtain⟨nb,nc⟩:=hB.nb hD
 have B1:=hB.same s1
 exact_mod_cast X7 ?_
 specialize Z9 (a1s ?_)
 refine⟨m,rfl,by omega,by omega,?_⟩
 rw[i9]
 refine a0V (fun i σ H2=>∃x3 x4 x5 x6 as N,σ=[some (.ref b),some (.int (m:Int)),some (.ref D),x3,x4,x5,x6]/\a9Q H H2 b c D m as N/\N.length=i/\(i=m->N[m - 1]? = some [])) ?_ ?_ ?_
 ·exact⟨_,_,_,_,[],[],rfl,⟨B1,A0.of_same s1,e1,nb,nc,rfl,fun i x l e=>by simp at e,fun l h=>by simp at h⟩,rfl,fun z=>by omega⟩
 ·rintro i _ H2 hi ⟨x3,x4,x5,x6,as,N,rfl,I2,hlen,_⟩
  ext
  rw[X9]
  nofun
  exists c6u ?_
  obtain⟨r,hr,hrm⟩:∃r:Nat,(if(m:Int) - 1<(i:Int)+1 then (m:Int) - 1 else (i:Int)+1)=(r:Int)/\r<m:=by
   by_cases h:(m:Int) - 1<(i:Int)+1
   ·exact⟨m - 1,by rw[if_pos h];omega,by omega⟩
   ·exact⟨i+1,by rw[if_neg h];omega,by omega⟩
  rw[hr]
  nofun
  refine M3 I2.bag (by omega) (by omega) fun j H3 j0 j1 B3 k3=>?_
  obtain⟨j,rfl⟩:=L4 j0
  ext
  exists C4 (by simp) fun q H4 hq e4 s4=>?_
  have I3:=I2.next B3 k3
  have I4:=I3.next (B3.same s4) (A0.of_same s4)
  have S4:a6w H4 b D q m [r,j]:=⟨e4,(d5 I3.hD hq).symm,(B3.nb hq).1,by simp,fun t ht=>by
   simp only[d8,j7,or_false]at ht
   rcases ht with rfl | rfl
   ·exact hrm
   ·omega⟩
  nofun
  exists M3 I4.bag (by decide) (by decide) fun w H5 w0 w1 B5 k5=>?_
  have I5:=I4.next B5 k5
  have S5:=S4.next k5
  exact_mod_cast a1V (P:=fun σ H6=>∃q l,σ=[some (.ref b),some (.int (m:Int)),some (.ref D),some (.int (i:Int)),some (.int (r:Int)),some (.ref q),some (.int w)]/\a9Q H H6 b c D m as N/\a6w H6 b D q m l/\l.length=2) ?_ ?_
  rotate_left
  ·intro nx hnx
   ext
   refine a1n (fun _=>?_) (fun _=>?_)
   ·ext
    exists O6 S5.h (a3O _ _ _) ?_
    refine C4 (by simp) fun q6 H6 hq6 e6 s6=>?_
    exact hnx _ _ ⟨q6,[j,r],rfl,I5.next (B5.same s6) (A0.of_same s6),⟨e6,(d5 I5.hD hq6).symm,(B5.nb hq6).1,by simp,fun t ht=>by
     simp only[d8,j7,or_false]at ht
     rcases ht with rfl | rfl
     ·exact S5.lt _ (by simp)
     ·exact S5.lt _ (by simp)⟩,rfl⟩
   ·ext
    exact hnx _ _ ⟨q,[r,j],rfl,I5,S5,rfl⟩
  rintro _ H6 ⟨q,l,rfl,I6,S6,hl6⟩
  obtain⟨l0,l1,rfl⟩:∃l0 l1,l=[l0,l1]:=by
   match l,hl6 with
   | [a,b],_=>exact⟨a,b,rfl⟩
  exact_mod_cast a1V (P:=fun σ H6=>∃q l,σ=[some (.ref b),some (.int (m:Int)),some (.ref D),some (.int (i:Int)),some (.int (r:Int)),some (.ref q),some (.int w)]/\a9Q H H6 b c D m as N/\a6w H6 b D q m l/\l.length=2) ?_ ?_
  rotate_left
  ·intro nx hnx
   ext
   refine a1n (fun _=>?_) (fun _=>?_)
   ·ext
    exists O6 S6.h (a3O _ _ _) ?_
    refine M3 I6.bag (by omega) (by omega) fun j2 H7 z0 z1 B7 k7=>?_
    obtain⟨j2,rfl⟩:=L4 z0
    ext
    have I7:=I6.next B7 k7
    refine C4 (by simp) fun q8 H8 hq8 e8 s8=>?_
    exact hnx _ _ ⟨q8,[l1,j2],rfl,I7.next (B7.same s8) (A0.of_same s8),⟨e8,(d5 I7.hD hq8).symm,(B7.nb hq8).1,by simp,fun t ht=>by
     simp only[d8,j7,or_false]at ht
     rcases ht with rfl | rfl
     ·exact S6.lt _ (by simp)
     ·omega⟩,rfl⟩
   ·ext
    exact hnx _ _ ⟨q,_,rfl,I6,S6,rfl⟩
  clear S6 I6 l0 l1 hl6 S5 I5 S4 I4 I3 B3 k3 B5 k5 s4 e4 hq
  rintro _ H6 ⟨q,l,rfl,I6,S6,hl6⟩
  obtain⟨l0,l1,rfl⟩:∃l0 l1,l=[l0,l1]:=by
   match l,hl6 with
   | [a,b],_=>exact⟨a,b,rfl⟩
  exact_mod_cast a1V (P:=fun σ H6=>∃q l,σ=[some (.ref b),some (.int (m:Int)),some (.ref D),some (.int (i:Int)),some (.int (r:Int)),some (.ref q),some (.int w)]/\a9Q H H6 b c D m as N/\a6w H6 b D q m l/\(w=7->1<m->l.length=2)) ?_ ?_
  rotate_left
  ·intro nx hnx
   have one:∀H7,H7=H6->((w=7/\1<m)->False)->New (.lst [V.int (r:Int)]) 1 H7 fun v H1=>nx [some (.ref b),some (.int (m:Int)),some (.ref D),some (.int (i:Int)),some (.int (r:Int)),some v,some (.int w)] H1:=by
    rintro _ rfl hw
    refine C4 (by simp) fun q8 H8 hq8 e8 s8=>?_
    exact hnx _ _ ⟨q8,[r],rfl,I6.next (I6.bag.same s8) (A0.of_same s8),⟨e8,(d5 I6.hD hq8).symm,(I6.bag.nb hq8).1,by simp,fun t ht=>by rw[c7.mp ht];exact hrm⟩,fun h1 h2=>(hw ⟨h1,h2⟩).elim⟩
   ext
   refine a1n (fun a3=>?_) (fun a3=>?_)
   ·ext
    refine a1n (fun a7=>?_) (fun a7=>?_)
    ·exists F4 rfl ?_
     exact one _ rfl fun⟨z,_⟩=>by have:=of_decide_eq_true a7;omega
    ·ext
     refine a1n (fun a1=>?_) (fun a1=>?_)
     ·ext
      rw[b0p]at a1
      exact one _ rfl fun⟨_,z⟩=>by have:=of_decide_eq_true a1;omega
     ·ext
      exact hnx _ _ ⟨q,_,rfl,I6,S6,fun _ _=>rfl⟩
   ·ext
    exists y0 rfl ?_
    refine a1n (fun a1=>?_) (fun a1=>?_)
    ·ext
     rw[b0p]at a1
     exact one _ rfl fun⟨_,z⟩=>by have:=of_decide_eq_true a1;omega
    ·ext
     exact hnx _ _ ⟨q,_,rfl,I6,S6,fun _ _=>rfl⟩
  clear S6 I6 l0 l1 hl6
  rintro _ H6 ⟨q,l,rfl,I6,S6,hl6⟩
  exact_mod_cast a1V (P:=fun σ H6=>∃q l,σ=[some (.ref b),some (.int (m:Int)),some (.ref D),some (.int (i:Int)),some (.int (r:Int)),some (.ref q),some (.int w)]/\a9Q H H6 b c D m as N/\a6w H6 b D q m l) ?_ ?_
  rotate_left
  ·intro nx hnx
   ext
   refine a1n (fun a7=>?_) (fun a7=>?_)
   ·ext
    refine a1n (fun a1=>?_) (fun a1=>?_)
    ·rw[b0p]at a7
     have a7:=of_decide_eq_true a7
     have a1:=of_decide_eq_true a1
     have hl:=hl6 a7 (by omega)
     obtain⟨l0,l1,rfl⟩:∃l0 l1,l=[l0,l1]:=by
      match l,hl with
      | [a,b],_=>exact⟨a,b,rfl⟩
     ext
     exists O6 S6.h (a3O _ _ _) ?_
     refine C4 (by simp) fun q8 H8 hq8 e8 s8=>?_
     exact hnx _ _ ⟨q8,[l1],rfl,I6.next (I6.bag.same s8) (A0.of_same s8),⟨e8,(d5 I6.hD hq8).symm,(I6.bag.nb hq8).1,by simp,fun t ht=>by rw[c7.mp ht];exact S6.lt _ (by simp)⟩⟩
    ·ext
     exact hnx _ _ ⟨q,_,rfl,I6,S6⟩
   ·exists y0 rfl ?_
    exact hnx _ _ ⟨q,_,rfl,I6,S6⟩
  clear S6 I6 hl6 l
  rintro _ H6 ⟨q,l,rfl,I6,S6⟩
  exact_mod_cast a1V (P:=fun σ H6=>∃q l,σ=[some (.ref b),some (.int (m:Int)),some (.ref D),some (.int (i:Int)),some (.int (r:Int)),some (.ref q),some (.int w)]/\a9Q H H6 b c D m as N/\a6w H6 b D q m l/\(i+1=m->l=[])) ?_ ?_
  rotate_left
  ·intro nx hnx
   have none:∀H7,a9Q H H7 b c D m as N->New (.lst []) 0 H7 fun v H1=>nx [some (.ref b),some (.int (m:Int)),some (.ref D),some (.int (i:Int)),some (.int (r:Int)),some v,some (.int w)] H1:=by
    intro H7 I7
    refine C4 (by simp) fun q8 H8 hq8 e8 s8=>?_
    exact hnx _ _ ⟨q8,[],rfl,I7.next (I7.bag.same s8) (A0.of_same s8),⟨e8,(d5 I7.hD hq8).symm,(I7.bag.nb hq8).1,by simp,fun t ht=>by simp at ht⟩,fun _=>rfl⟩
   ext
   refine a1n (fun a1=>?_) (fun a1=>?_)
   ·exists F4 rfl ?_
    exact none _ I6
   ·rw[b0p]at a1
    have a1:¬((i:Int)=(m:Int) - 1):=fun z=>a1 (c8U z)
    ext
    refine a1n (fun a6=>?_) (fun a6=>?_)
    ·ext
     exists M3 I6.bag (by decide) (by decide) fun z H7 z0 z1 B7 k7=>?_
     refine a1n (fun a0=>?_) (fun a0=>?_)
     ·ext
      exact none _ (I6.next B7 k7)
     ·ext
      exact hnx _ _ ⟨q,l,rfl,I6.next B7 k7,S6.next k7,fun z=>by omega⟩
    ·exists y0 rfl ?_
     exact hnx _ _ ⟨q,l,rfl,I6,S6,fun z=>by omega⟩
  clear S6 I6 l
  rintro _ H6 ⟨q,l,rfl,I6,S6,hlast⟩
  ext
  specialize a7x ?_
  exists ⟨Z1 I6.hD,?_⟩
  refine a1m I6.hD (G9 (by rw[a9,I6.len];omega)) ?_
  have nqc:D≠c:=I6.nc
  refine⟨_,_,_,_,as++[q],N++[l],rfl,⟨I6.bag.put I6.nb nqc,I6.kept.put hD,by rw[c9];simp,I6.nb,I6.nc,by simp[I6.len],?_,?_⟩,by simp[hlen],?_⟩
  ·intro i' x' l' e1' e2'
   rcases Q0 e1' with ⟨hi1,f1⟩ | ⟨hi1,f1⟩
   ·rcases Q0 e2' with ⟨hi2,f2⟩ | ⟨hi2,f2⟩
    ·obtain⟨g1,g2,g3⟩:=I6.at_ i' x' l' f1 f2
     exact⟨by rw[g6 g2];exact g1,g2,g3⟩
    ·have:=I6.len;omega
   ·rcases Q0 e2' with ⟨hi2,f2⟩ | ⟨hi2,f2⟩
    ·have:=I6.len;omega
    ·subst f1 f2
     exact⟨by rw[g6 S6.nD];exact S6.h,S6.nD,S6.nb⟩
  ·intro l' hl'
   rcases h9.mp hl' with z | z
   ·exact I6.small l' z
   ·rw[c7.mp z];exact⟨S6.len,S6.lt⟩
  ·intro z
   rw[hlast z]
   have:m - 1=N.length:=by omega
   rw[this];simp
 ·rintro _ H2 ⟨x3,x4,x5,x6,as,N,rfl,I2,hlen,hlast⟩
  ext
  exact k D N H2 ⟨as,I2.hD,I2.len,fun i x l e1 e2=>(I2.at_ i x l e1 e2).1⟩ hlen I2.small (hlast rfl) I2.bag I2.kept
def MC:List Str:=["a","b1","set","k0","ask","k1","total","x2y3z4w5","k2","take"]
def TxM(H:Hp)(p:Addr):Prop:=∃xs:List V,H p=some (.tup xs)/\∀(j:Nat) s,xs[j+1]? = some (.str s)->s∈MC
theorem TxM.ts(h:TxM H p)(t:G7 H H'):TxM H' p:=let⟨xs,h1,h2⟩:=h; ⟨xs,t _ _ h1,h2⟩
def RwM(H:Hp)(v:V):Prop:=∃(p:Addr) (xs:List V),v=.ref p/\H p=some (.tup xs)/\(∀(j:Nat) s,xs[j+1]? = some (.str s)->s∈MC)/\∀q,V.ref q∈xs->TxM H q
theorem RwM.ts(h:RwM H v)(t:G7 H H'):RwM H' v:=let⟨p,xs,h0,h1,h2,h3⟩:=h; ⟨p,xs,h0,t _ _ h1,h2,fun q hq=>(h3 q hq).ts t⟩
def NmM(H:Hp)(a:Addr):Prop:=∃ss:List Str,H a=some (.lst (ss.map V.str))/\∀s∈ss,s∈MC
theorem NmM.at(h:NmM H a)(e:H a=some (.lst (ss.map V.str))):∀s∈ss,s∈MC:=by
 obtain⟨ss',h1,h2⟩:=h
 rw[e]at h1
 have:ss=ss':=T9 (f:=V.str) (fun a b h=>V.str.inj h) |>.mp (HO.lst.inj (Option.some.inj h1))
 rw[this]
 exact h2
theorem NmM.kept(h:NmM H a)(n:a≠b)(k:A0 b H H'):NmM H' a:=let⟨ss,h1,h2⟩:=h; ⟨ss,k.1 _ _ h1 n,h2⟩
def SoM(v:V):Prop:=∀s,v=.str s->s∈MC
theorem b9N:∀s∈(["a","b1","set","k0","ask","k1","total","x2y3z4w5","k2","take"]:List Str),NmS s:=by
 have:∀s∈(["a","b1","set","k0","ask","k1","total","x2y3z4w5","k2","take"]:List Str),a4j s=true/\s.length<=8:=by decide +kernel
 exact this
theorem b5z{K:Fg}{E:XK}(hB:Bag H b c)(k:∀a H',a5K H' a->NmM H' a->Bag H' b c->A0 b H H'->H a=none->Q (.ref a) H'):a6e K [.ref b] H Q E:=by
 refine⟨rfl,?_⟩
 unfold b8w
 nofun
 refine C4 (by decide) fun p3 H0 h3 e3 s3=>?_
 have B0:=hB.same s3
 obtain⟨M,hM⟩:∃M:List Str,M=(["a","b1","set","k0","ask","k1","total","x2y3z4w5","k2","take"]:List Str):=⟨_,rfl⟩
 have hm:H0 p3=some (.lst (M.map V.str)):=by rw[e3,hM];rfl
 have nM:∀s∈M,NmS s:=by rw[hM];exact b9N
 have lM:M.length=10:=by rw[hM];rfl
 have mM:∀s∈M,s∈MC:=by rw[hM];exact fun _ h=>h
 clear hM e3
 ext
 have pb:p3≠b:=(hB.nb h3).1
 nofun
 exists M3 B0 (by decide) (by decide) fun f H1 f0 f1 B1 k1=>?_
 specialize W0 (a1s ?_)
 exists M3 B1 (by decide) (by decide) fun m H2 m0 m1 B2 k2=>?_
 obtain⟨m,rfl⟩:=L4 m0
 refine⟨2+m,rfl,by omega,by omega,fun D hD=>?_⟩
 have hm2:H2 p3=some (.lst (M.map V.str)):=k2.1 _ _ (k1.1 _ _ hm pb) pb
 have sD:o6 H2 (upd H2 D (.lst [])):=t8 hD
 refine a4q (fun i ys H3=>∃ss:List Str,ys=ss.map V.str/\ss.length=i/\(∀s∈ss,NmS s/\s∈MC)/\H3 D=some (.lst ys)/\o6 H2 H3) ?_ ?_ ?_ ?_
 ·exact⟨[],rfl,rfl,by simp,c9,sD⟩
 ·rintro i ys H3 ⟨_,_,_,_,h,_⟩
  exact h
 ·rintro i ys H3 hi ⟨ss,rfl,ls,hss,hD3,s3'⟩ R hR
  rw[X9]
  ext
  exists a1Y (.inl (by omega)) ?_
  refine a1Y (by decide) ?_
  obtain⟨v,hv,hv2⟩:=a4s (xs:=M.map V.str) (i:=(f+3 * (i:Int)) % 10) (V6 _ (by decide)) (by
   rw[a9,lM]
   exact U6 _ (by decide))
  obtain⟨s,hsM,rfl⟩:=q9.mp (mI hv2)
  refine O6 (s3' _ _ hm2) hv ?_
  refine hR _ _ hD3 (G9 (by rw[a9];omega)) ⟨ss++[s],by simp,by simp[ls],(fun z hz=>by
   rcases h9.mp hz with hz | hz
   ·exact hss z hz
   ·rw[c7.mp hz];exact⟨nM s hsM,mM s hsM⟩),c9,fun b o e=>?_⟩
  rw[g6 (d5 e hD)];exact s3' _ _ e
 ·rintro ys H3 ⟨ss,rfl,ls,hss,hD3,s3'⟩
  refine k D H3 ⟨ss,hD3,by intro z;subst z;simp at ls;omega,by omega,fun s hs=>(hss s hs).1⟩ ⟨ss,hD3,fun s hs=>(hss s hs).2⟩ (B2.same s3') (((A0.of_same s3).trans (k1.trans k2)).trans (A0.of_same s3')) ?_
  exact(A0.of_same (b:=b) s3).none (k1.none (k2.none hD))
theorem a2b{K:Fg}{E:XK}(hB:Bag H b c)(hN:a5K H a)(hM:NmM H a)(k:∀v H',OpN v->SoM v->Bag H' b c->A0 b H H'->Q v H'):Y5 K [.ref b,.ref a] H Q E:=by
 refine⟨rfl,?_⟩
 unfold a9Y
 nofun
 exists M3 hB (by decide) (by decide) fun n1 H1 a0 a1 B1 k1=>?_
 refine a1n (fun _=>?_) (fun _=>?_)
 ·nofun
  exists M3 B1 (by decide) (by decide) fun n2 H2 b0 b1 B2 k2=>?_
  exists C4 (by simp) fun p G hp e s=>?_
  refine M3 (B2.same s) (by decide) (by decide) fun n3 H3 c0 c1 B3 k3=>?_
  have hp3:=k3.1 p _ e (B2.nb hp).1
  have kk:A0 b H H3:=(k1.trans k2).trans ((A0.of_same s).trans k3)
  obtain⟨v,hv,hv2⟩:=a4s (xs:=([.int 0,.int 1,.int 999999999999,.int n2]:List V)) c0 (by simpa using c1)
  refine O6 hp3 hv ?_
  have:∃n,v=.int n/\0<=n/\n<1000000000000:=by
   have m:=mI hv2
   simp only[d8,j7,or_false]at m
   rcases m with rfl | rfl | rfl | rfl
   ·exact⟨0,rfl,by decide,by decide⟩
   ·exact⟨1,rfl,by decide,by decide⟩
   ·exact⟨_,rfl,by decide,by decide⟩
   ·exact⟨_,rfl,by omega,by omega⟩
  obtain⟨n,rfl,q0,q1⟩:=this
  exact k _ _ (.inr ⟨n,rfl,q0,q1⟩) (fun _ z=>nomatch z) B3 kk
 ·ext
  obtain⟨N1,ne⟩:=hN.kept hB k1
  obtain⟨ss,h1,h2,h3,h4⟩:=N1.ex
  exists Q1 h1 ?_
  have hl:0<ss.length:=c0z.mpr h2
  refine M3 B1 (by rw[a9];omega) (by rw[a9];omega) fun n2 H2 b0 b1 B2 k2=>?_
  obtain⟨v,hv,hv2⟩:=a4s (xs:=ss.map V.str) b0 b1
  obtain⟨s,hs,rfl⟩:=q9.mp (mI hv2)
  exact O6 (k2.1 _ _ h1 ne) hv (k _ _ (.inl ⟨s,rfl,h4 s hs⟩) (fun _ z=>by cases z;exact(hM.kept ne k1).at h1 s hs) B2 (k1.trans k2))
theorem c2w{K:Fg}{E:XK}(hB:Bag H b c)(hN:a5K H a)(hM:NmM H a)(k:∀p H',a6z H' p->TxM H' p->H p=none->Bag H' b c->A0 b H H'->Q (.ref p) H'):a7G K [.ref b,.ref a] H Q E:=by
 refine⟨rfl,?_⟩
 unfold b8B
 nofun
 exists C4 (by decide) fun p G hp e s=>?_
 refine M3 (hB.same s) (by decide) (by decide) fun n1 H1 a0 a1 B1 k1=>?_
 have hp1:=k1.1 p _ e (hB.nb hp).1
 have k01:A0 b H H1:=(A0.of_same s).trans k1
 obtain⟨v,hv,hv2⟩:=a4s (xs:=([.str "plus",.str "minus",.str "times",.str "less",.str "same"]:List V)) a0 (by simpa using a1)
 refine O6 hp1 hv ?_
 have:∃kd:Str,v=.str kd/\kd∈(["plus","minus","times","less","same"]:List Str):=by
  have m:=mI hv2
  simp only[d8,j7,or_false]at m
  rcases m with rfl | rfl | rfl | rfl | rfl <;> exact⟨_,rfl,by simp⟩
 obtain⟨kd,rfl,hkd⟩:=this
 ext
 obtain⟨N1,na1⟩:=hN.kept hB k01
 have M1:=hM.kept na1 k01
 exists a2b B1 N1 M1 fun v1 H2 o1 so1 B2 k2=>?_
 obtain⟨N2,_⟩:=N1.kept B1 k2
 exists a2b B2 N2 (M1.kept na1 k2) fun v2 H3 o2 so2 B3 k3=>?_
 refine C4 (by simp) fun q G hq e s=>?_
 exact k q _ ⟨kd,v1,v2,e,o1,o2,hkd⟩ ⟨_,e,fun j s hj=>by
  match j with
  | 0=>exact so1 s (Option.some.inj hj)
  | 1=>exact so2 s (Option.some.inj hj)
  | j+2=>cases hj⟩ (k01.none (k2.none (k3.none hq))) (B3.same s) (((k01.trans k2).trans k3).trans (A0.of_same s))
theorem OpN.nr(h:OpN v):∀q,v≠.ref q:=by
 rcases h with ⟨_,rfl,_⟩ | ⟨_,rfl,_⟩ <;> (intro _ z;cases z)
theorem rw2{q:Addr}{t:Str}(e:H q=some (.tup [.str t,v]))(h:SoM v)(n:∀q,v≠.ref q):RwM H (.ref q):=by
 refine⟨q,_,rfl,e,fun j s hj=>?_,fun q' hq'=>?_⟩
 ·match j with
  | 0=>exact h s (Option.some.inj hj)
  | j+1=>cases hj
 ·simp only[d8,j7,or_false]at hq'
  rcases hq' with z | z
  ·cases z
  ·exact absurd z.symm (n q')
theorem rw3{q:Addr}{t u:Str}(e:H q=some (.tup [.str t,.str u,v]))(hu:SoM (.str u))(h:SoM v)(n:∀q,v≠.ref q):RwM H (.ref q):=by
 refine⟨q,_,rfl,e,fun j s hj=>?_,fun q' hq'=>?_⟩
 ·match j with
  | 0=>exact hu s (Option.some.inj hj)
  | 1=>exact h s (Option.some.inj hj)
  | j+2=>cases hj
 ·simp only[d8,j7,or_false]at hq'
  rcases hq' with z | z | z
  ·cases z
  ·cases z
  ·exact absurd z.symm (n q')
theorem rwS{q:Addr}{t u:Str}(e:H q=some (.tup [.str t,.str u,.ref d]))(hu:SoM (.str u))(h:TxM H d):RwM H (.ref q):=by
 refine⟨q,_,rfl,e,fun j s hj=>?_,fun q' hq'=>?_⟩
 ·match j with
  | 0=>exact hu s (Option.some.inj hj)
  | 1=>cases hj
  | j+2=>cases hj
 ·simp only[d8,j7,or_false]at hq'
  rcases hq' with z | z | z
  ·cases z
  ·cases z
  ·cases z
   exact h
theorem c3X{K:Fg}{m:Bool}{E:XK}(hB:Bag H b c)(hN:a5K H a)(hM:NmM H a)(hP:b3y H p)(hT:∀ps:List Addr,H p=some (.lst (ps.map V.ref))->∀q∈ps,TxM H q)(k:∀v H',a7C H' v m->RwM H' v->Bag H' b c->A0 b H H'->Q v H'):b0M K [.ref b,.ref a,.ref p,.bl m] H Q E:=by
 refine⟨rfl,?_⟩
 unfold c2Y
 nofun
 cases m with
 | true=>
  exists F4 rfl ?_
  exists a2b hB hN hM fun v H1 o1 so1 B1 k1=>?_
  refine C4 (by simp) fun q G hq e s=>?_
  exact k _ _ ⟨q,_,rfl,e,.ask v o1,_,_,rfl,by decide⟩ (rw2 e so1 (o1.nr)) (B1.same s) (k1.trans (A0.of_same s))
 | false=>
 exists y0 rfl ?_
 nofun
 exists M3 hB (by decide) (by decide) fun w H1 w0 w1 B1 k1=>?_
 nofun
 obtain⟨N1,na⟩:=hN.kept hB k1
 have P1:=hP.kept hB k1
 have M1:=hM.kept na k1
 obtain⟨ss,s1,s2,s3,s4⟩:=N1.ex
 exists Q1 s1 ?_
 refine a7L B1 s1 na (by simpa using s2) (by rw[a9];omega) fun n v H2 e1 e2 a2 B2 k2=>?_
 refine O6 a2 e1 ?_
 obtain⟨s,hs,rfl⟩:=q9.mp e2
 have ns:=s4 s hs
 have ms:SoM (.str s):=fun _ z=>by cases z;exact M1.at s1 s hs
 have M2:=M1.kept na k2
 ext
 obtain⟨N2,_⟩:=N1.kept B1 k2
 have P2:=P1.kept B1 k2
 have k02:=k1.trans k2
 nofun
 refine a1n (fun _=>?_) (fun _=>?_)
 ·obtain⟨ps,p1,p2,p3,p4⟩:=P2.ex
  ext
  exists Q1 p1 ?_
  refine a7L B2 p1 (a0k B2 p1) (by simpa using p2) (by rw[a9];omega) fun n v H3 f1 f2 a3 B3 k3=>?_
  refine O6 a3 f1 ?_
  obtain⟨d,hd,rfl⟩:=q9.mp f2
  have hd3:=(p4 d hd).ts (A0.ts k3 B2)
  have hm3:TxM H3 d:=by
   obtain⟨ps0,z1,_⟩:=hP.ex
   have z2:=k2.1 _ _ (k1.1 _ _ z1 (a0k hB z1)) (a0k hB z1)
   rw[p1]at z2
   have:ps=ps0:=T9 (f:=V.ref) (fun a b h=>V.ref.inj h) |>.mp (HO.lst.inj (Option.some.inj z2))
   exact((((hT ps0 z1 d (this ▸ hd)).ts (A0.ts k1 hB)).ts (A0.ts k2 B1)).ts (A0.ts k3 B2))
  ext
  refine C4 (by simp) fun q G hq e s=>?_
  exact k _ _ ⟨q,_,rfl,e,.set _ d ns (hd3.ts (o6.ts s)),_,_,rfl,by decide⟩ (rwS e ms (hm3.ts (o6.ts s))) (B3.same s) ((k02.trans k3).trans (A0.of_same s))
 ext
 nofun
 refine a1n (fun _=>?_) (fun _=>?_)
 ·ext
  exists a2b B2 N2 M2 fun v H3 o1 so1 B3 k3=>?_
  refine C4 (by simp) fun q G hq e s=>?_
  exact k _ _ ⟨q,_,rfl,e,.copy _ v ns o1,_,_,rfl,by decide⟩ (rw3 e ms so1 o1.nr) (B3.same s) ((k02.trans k3).trans (A0.of_same s))
 ext
 nofun
 refine a1n (fun _=>?_) (fun _=>?_)
 ·ext
  exists C4 (by simp) fun q1 G1 hq1 e1 s1=>?_
  obtain⟨N3,_⟩:=N2.kept B2 (A0.of_same s1)
  exists a2b (B2.same s1) N3 (M2.kept na (A0.of_same s1)) fun v H3 o1 so1 B3 k3=>?_
  exists C4 (by simp) fun q2 G2 hq2 e2 s2=>?_
  exists C4 (by simp) fun q3 G3 hq3 e3 s3=>?_
  have sB:=B3.same s2
  refine M3 (sB.same s3) (by decide) (by decide) fun j H4 j0 j1 B4 k4=>?_
  obtain⟨x,hx,hx2⟩:=a4s (xs:=[V.ref q1,V.ref q2]) j0 (by simpa using j1)
  refine O6 (k4.1 _ _ e3 (sB.nb hq3).1) hx ?_
  have kk:A0 b H H4:=(k02.trans ((A0.of_same s1).trans k3)).trans ((A0.of_same (s2.trans s3)).trans k4)
  have f1:H4 q1=_:=k4.1 _ _ (s3 _ _ (s2 _ _ (k3.1 _ _ e1 (B2.nb hq1).1))) (B2.nb hq1).1
  have f2:H4 q2=_:=k4.1 _ _ (s3 _ _ e2) (B3.nb hq2).1
  have m:=mI hx2
  simp only[d8,j7,or_false]at m
  rcases m with rfl | rfl
  ·exact k _ _ ⟨q1,_,rfl,f1,.take _ ns,_,_,rfl,by decide⟩ (rw2 f1 ms (by intro _ z;cases z)) B4 kk
  ·exact k _ _ ⟨q2,_,rfl,f2,.tell v o1,_,_,rfl,by decide⟩ (rw2 f2 so1 o1.nr) B4 kk
 ext
 refine C4 (by simp) fun q G hq e s=>?_
 exact k _ _ ⟨q,_,rfl,e,.skip,_,_,rfl,by decide⟩ ⟨q,_,rfl,e,fun j s hj=>(by cases hj),fun q' hq'=>(by simp at hq')⟩ (B2.same s) (k02.trans (A0.of_same s))
theorem c6Z(xs:List V):a4N xs (some 1) none=xs.drop 1:=by
 cases xs with
 | nil=>rfl
 | cons a r=>rw[c2y];rfl
theorem c2J(l:List Nat)(n:Nat):(IL l).drop n=IL (l.drop n):=by unfold IL;rw[List.map_drop]
theorem b4U(xs:List V):Q3 xs []=decide (xs.length=0):=by
 unfold Q3
 rw[show min xs.length ([]:List V).length=0 by simp]
 simp only[List.range_zero,c7n,c7d,a4U]
 by_cases h:xs.length=0
 ·rw[h];rfl
 ·rw[c8T h]
  simpa using h
theorem c5B{l G:List Nat}(h:(l.map fun t=>decide (t∈G)).any id=true):∃t∈l,t∈G:=by
 obtain⟨x,hx,e⟩:=T1.mp h
 obtain⟨t,ht,rfl⟩:=q9.mp hx
 exact⟨t,ht,of_decide_eq_true e⟩
theorem b5K{α:Type}(l:List Nat)(f:Nat->α)(i:Nat){t:Nat}(e:l[i]? = some t):(l.take (i+1)).map f=(l.take i).map f++[f t]:=by
 rw[G5,e];simp
structure a3I(H0 H:Hp)(d:Addr)(N:Nt)(G:List Nat):Prop where
 same:o6 H0 H
 hd:H d=some (.dK (KS G))
 nd:G.Nodup
 lt:∀k∈G,k<N.length
 gd:∀k∈G,Gd N k
theorem a3I.next{G:List Nat}(h:a3I H0 H d N G)(s:o6 H H'):a3I H0 H' d N G:=⟨h.same.trans s,s _ _ h.hd,h.nd,h.lt,h.gd⟩
theorem a3I.put{G:List Nat}(h:a3I H0 H d N G)(n:H0 d=none){k:Nat}(hk:k<N.length)(g:Gd N k):a3I H0 (upd H d (.dK (KS (a4f G k)))) d N (a4f G k):=
 ⟨fun b o e=>by rw[g6 (d5 e n)];exact h.same b o e,c9,a7M h.nd,fun j hj=>(Y8.mp hj).elim (h.lt j) fun z=>z ▸ hk,fun j hj=>(Y8.mp hj).elim (h.gd j) fun z=>z ▸ g⟩
theorem c2r{K:Fg}{l:List Nat}{x2 x4 x5 x6:Option V}{G:List Nat}(n0:H0 d=none)(hn:D8 H a N)(hN:N.length<=24)(hl:N[i]? = some l)(hl2:l.length<=2)(hG:a3I H0 H d N G)
  (k:∀H' G',a3I H0 H' d N G'->(∀j∈G,j∈G')->(l=[]->i∈G')->D8 H' a N->D.nx [some (.ref a),some (.ref d),x2,some (.int (i:Int)),x4,x5,x6] H') :
  O0 (tOr (C8 (tOp qEq (tOp qIx (c4 0) (c4 3)) (X0 (g0)))) (tB (tCB b4t (b4 (V1 (R7 K (tOp qIx (c4 0) (c4 3))) (V0) (a9A (c4 0) (c4 2))) (g0))))) (a4c (c4 1) (c4 3) (tC (.bl true))) (E2) D
   [some (.ref a),some (.ref d),x2,some (.int (i:Int)),x4,x5,x6] H:=by
 have hi:i<N.length:=(gI hl)
 have hGl:G.length<100000:=by
  have:=a8N _ _ hG.nd hG.lt
  omega
 have put:∀H1,D8 H1 a N->a3I H0 H1 d N G->a≠d->(∀x,H1 x=some (.dK (KS G))->True)->Gd N i->a4c (c4 1) (c4 3) (tC (.bl true)) D [some (.ref a),some (.ref d),x2,some (.int (i:Int)),x4,x5,x6] H1:=by
  intro H1 n1 g1 nad _ gd
  specialize a8z ?_
  refine⟨d,_,rfl,b1w g1.hd hGl i,?_⟩
  refine k _ (a4f G i) (g1.put n0 hi gd) (fun j hj=>Y8.mpr (.inl hj)) (fun _=>Y8.mpr (.inr rfl)) ?_
  obtain⟨as,q1,q2,q3⟩:=n1.ex
  refine⟨as,by rw[g6 nad];exact q1,q2,fun j x l' e1 e2=>?_⟩
  have q:=q3 j x l' e1 e2
  rw[g6 (L1 q g1.hd (by intro z;cases z))]
  exact q
 obtain⟨xs,x,h1,h2,h3,_⟩:=hn.at hl
 have nad:a≠d:=L1 h1 hG.hd (by intro z;cases z)
 ext
 exists O6 h1 h2 ?_
 refine C4 (by simp) fun p H1 hp e1 s1=>?_
 refine⟨_,c2u (s1 _ _ h3) e1 (c2I l) rfl,?_⟩
 rw[b4U,U9]
 ext
 by_cases hz:l=[]
 ·refine F4 (c8U (by rw[hz];rfl)) ?_
  refine F4 rfl ?_
  exact put H1 (hn.same s1) (hG.next s1) nad (fun _ _=>trivial) (.stop (hz ▸ hl))
 exists y0 (c8T fun z=>hz (a3R.mp z)) ?_
 specialize W0 (O7 ?_)
 refine O6 (s1 _ _ h1) h2 ?_
 refine⟨x,rfl,⟨_,SqL.of (s1 _ _ h3)⟩,fun E hE=>?_⟩
 have G1:=hG.next s1
 refine W3 (xs:=IL l) (fun j ys H2=>ys=(l.take j).map (fun t=>V.bl (decide (t∈G)))/\H2 E=some (.lst ys)/\o6 H1 H2) ⟨by simp,c9,t8 hE⟩ ?_ ?_ ?_ ?_
 ·rintro j ys H2 ⟨_,h,_⟩
  exact h
 ·rintro j ys H2 _ ⟨_,_,s2⟩
  exact SqL.of (s2 _ _ (s1 _ _ h3))
 ·rintro j y ys H2 hy ⟨rfl,hE2,s2⟩ R hR
  have hy:(l.map fun(n:Nat)=>V.int (n:Int))[j]? = some y:=hy
  rw[b7]at hy
  cases ht:l[j]? with
  | none=>rw[ht]at hy;cases hy
  | some t=>
   rw[ht]at hy
   cases hy
   have hj:=(gI ht)
   specialize b5s ?_
   obtain⟨o,g1,g2⟩:=a4J (s2 _ _ G1.hd) t
   refine⟨d,o,rfl,g1,?_⟩
   rw[g2]
   refine hR _ _ hE2 (G9 ?_) ⟨?_,c9,fun b o e=>?_⟩
   ·rw[a9,C9]
    omega
   ·rw[b5K l _ j ht]
   ·rw[g6 (d5 e hE)];exact s2 b o e
 ·rintro ys H2 ⟨rfl,hE2,s2⟩
  rw[U9,F5]at hE2
  have he:l.map (fun t=>V.bl (decide (t∈G)))=(l.map fun t=>decide (t∈G)).map V.bl:=by rw[S9];rfl
  rw[he]at hE2
  ext
  exists c6x hE2 ?_
  refine a1n (fun c=>?_) (fun c=>?_)
  ·obtain⟨t,t1,t2⟩:=c5B c
   exact put H2 ((hn.same s1).same s2) (G1.next s2) nad (fun _ _=>trivial) (.step hl t1 (hG.gd t t2))
  ·ext
   exact k H2 G (G1.next s2) (fun j hj=>hj) (fun z=>(hz z).elim) ((hn.same s1).same s2)
structure b1J(H0 H:Hp)(d:Addr)(N:Nt)(S:List Nat):Prop where
 same:o6 H0 H
 hd:H d=some (.dK (KS S))
 nd:S.Nodup
 lt:∀k∈S,k<N.length
 rc:∀k∈S,Rc N k
 zero:0∈S
theorem b1J.put{S:List Nat}(h:b1J H0 H d N S)(n:H0 d=none){k:Nat}(hk:k<N.length)(g:Rc N k):b1J H0 (upd H d (.dK (KS (a4f S k)))) d N (a4f S k):=
 ⟨fun b o e=>by rw[g6 (d5 e n)];exact h.same b o e,c9,a7M h.nd,fun j hj=>(Y8.mp hj).elim (h.lt j) fun z=>z ▸ hk,fun j hj=>(Y8.mp hj).elim (h.rc j) fun z=>z ▸ g,Y8.mpr (.inl h.zero)⟩
def a5L(N:Nt)(S:List Nat):Prop:=∀k∈S,∀l,N[k]? = some l->∀t∈l,t∈S
theorem c1n{S:List Nat}{k:Nat}(h:k∈S):a4f S k=S:=by unfold a4f;rw[if_pos h]
theorem D8.dput{ks:List (Key×V)}(h:D8 H a N)(hd:H d=some (.dK ks)):D8 (upd H d o) a N:=by
 obtain⟨as,q1,q2,q3⟩:=h.ex
 exact⟨as,by rw[g6 (L1 q1 hd (by intro z;cases z))];exact q1,q2,fun j x l e1 e2=>by
  have q:=q3 j x l e1 e2
  rw[g6 (L1 q hd (by intro z;cases z))];exact q⟩
theorem b8X{K:Fg}{l:List Nat}{x1 x2 x5 x6:Option V}{S:List Nat}(n0:H0 d=none)(hn:D8 H a N)(hN:N.length<=24)(hl:N[i]? = some l)(hlt:∀t∈l,t<N.length)(hS:b1J H0 H d N S)
  (k:∀H' S' x5,b1J H0 H' d N S'->(∀j∈S,j∈S')->(i∈S->∀t∈l,t∈S')->(a5L N S->S'=S)->D8 H' a N->D.nx [some (.ref a),x1,x2,some (.int (i:Int)),some (.ref d),x5,x6] H') :
  O0 (tB (a9A (c4 3) (c4 4))) (a1k (R7 K (tOp qIx (c4 0) (c4 3))) (o5 5) (a4c (c4 4) (c4 5) (tC (.bl true)))) (E2) D [some (.ref a),x1,x2,some (.int (i:Int)),some (.ref d),x5,x6] H:=by
 ext
 specialize b5s ?_
 obtain⟨o,g1,g2⟩:=a4J hS.hd i
 refine⟨d,o,rfl,g1,?_⟩
 rw[g2]
 ext
 refine a1n (fun c=>?_) (fun c=>?_)
 ·have hi:i∈S:=of_decide_eq_true c
  obtain⟨xs,x,h1,h2,h3,_⟩:=hn.at hl
  specialize Z9 (O7 ?_)
  refine O6 h1 h2 ?_
  refine⟨x,rfl,⟨_,SqL.of h3⟩,Y9 (xs:=IL l) (fun j σ H2=>∃S' x5,σ=[some (.ref a),x1,x2,some (.int (i:Int)),some (.ref d),x5,x6]/\b1J H0 H2 d N S'/\(∀j∈S,j∈S')/\(∀t∈l.take j,t∈S')/\(a5L N S->S'=S)/\D8 H2 a N/\H2 x=some (.lst (IL l))) ?_ ?_ ?_ ?_⟩
  ·exact⟨S,x5,rfl,hS,fun _ h=>h,by simp,fun _=>rfl,hn,h3⟩
  ·rintro j σ H2 _ ⟨_,_,_,_,_,_,_,_,h⟩
   exact SqL.of h
  ·rintro j y _ H2 hy ⟨S',x5,rfl,I2,i1,i2,i3,n2,hx2⟩
   have hy:(l.map fun(n:Nat)=>V.int (n:Int))[j]? = some y:=hy
   rw[b7]at hy
   cases ht:l[j]? with
   | none=>rw[ht]at hy;cases hy
   | some t=>
    rw[ht]at hy
    cases hy
    have tm:=mI ht
    ext
    specialize a8z ?_
    refine⟨d,_,rfl,b1w I2.hd (by have:=a8N _ _ I2.nd I2.lt;omega) t,?_⟩
    refine⟨a4f S' t,_,rfl,I2.put n0 (hlt t tm) (.step (hS.rc i hi) hl tm),fun j hj=>Y8.mpr (.inl (i1 j hj)),fun z hz=>?_,fun hc=>?_,n2.dput I2.hd,?_⟩
    ·rw[G5,ht]at hz
     rcases h9.mp hz with q | q
     ·exact Y8.mpr (.inl (i2 z q))
     ·exact Y8.mpr (.inr (by simpa using q))
    ·rw[i3 hc]
     exact c1n (hc i hi l hl t tm)
    ·rw[g6 (L1 hx2 I2.hd (by intro z;cases z))];exact hx2
  ·rintro _ H2 ⟨S',x5,rfl,I2,i1,i2,i3,n2,hx2⟩
   refine k H2 S' x5 I2 i1 (fun _ t ht=>i2 t ?_) i3 n2
   rw[U9,F5];exact ht
 ·ext
  exact k H S x5 hS (fun _ h=>h) (fun h=>(c (c8U h)).elim) (fun _=>rfl) hn
theorem b2Q{ms:List Int}{S:List Nat}(h:ms.Perm (S.map fun(n:Nat)=>(n:Int))):∃O:List Nat,O.Perm S/\ms=O.map fun(n:Nat)=>(n:Int):=by
 refine⟨ms.map b5Z,?_,?_⟩
 ·have:=h.map b5Z
  rw[S9]at this
  have e:(b5Z ∘ fun(n:Nat)=>(n:Int))=id:=by funext n;simp
  rw[e,b7S]at this
  exact this
 ·rw[S9]
  have:∀x∈ms,((fun(n:Nat)=>(n:Int)) ∘ b5Z) x=id x:=by
   intro x hx
   obtain⟨n,_,rfl⟩:=q9.mp (h.subset hx)
   simp
  rw[a6D this,b7S]
theorem b3Z{O:List Nat}(h:(O.map fun(n:Nat)=>(n:Int)).Pairwise (· <= ·)):O.Pairwise (· <= ·):=by
 rw[List.pairwise_map]at h
 exact h.imp fun q=>by omega
theorem b9Y(O:List Nat)(t:Nat):(O.map fun(n:Nat)=>(n:Int)).idxOf (t:Int)=O.idxOf t:=by
 induction O with
 | nil=>rfl
 | cons a r ih=>
  rw[F6,c5L,c5L]
  by_cases e:a=t
  ·subst e;simp
  ·have:((a:Int) == (t:Int))=false:=by simp;omega
   have e2:(a == t)=false:=by simpa using e
   rw[this,e2,ih]
theorem N4(h:i<N.length):N[i]? = some N[i]:=by simp
theorem b6Z{K:Fg}{E:XK}(hn:D8 H a N)(hp:0<N.length)(hN:N.length<=24)(hs:∀l∈N,l.length<=2/\∀t∈l,t<N.length)(hl:N[N.length - 1]? = some [])
  (k:∀a' N' H',D8 H' a' N'->a2Z N'->N'.length<=24->o6 H H'->Q (.ref a') H'):a4B K [.ref a] H Q E:=by
 refine⟨rfl,?_⟩
 unfold b2i
 nofun
 exists b4k fun d H1 hd e1 s1=>?_
 have n1:=hn.same s1
 obtain⟨xs0,hx0,lx0⟩:=hn.len
 exact_mod_cast a1V (P:=fun σ H2=>∃x2 x3 G,σ=[some (.ref a),some (.ref d),x2,x3,none,none,none]/\a3I H H2 d N G/\N.length - 1∈G/\D8 H2 a N) ?_ ?_
 rotate_left
 ·intro nx hnx
  specialize Z9 (a1s ?_)
  refine Q1 (s1 _ _ hx0) ?_
  refine⟨N.length,by rw[lx0],by omega,by omega,?_⟩
  rw[i9]
  refine a0V (fun i σ H2=>∃x2 x3 G,σ=[some (.ref a),some (.ref d),x2,x3,none,none,none]/\a3I H H2 d N G/\(0<i->N.length - 1∈G)/\D8 H2 a N) ?_ ?_ ?_
  ·exact⟨_,_,[],rfl,⟨s1,e1,by simp,by simp,by simp⟩,by omega,n1⟩
  ·rintro i _ H2 hi ⟨x2,x3,G,rfl,I2,g2,n2⟩
   ext
   obtain⟨xs2,hx2,lx2⟩:=n2.len
   specialize Z9 (a1s ?_)
   refine Q1 hx2 ?_
   refine⟨N.length,by rw[lx2],by omega,by omega,?_⟩
   rw[i9]
   refine a0V (fun j σ H3=>∃x3 G,σ=[some (.ref a),some (.ref d),some (.int (0+(i:Int))),x3,none,none,none]/\a3I H H3 d N G/\(j=N.length->N.length - 1∈G)/\D8 H3 a N) ?_ ?_ ?_
   ·exact⟨_,G,rfl,I2,by omega,n2⟩
   ·rintro j _ H3 hj ⟨x3,G3,rfl,I3,g3,n3⟩
    exact_mod_cast b0Y ?_
    rw[X9 (j:Int)]
    refine c2r hd n3 hN (N4 hj) (hs _ (y9 _)).1 I3 fun H4 G4 I4 sub4 h4 n4=>?_
    refine⟨_,G4,rfl,I4,fun z=>?_,n4⟩
    have e:N.length - 1=j:=by omega
    rw[e]at hl ⊢
    refine h4 ?_
    rw[N4 hj]at hl
    exact Option.some.inj hl
   ·rintro _ H3 ⟨x3,G3,rfl,I3,g3,n3⟩
    exact⟨_,_,G3,rfl,I3,fun _=>g3 rfl,n3⟩
  ·rintro _ H2 ⟨x2,x3,G,rfl,I2,g2,n2⟩
   exact hnx _ _ ⟨x2,x3,G,rfl,I2,g2 hp,n2⟩
 rintro _ H2 ⟨x2,x3,G,rfl,I2,hlast,n2⟩
 nofun
 exact_mod_cast W0 (a1s ?_)
 obtain⟨xs2,hx2,lx2⟩:=n2.len
 ext
 refine Q1 hx2 ?_
 refine⟨N.length,by rw[lx2],by omega,by omega,fun A hA=>?_⟩
 rw[i9]
 refine a4q (fun i ys H3=>∃as:List Addr,ys=as.map V.ref/\as.length=i/\(∀(j:Nat) x l,as[j]? = some x->(a2u N G)[j]? = some l->H3 x=some (.lst (IL l))/\x≠A)/\H3 A=some (.lst ys)/\o6 H2 H3) ?_ ?_ ?_ ?_
 ·exact⟨[],rfl,rfl,by simp,c9,t8 hA⟩
 ·rintro i ys H3 ⟨_,_,_,_,h,_⟩
  exact h
 ·rintro i ys H3 hi ⟨as,rfl,la,at3,hA3,s3⟩ R hR
  rw[X9]
  obtain⟨ys0,x,f1,f2,f3,f4⟩:=(n2.same s3).at (N4 hi)
  have more:∀q H4,o6 H3 H4->(∀l,(a2u N G)[i]? = some l->H4 q=some (.lst (IL l)))->q≠A->R (.ref q) H4:=by
   intro q H4 s4 hq nq
   refine hR _ _ (s4 _ _ hA3) (G9 (by rw[a9];omega)) ⟨as++[q],by simp,by simp[la],?_,c9,fun b o e=>?_⟩
   ·intro j y l' h1 h2
    rcases Q0 h1 with ⟨_,g1⟩ | ⟨hj,g1⟩
    ·obtain⟨g2,g3⟩:=at3 j y l' g1 h2
     exact⟨by rw[g6 g3];exact s4 _ _ g2,g3⟩
    ·rw[hj,la]at h2
     subst g1
     exact⟨by rw[g6 nq];exact hq l' h2,nq⟩
   ·rw[g6 (d5 e hA)]
    exact s4 _ _ (s3 _ _ e)
  ext
  specialize b5s ?_
  obtain⟨o,g1,g2⟩:=a4J (s3 _ _ I2.hd) i
  refine⟨d,o,rfl,g1,?_⟩
  rw[g2]
  ext
  refine a1n (fun c=>?_) (fun c=>?_)
  ·ext
   refine O6 f1 f2 ?_
   refine more x H3 (o6.refl _) (fun l hl'=>?_) ?_
   ·rw[a6n (N4 hi) (of_decide_eq_true c)]at hl'
    cases hl'
    exact f3
   ·refine(d5 (H:=H2) (a:=x) (b:=A) (o:=.lst (IL N[i])) ?_ hA)
    obtain⟨ys1,x',f1',f2',f3',_⟩:=n2.at (N4 hi)
    have e1:=s3 _ _ f1'
    rw[f1]at e1
    cases e1
    rw[f2]at f2'
    cases f2'
    exact f3'
  ·ext
   exists Q1 f1 ?_
   exists C4 (by simp) fun p1 H4 hp1 e4 s4=>?_
   exists O6 (s4 _ _ f1) f2 ?_
   refine c3i (s4 _ _ f3) fun p2 H5 hp2 e5 s5=>?_
   rw[c6Z,c2J]at e5
   have hl2:=(hs _ (y9 (l:=N) (h:=hi))).1
   refine b9a (s5 _ _ e4) e5 (C4 (by simp[U9];omega) fun p3 H6 hp3 e6 s6=>?_)
   refine more p3 H6 ((s4.trans s5).trans s6) (fun l hl'=>?_) ?_
   ·rw[b0l (N4 hi) (fun z=>c (c8U z))]at hl'
    cases hl'
    rw[e6,f4]
    have:((N.length:Int) - 1)=((N.length - 1:Nat):Int):=by omega
    rw[this]
    rfl
   ·exact(d5 ((s4.trans s5) _ _ hA3) hp3).symm
 rintro ys H3 ⟨as,rfl,la,at3,hA3,s3⟩
 obtain⟨N2,hN2⟩:∃N2,N2=a2u N G:=⟨_,rfl⟩
 have len2:N2.length=N.length:=by rw[hN2,b0m]
 have n3:D8 H3 A N2:=⟨as,hA3,by rw[len2,la],fun i x l h1 h2=>(at3 i x l h1 (hN2 ▸ h2)).1⟩
 have small2:∀l∈N2,l.length<=2/\∀t∈l,t<N2.length:=by
  rw[len2,hN2]
  exact b2U hp hs hl hlast
 have gd2:∀k,k<N2.length->Gd N2 k:=by
  rw[len2,hN2]
  exact c2t I2.gd hl hlast
 have s03:o6 H H3:=I2.same.trans s3
 clear at3 hN2 la
 ext
 nofun
 intro r hr
 refine⟨c9,[(Sum.inl 0,V.bl true)],rfl,by simp,?_⟩
 have e4:(upd (upd H3 r (.dK [])) r (.dK (a6X [] [(Sum.inl 0,V.bl true)])))=upd H3 r (.dK (KS [0])):=by
  rw[a7F];rfl
 rw[e4]
 ext
 obtain⟨H4,hH4⟩:∃H4,H4=upd H3 r (.dK (KS [0])):=⟨_,rfl⟩
 rw[<-hH4]
 have s4:o6 H3 H4:=hH4 ▸ t8 hr
 have er:H4 r=some (.dK (KS [0])):=hH4 ▸ c9
 have n4:=n3.same s4
 clear hH4 e4
 have hp2:0<N2.length:=by omega
 exact_mod_cast a1V (P:=fun σ H5=>∃x2 x3 x5 S,σ=[some (.ref A),some (.ref d),x2,x3,some (.ref r),x5,none]/\b1J H3 H5 r N2 S/\a5L N2 S/\D8 H5 A N2) ?_ ?_
 rotate_left
 ·intro nx hnx
  obtain⟨ys4,hy4,ly4⟩:=n4.len
  specialize Z9 (a1s ?_)
  refine Q1 hy4 ?_
  refine⟨N2.length,by rw[ly4],by omega,by omega,?_⟩
  rw[i9]
  refine a0V (fun i σ H5=>∃x2 x3 x5 S,σ=[some (.ref A),some (.ref d),x2,x3,some (.ref r),x5,none]/\b1J H3 H5 r N2 S/\(a5L N2 S\/i+1<=S.length)/\D8 H5 A N2) ?_ ?_ ?_
  ·exact⟨_,_,_,[0],rfl,⟨s4,er,by simp,by simpa using hp2,by simpa using Rc.zero,by simp⟩,.inr (by simp),n4⟩
  ·rintro i _ H5 hi ⟨x2,x3,x5,S,rfl,I5,g5,n5⟩
   ext
   obtain⟨ys5,hy5,ly5⟩:=n5.len
   specialize Z9 (a1s ?_)
   refine Q1 hy5 ?_
   refine⟨N2.length,by rw[ly5],by omega,by omega,?_⟩
   rw[i9]
   refine a0V (fun j σ H6=>∃x3 x5 S',σ=[some (.ref A),some (.ref d),some (.int (0+(i:Int))),x3,some (.ref r),x5,none]/\b1J H3 H6 r N2 S'/\(∀k∈S,k∈S')/\(∀k∈S,k<j->∀l,N2[k]? = some l->∀t∈l,t∈S')/\(a5L N2 S->S'=S)/\D8 H6 A N2) ?_ ?_ ?_
   ·exact⟨_,_,S,rfl,I5,fun _ h=>h,by omega,fun _=>rfl,n5⟩
   ·rintro j _ H6 hj ⟨x3,x5,S',rfl,I6,b1,b2,b3,n6⟩
    exact_mod_cast b0Y ?_
    rw[X9 (j:Int)]
    refine b8X hr n6 (by omega) (N4 hj) (small2 _ (y9 _)).2 I6 fun H7 S7 x5 I7 c1 c2 c3 n7=>?_
    refine⟨_,x5,S7,rfl,I7,fun k hk=>c1 k (b1 k hk),fun k hk hkj l hl' t ht=>?_,fun hc=>?_,n7⟩
    ·by_cases e:k=j
     ·subst e
      rw[N4 hj]at hl'
      cases hl'
      exact c2 (b1 k hk) t ht
     ·exact c1 t (b2 k hk (by omega) l hl' t ht)
    ·have:=b3 hc
     rw[this]at c3
     exact c3 hc
   ·rintro _ H6 ⟨x3,x5,S',rfl,I6,b1,b2,b3,n6⟩
    refine⟨_,x3,x5,S',rfl,I6,?_,n6⟩
    rcases g5 with hc | hc
    ·exact .inl (by rw[b3 hc];exact hc)
    ·by_cases hcl:a5L N2 S
     ·exact .inl (by rw[b3 hcl];exact hcl)
     ·right
      obtain⟨t,t1,t2⟩:∃t,t∈S'/\¬t∈S:=by
       refine Classical.byContradiction fun hno=>hcl fun k hk l hl' t ht=>?_
       refine Classical.byContradiction fun hts=>hno ⟨t,b2 k hk (I5.lt k hk) l hl' t ht,hts⟩
      have:(t::S).length<=S'.length:=by
       have nd:(t::S).Nodup:=Q8.mpr ⟨t2,I5.nd⟩
       have sub:∀k∈t::S,k∈S':=fun k hk=>(d8.mp hk).elim (fun z=>z ▸ t1) (b1 k)
       exact b9L _ _ nd sub
      rw[y8]at this
      omega
  ·rintro _ H5 ⟨x2,x3,x5,S,rfl,I5,g5,n5⟩
   refine hnx _ _ ⟨x2,x3,x5,S,rfl,I5,g5.elim id fun h=>?_,n5⟩
   have:=a8N _ _ I5.nd I5.lt
   omega
 rintro _ H5 ⟨y2,y3,y5,S,rfl,I5,hcl,n5⟩
 have hSl:=a8N _ _ I5.nd I5.lt
 nofun
 have ek:(KS S).map (fun kv=>kV kv.1)=(S.map fun(n:Nat)=>(n:Int)).map V.int:=by
  unfold KS;rw[S9,S9];rfl
 have ld:a3q [.ref r] H5=fun Q=>∀l,H5 l=none->Q (.ref l) (upd H5 l (.lst ((KS S).map fun kv=>kV kv.1))):=by
  unfold a3q
  simp only[I5.hd]
 rw[ld]
 intro p6 hp6
 rw[ek]
 obtain⟨H6,hH6⟩:∃H6,H6=upd H5 p6 (.lst ((S.map fun(n:Nat)=>(n:Int)).map V.int)):=⟨_,rfl⟩
 rw[<-hH6]
 have s6:o6 H5 H6:=hH6 ▸ t8 hp6
 have e6:H6 p6=some (.lst ((S.map fun(n:Nat)=>(n:Int)).map V.int)):=hH6 ▸ c9
 clear hH6 ld
 ext
 have so:a4G [.ref p6] H6=fun Q=>∃ns,a1w ((S.map fun(n:Nat)=>(n:Int)).map V.int)=some ns/\ns.length<64/\∀(p:Addr) (ms:List Int),ms.Perm ns->ms.Pairwise (· <= ·)->H6 p=none->Q (.ref p) (upd H6 p (.lst (ms.map V.int))):=by
  unfold a4G
  simp only[e6]
 rw[so]
 refine⟨_,a8U _,by rw[a9];omega,fun p7 ms hperm hsort hp7=>?_⟩
 obtain⟨O,hO,rfl⟩:=b2Q hperm
 have hsO:=b3Z hsort
 have ndO:O.Nodup:=hO.nodup_iff.mpr I5.nd
 have memO:∀k,k∈O↔k∈S:=fun k=>hO.mem_iff
 obtain⟨H7,hH7⟩:∃H7,H7=upd H6 p7 (.lst ((O.map fun(n:Nat)=>(n:Int)).map V.int)):=⟨_,rfl⟩
 rw[<-hH7]
 have s7:o6 H6 H7:=hH7 ▸ t8 hp7
 have e7:H7 p7=some (.lst ((O.map fun(n:Nat)=>(n:Int)).map V.int)):=hH7 ▸ c9
 clear hH7 so
 have hOl:O.length<=24:=by rw[hO.length_eq];omega
 ext
 have n7:=(n5.same s6).same s7
 have s07:o6 H H7:=((s03.trans I5.same).trans s6).trans s7
 have valid:a2Z (a5m N2 O):=b6n ((memO 0).mpr I5.zero) hsO ndO (fun k hk=>I5.lt k ((memO k).mp hk)) (by omega) (fun k hk l hl' t ht=>(memO t).mpr (hcl k ((memO k).mp hk) l hl' t ht)) (fun k hk=>I5.rc k ((memO k).mp hk))
  (fun l hl'=>(small2 l hl').1) gd2
 specialize W0 (O7 ?_)
 refine⟨p7,rfl,⟨_,SqL.of e7⟩,fun B hB=>?_⟩
 refine W3 (xs:=(O.map fun(n:Nat)=>(n:Int)).map V.int) (fun i ys H8=>∃bs:List Addr,ys=bs.map V.ref/\bs.length=i/\(∀(j:Nat) x l,bs[j]? = some x->(a5m N2 O)[j]? = some l->H8 x=some (.lst (IL l))/\x≠B)/\H8 B=some (.lst ys)/\o6 H7 H8) ?_ ?_ ?_ ?_ ?_
 ·exact⟨[],rfl,rfl,by simp,c9,t8 hB⟩
 ·rintro i ys H8 ⟨_,_,_,_,h,_⟩
  exact h
 ·rintro i ys H8 _ ⟨_,_,_,_,_,s8⟩
  exact SqL.of (s8 _ _ e7)
 ·rintro i x ys H8 hx ⟨bs,rfl,lb,at8,hB8,s8⟩ R hR
  rw[b7,b7]at hx
  cases ho:O[i]? with
  | none=>rw[ho]at hx;cases hx
  | some kk=>
   rw[ho]at hx
   cases hx
   have hko:=mI ho
   have hks:=(memO kk).mp hko
   have hkl:=I5.lt kk hks
   obtain⟨ys8,x8,f1,f2,f3,_⟩:=(n7.same s8).at (N4 hkl)
   obtain⟨l8,hl8⟩:∃l8,l8=N2[kk]:=⟨_,rfl⟩
   rw[<-hl8]at f3
   have hN8:N2[kk]? = some l8:=by rw[hl8];exact N4 hkl
   specialize W0 (O7 ?_)
   refine O6 f1 f2 ?_
   refine⟨x8,rfl,⟨_,SqL.of f3⟩,fun C hC=>?_⟩
   refine W3 (xs:=IL l8) (fun j zs H9=>zs=IL ((l8.take j).map fun t=>O.idxOf t)/\H9 C=some (.lst zs)/\o6 H8 H9) ⟨rfl,c9,t8 hC⟩ ?_ ?_ ?_ ?_
   ·rintro j zs H9 ⟨_,h,_⟩
    exact h
   ·rintro j zs H9 _ ⟨_,_,s9⟩
    exact SqL.of (s9 _ _ f3)
   ·rintro j y zs H9 hy ⟨rfl,hC9,s9⟩ R' hR'
    have hy:(l8.map fun(n:Nat)=>V.int (n:Int))[j]? = some y:=hy
    rw[b7]at hy
    cases ht:l8[j]? with
    | none=>rw[ht]at hy;cases hy
    | some t=>
     rw[ht]at hy
     cases hy
     have htO:t∈O:=(memO t).mpr (hcl kk hks l8 hN8 t (mI ht))
     specialize a7x ?_
     have e9:H9 p7=_:=s9 _ _ (s8 _ _ e7)
     exists ⟨Z1 e9,?_⟩
     have ix:a6P (.ref p7) [.int (t:Int)] H9=fun Q=>∃ns,a1w ((O.map fun(n:Nat)=>(n:Int)).map V.int)=some ns/\ns.length<10000/\(t:Int)∈ns/\Q (.int (ns.idxOf (t:Int):Nat)) H9:=by
      unfold a6P
      simp only[e9]
     rw[ix]
     refine⟨_,a8U _,by rw[a9];omega,q9.mpr ⟨t,htO,rfl⟩,?_⟩
     rw[b9Y]
     have hl2:=(small2 l8 (mI hN8)).1
     refine hR' _ _ hC9 (G9 ?_) ⟨?_,c9,fun b o e=>?_⟩
     ·rw[U9,a9,C9];omega
     ·unfold IL
      rw[b5K l8 (fun t=>O.idxOf t) j ht]
      simp
     ·rw[g6 (d5 e hC)];exact s9 _ _ e
   ·rintro zs H9 ⟨rfl,hC9,s9⟩
    rw[U9,F5]at hC9
    refine hR _ _ (s9 _ _ hB8) (G9 (by rw[a9];have:=(gI ho);omega)) ⟨bs++[C],by simp,by simp[lb],?_,c9,fun b o e=>?_⟩
    ·have nCB:C≠B:=(d5 hB8 hC).symm
     intro j y l' h1 h2
     rcases Q0 h1 with ⟨_,g1⟩ | ⟨hj,g1⟩
     ·obtain⟨g2,g3⟩:=at8 j y l' g1 h2
      exact⟨by rw[g6 g3];exact s9 _ _ g2,g3⟩
     ·rw[hj,lb]at h2
      subst g1
      refine⟨?_,nCB⟩
      rw[g6 nCB,hC9]
      have h2':(a5m N2 O)[i]? = some (l8.map fun t=>O.idxOf t):=by
       unfold a5m
       rw[b7,ho]
       simp[M9,hN8]
      rw[h2']at h2
      cases h2
      rfl
    ·rw[g6 (d5 e hB)]
     exact s9 _ _ (s8 _ _ e)
 ·rintro ys H8 ⟨bs,rfl,lb,at8,hB8,s8⟩
  rw[a9,a9]at lb
  have hlen:(a5m N2 O).length=O.length:=by simp[a5m]
  exact k B (a5m N2 O) H8 ⟨bs,hB8,by rw[lb,hlen],fun i x l h1 h2=>(at8 i x l h1 h2).1⟩ valid (by rw[hlen];exact hOl) (s07.trans s8)
structure O8(H:Hp)(a:Addr)(N:Nt):Prop where
 ex:∃rs:List Addr,H a=some (.lst (rs.map V.ref))/\rs.length=N.length/\∀(i:Nat) x l,rs[i]? = some x->N[i]? = some l->a7C H (.ref x) (l.length == 2)
theorem O8.same(h:O8 H a N)(k:o6 H H'):O8 H' a N:=by
 obtain⟨rs,h1,h2,h3⟩:=h.ex
 exact⟨rs,k a _ h1,h2,fun i x l e1 e2=>(h3 i x l e1 e2).ts (o6.ts k)⟩
theorem O8.kept(h:O8 H a N)(hB:Bag H b c)(k:A0 b H H'):O8 H' a N:=by
 obtain⟨rs,h1,h2,h3⟩:=h.ex
 exact⟨rs,k.1 a _ h1 (a0k hB h1),h2,fun i x l e1 e2=>(h3 i x l e1 e2).ts (A0.ts k hB)⟩
theorem b5A{K:Fg}{E:XK}(hB:Bag H b c)
  (k:∀p ra na N H',H' p=some (.tup [.ref ra,.ref na])->O8 H' ra N->D8 H' na N->a2Z N->N.length<=24->(∃rs:List Addr,H' ra=some (.lst (rs.map V.ref))/\∀x∈rs,RwM H' (.ref x))->Bag H' b c->A0 b H H'->Q (.ref p) H'):a6f K [.ref b] H Q E:=by
 refine⟨rfl,?_⟩
 unfold b8x
 nofun
 exists b5z hB fun sa H0 N0' M0 B0 k0 _=>?_
 nofun
 refine M3 B0 (by decide) (by decide) fun n1 H1 a0 a1 B1 k1=>?_
 obtain⟨n1,rfl⟩:=L4 a0
 ext
 nofun
 refine M3 B1 (by decide) (by decide) fun n2 H1' a0' a1' B1' k1'=>?_
 obtain⟨n2,rfl⟩:=L4 a0'
 ext
 have k01:=k1.trans k1'
 exact_mod_cast a1V (P:=fun σ H2=>∃m kd:Nat,σ=[some (.ref b),some (.ref sa),some (.int (m:Int)),some (.int (kd:Int)),none,none,none]/\0<m/\m<=24/\0<kd/\kd<=5/\Bag H2 b c/\A0 b H0 H2) ?_ ?_
 rotate_left
 ·intro nx hnx
  ext
  exists M3 B1' (by decide) (by decide) fun n3 H2 b0 b1 B2 k2=>?_
  refine a1n (fun _=>?_) (fun _=>?_)
  ·nofun
   refine M3 B2 (by decide) (by decide) fun n4 H3 c0 c1 B3 k3=>?_
   obtain⟨n4,rfl⟩:=L4 c0
   ext
   refine M3 B3 (by decide) (by decide) fun n5 H4 d0 d1 B4 k4=>?_
   obtain⟨n5,rfl⟩:=L4 d0
   ext
   exact hnx _ _ ⟨15+n4,1+n5,rfl,by omega,by omega,by omega,by omega,B4,((k01.trans k2).trans k3).trans k4⟩
  ·ext
   exact hnx _ _ ⟨1+n1,1+n2,rfl,by omega,by omega,by omega,by omega,B2,k01.trans k2⟩
 rintro _ H2 ⟨m,kd,rfl,m0,m1,kd0,kd1,B2,k2⟩
 nofun
 exists c5b B2 m0 m1 fun a N0 H3 n3 l3 s3 z3 B3 k3=>?_
 exists b6Z n3 (by omega) (by omega) (by rw[l3];exact s3) (by rw[l3];exact z3) fun na N H4 n4 v4 lN s4=>?_
 have B6:=B3.same s4
 have k6:A0 b H0 H4:=(k2.trans k3).trans (A0.of_same s4)
 obtain⟨N6,nsa⟩:=N0'.kept B0 k6
 have M6:=M0.kept nsa k6
 nofun
 specialize W0 (a1s ?_)
 refine⟨(kd:Int),rfl,by omega,by omega,fun D hD=>?_⟩
 rw[i9]
 obtain⟨nb,nc⟩:=B6.nb hD
 refine a4q (fun i ys H7=>∃ps:List Addr,ys=ps.map V.ref/\ps.length=i/\(∀p∈ps,a6z H7 p/\TxM H7 p)/\H7 D=some (.lst ys)/\Bag H7 b c/\A0 b H4 H7) ?_ ?_ ?_ ?_
 ·exact⟨[],rfl,rfl,by simp,c9,B6.new hD,A0.new hD⟩
 ·rintro i ys H7 ⟨_,_,_,_,h,_⟩
  exact h
 ·rintro i ys H7 hi ⟨ps,rfl,lp,hp,hD7,B7,k7⟩ R hR
  obtain⟨N7,_⟩:=N6.kept B6 k7
  ext
  refine c2w B7 N7 (M6.kept nsa k7) fun p H8 hd8 hm8 _ B8 k8=>?_
  have hD8:=k8.1 _ _ hD7 nb
  refine hR _ _ hD8 (G9 (by rw[a9];omega)) ⟨ps++[p],by simp,by simp[lp],fun q hq=>?_,c9,B8.put nb nc,(k7.trans k8).put hD⟩
  rcases h9.mp hq with z | z
  ·exact⟨((hp q z).1.ts (A0.ts k8 B7)).ts (G7.put hD8),((hp q z).2.ts (A0.ts k8 B7)).ts (G7.put hD8)⟩
  ·rw[c7.mp z];exact⟨hd8.ts (G7.put hD8),hm8.ts (G7.put hD8)⟩
 rintro ys H7 ⟨ps,rfl,lp,hp,hD7,B7,k7⟩
 ext
 have P7:b3y H7 D:=⟨ps,hD7,by intro z;subst z;simp at lp;omega,by omega,fun p h=>(hp p h).1⟩
 obtain⟨N7,_⟩:=N6.kept B6 k7
 have M7:=M6.kept nsa k7
 have n7:=n4.kept B6 v4.two k7
 have k07:A0 b H H7:=(k0.trans k6).trans k7
 exact_mod_cast X7 ?_
 refine c3J ?_
 specialize W0 (O7 ?_)
 obtain⟨as,q1,q2,q3⟩:=id n7.ex
 refine⟨na,rfl,⟨_,SqL.of q1⟩,fun R' hR'=>?_⟩
 obtain⟨rb,rc⟩:=B7.nb hR'
 refine W3 (xs:=as.map V.ref) (fun i ys H8=>∃rs:List Addr,ys=rs.map V.ref/\rs.length=i/\(∀(j:Nat) x l,rs[j]? = some x->N[j]? = some l->a7C H8 (.ref x) (l.length == 2))/\(∀x∈rs,RwM H8 (.ref x))/\H8 R'=some (.lst ys)/\Bag H8 b c/\A0 b H7 H8) ?_ ?_ ?_ ?_ ?_
 ·exact⟨[],rfl,rfl,by simp,by simp,c9,B7.new hR',A0.new hR'⟩
 ·rintro i ys H8 ⟨_,_,_,_,_,h,_⟩
  exact h
 ·rintro i ys H8 _ ⟨_,_,_,_,_,_,_,k8⟩
  exact SqL.of (k8.1 _ _ q1 (a0k B7 q1))
 ·rintro i x ys H8 hx ⟨rs,rfl,lr,hr,hm,hR8,B8,k8⟩ R hR
  rw[b7]at hx
  cases hxa:as[i]? with
  | none=>rw[hxa]at hx;cases hx
  | some xa=>
   rw[hxa]at hx
   cases hx
   have hi:i<N.length:=by rw[<-q2];exact(gI hxa)
   have n8:=n7.kept B7 v4.two k8
   have hx8:=q3 i xa _ hxa (N4 hi)
   have hx8:=k8.1 _ _ hx8 (b2r B7 hx8 (by rw[U9];have:=v4.two _ (y9 hi);omega))
   obtain⟨N8,_⟩:=N7.kept B7 k8
   have P8:=P7.kept B7 k8
   ext
   exists Q1 hx8 ?_
   rw[U9]
   have hdb:decide (V.int (N[i].length:Int)=V.int 2)=(N[i].length == 2):=by
    rw[b0p,Q9]
    simp
    omega
   rw[hdb]
   refine c3X B8 N8 (M7.kept nsa k8) P8 (fun ps' e q hq=>?_) fun v H9 r9 m9 B9 k9=>?_
   ·have z:=k8.1 _ _ hD7 (a0k B7 hD7)
    rw[e]at z
    have:ps'=ps:=T9 (f:=V.ref) (fun a b h=>V.ref.inj h) |>.mp (HO.lst.inj (Option.some.inj z))
    exact(hp q (this ▸ hq)).2.ts (A0.ts k8 B7)
   obtain⟨pv,xv,rfl,_⟩:=id r9
   have hR9:=k9.1 _ _ hR8 rb
   refine hR _ _ hR9 (G9 (by rw[a9];omega)) ⟨rs++[pv],by simp,by simp[lr],?_,(fun y hy=>by
    rcases h9.mp hy with z | z
    ·exact((hm y z).ts (A0.ts k9 B8)).ts (G7.put hR9)
    ·rw[c7.mp z];exact m9.ts (G7.put hR9)),c9,B9.put rb rc,(k8.trans k9).put hR'⟩
   intro j y l h1 h2
   rcases Q0 h1 with ⟨_,g1⟩ | ⟨hj,g1⟩
   ·exact((hr j y l g1 h2).ts (A0.ts k9 B8)).ts (G7.put hR9)
   ·rw[hj,lr,N4 hi]at h2
    cases h2
    subst g1
    exact r9.ts (G7.put hR9)
 ·rintro ys H8 ⟨rs,rfl,lr,hr,hm,hR8,B8,k8⟩
  rw[a9]at lr
  ext
  refine C4 (by simp) fun p H9 hp9 e9 s9=>?_
  exact k p R' na N H9 e9 ((⟨rs,hR8,by rw[lr,q2],hr⟩:O8 H8 R' N).same s9) ((n7.kept B7 v4.two k8).same s9) v4 lN ⟨rs,s9 _ _ hR8,fun x hx=>(hm x hx).ts (o6.ts s9)⟩ (B8.same s9) ((k07.trans k8).trans (A0.of_same s9))
theorem big(h:n<=1000000):n<=i8:=A1 h (by rw[a3e];decide)
theorem a7A{K:Fg}{E:XK}(ha:H a=some (.lst xs))(h1:1<=xs.length)(h2:xs.length<=400)(k:Q .non H):a0j K [.ref a,.int 0,.int 1] H Q E:=by
 refine⟨rfl,?_⟩
 unfold a3Y
 nofun
 exists a1X (s := "list") (by simp only[a2D,ha]) (by decide) ?_
 exists y0 (by decide) ?_
 exists Q1 ha ?_
 exists y0 (c8T (by omega)) ?_
 exists Q1 ha ?_
 exists y0 (c8T (by omega)) ?_
 exact k
theorem a5f{K:Fg}{E:XK}(ha:H a=some (.lst (z8 n (V.bl true))))(k:∀H',o6 H H'->Q .non H'):a0f K [.ref a] H Q E:=by
 refine⟨rfl,?_⟩
 unfold a5Y
 specialize Z9 (a7I ?_)
 refine⟨a,rfl,⟨_,SqL.of ha⟩,?_⟩
 refine b5N n (fun i σ H2=>∃x1 x2,σ=[some (.ref a),x1,x2]/\o6 H H2) ⟨_,_,rfl,o6.refl _⟩ ?_ ?_ ?_
 ·rintro _ H2 ⟨x1,x2,rfl,s2⟩
  exact⟨⟨_,SqL.of (s2 _ _ ha),by simp⟩,k H2 s2⟩
 ·rintro i _ H2 hi ⟨x1,x2,rfl,s2⟩
  exact⟨_,V.bl true,SqL.of (s2 _ _ ha),by rw[K8,if_pos hi]⟩
 ·rintro i _ H2 hi ⟨x1,x2,rfl,s2⟩ x H3 ⟨p,y,hp,rfl,rfl,hy⟩
  have hy:=hy _ (SqL.of (s2 _ _ ha))
  rw[K8,if_pos hi]at hy
  cases hy
  exists a3m (SqT.of c9) ?_
  exists y0 rfl ?_
  exact⟨_,_,rfl,s2.trans (t8 hp)⟩
theorem a8d(n:Nat):z8 n (V.bl true)++[V.bl true]=z8 (n+1) (V.bl true):=by
 rw[a5O]
theorem c5e(h:n=0\/n=1):inV (.int (n:Int)) [.int 0,.int 1]=true:=by
 rcases h with rfl | rfl <;> decide
theorem b1G{K:Fg}{x:Addr}{l:List Nat}{E:XK}(hv:a7C H v (l.length == 2))(hx:H x=some (.lst (IL l)))(h2:l.length<=2)(hlt:∀t∈l,t<m)(k:∀H',o6 H H'->Q (.bl true) H') :
  a1A K [v,.ref x,.int (m:Int)] H Q E:=by
 obtain⟨p,xs,rfl,hp,_,kd,r,rfl,hk⟩:=hv
 refine⟨rfl,?_⟩
 unfold a7m
 nofun
 exists a1X (s := "list") (by simp only[a2D,hx]) (by decide) ?_
 exists y0 (by decide) ?_
 exact_mod_cast a1V (P:=fun σ H1=>∃w ws,σ=[some (.ref p),some (.ref x),some (.int (m:Int)),some (.ref w)]/\H1 w=some (.tup ws)/\ws.all L9=true/\inV (.int (l.length:Int)) ws=true/\o6 H H1) ?_ ?_
 rotate_left
 ·intro nx hnx
  ext
  exists J7 hp (a2d _ _) ?_
  by_cases e:kd = "ask"
  ·exists F4 (c8U (by rw[e])) ?_
   refine C4 (by simp) fun w H1 hw e1 s1=>?_
   rw[c8U e]at hk
   have:l.length=2:=by simpa using hk.symm
   exact hnx _ _ ⟨w,_,rfl,e1,rfl,by rw[this];decide,s1⟩
  ·exists y0 (c8T (fun z=>e (V.str.inj z))) ?_
   refine C4 (by simp) fun w H1 hw e1 s1=>?_
   rw[c8T e]at hk
   have:¬l.length=2:=by
    intro z
    rw[z]at hk
    exact absurd hk (by decide)
   exact hnx _ _ ⟨w,_,rfl,e1,rfl,c5e (by omega),s1⟩
 rintro _ H1 ⟨w,ws,rfl,hw,fw,iw,s1⟩
 ext
 exists Q1 (s1 _ _ hx) ?_
 rw[U9]
 refine a6l hw rfl fw ?_
 exists ⟨_,rfl,F4 iw ?_⟩
 specialize W0 (O7 ?_)
 refine⟨x,rfl,⟨_,SqL.of (s1 _ _ hx)⟩,fun D hD=>?_⟩
 refine W3 (xs:=IL l) (fun i ys H2=>ys=z8 i (V.bl true)/\H2 D=some (.lst ys)/\o6 H1 H2) ⟨rfl,c9,t8 hD⟩ ?_ ?_ ?_ ?_
 ·rintro i ys H2 ⟨_,h,_⟩
  exact h
 ·rintro i ys H2 _ ⟨_,_,s2⟩
  exact SqL.of (s2 _ _ (s1 _ _ hx))
 ·rintro i y ys H2 hy ⟨rfl,hD2,s2⟩ R hR
  have hy:(l.map fun(n:Nat)=>V.int (n:Int))[i]? = some y:=hy
  rw[b7]at hy
  cases ht:l[i]? with
  | none=>rw[ht]at hy;cases hy
  | some t=>
   rw[ht]at hy
   cases hy
   have hi:=(gI ht)
   have:=hlt t (mI ht)
   ext
   refine b1s (by omega) (by omega) ?_
   refine hR _ _ hD2 (G9 (by rw[E1];omega)) ⟨a8d i,c9,fun b o e=>?_⟩
   rw[g6 (d5 e hD)];exact s2 _ _ e
 ·rintro ys H2 ⟨rfl,hD2,s2⟩
  ext
  have e:z8 (IL l).length (V.bl true)=(z8 l.length true).map V.bl:=by rw[U9];simp
  rw[e]at hD2
  refine c6y hD2 ?_
  have:(z8 l.length true).all id=true:=by simp
  rw[this]
  exact k H2 (s1.trans s2)
theorem a9b{K:Fg}{E:XK}(hr:O8 H ra N)(hn:D8 H na N)(h400:N.length<=400)(h2:∀l∈N,l.length<=2)(hlt:∀l∈N,∀t∈l,t<N.length)(k:∀H',o6 H H'->Q .non H') :
  a0F K [.ref ra,.ref na] H Q E:=by
 obtain⟨rs,r1,r2,r3⟩:=id hr.ex
 obtain⟨as,a1,a2,a3⟩:=id hn.ex
 refine⟨rfl,?_⟩
 unfold a5d
 nofun
 exists a1X (s := "list") (by simp only[a2D,a1]) (by decide) ?_
 exists y0 (by decide) ?_
 exists Q1 a1 ?_
 exists Q1 r1 ?_
 exists y0 (by rw[a9,a9,r2,a2];simp) ?_
 specialize b5u (c3O ?_)
 refine⟨ra,na,rfl,⟨_,SqL.of r1⟩,⟨_,SqL.of a1⟩,fun D hD=>?_⟩
 refine c0l N.length (fun i ys H2=>ys=z8 i (V.bl true)/\H2 D=some (.lst ys)/\o6 H H2) ⟨rfl,c9,t8 hD⟩ ?_ ?_ ?_ ?_
 ·rintro i ys H2 ⟨_,h,_⟩
  exact h
 ·rintro ys H2 ⟨rfl,hD2,s2⟩
  exists ⟨⟨_,_,SqL.of (s2 _ _ r1),SqL.of (s2 _ _ a1),.inl (by rw[a9,r2];exact d3 _)⟩,?_⟩
  exact a5f hD2 fun H3 s3=>k H3 (s2.trans s3)
 ·rintro i ys H2 hi ⟨_,_,s2⟩
  have e1:rs[i]? = some (rs[i]'(by omega)):=by simp[r2,hi]
  have e2:as[i]? = some (as[i]'(by omega)):=by simp[a2,hi]
  exact⟨_,_,_,_,SqL.of (s2 _ _ r1),SqL.of (s2 _ _ a1),by rw[b7,e1];rfl,by rw[b7,e2];rfl⟩
 ·rintro i ys H2 hi ⟨rfl,hD2,s2⟩ x H3 ⟨p,y1,y2,hp,rfl,rfl,g1,g2⟩
  obtain⟨rx,e1⟩:∃rx,rs[i]? = some rx:=⟨_,c8 (by omega)⟩
  obtain⟨ax,e2⟩:∃ax,as[i]? = some ax:=⟨_,c8 (by omega)⟩
  have g1:=g1 _ (SqL.of (s2 _ _ r1))
  have g2:=g2 _ (SqL.of (s2 _ _ a1))
  rw[b7,e1]at g1
  rw[b7,e2]at g2
  cases g1
  cases g2
  refine⟨p,_,_,rfl,SqT.of c9,fun R S hR hS=>?_⟩
  have s3:o6 H2 (upd H2 p (.tup [V.ref rx,V.ref ax])):=t8 hp
  obtain⟨H3,hH3⟩:∃H3,H3=upd H2 p (.tup [V.ref rx,V.ref ax]):=⟨_,rfl⟩
  rw[<-hH3]at s3 ⊢
  ext
  exists F4 rfl ?_
  have s03:=s2.trans s3
  exists Q1 (s03 _ _ r1) ?_
  have hl:=N4 hi
  rw[a9,r2]
  refine b1G ((r3 i _ _ e1 hl).ts (o6.ts s03)) (s03 _ _ (a3 i _ _ e2 hl)) (h2 _ (y9 hi)) (hlt _ (y9 hi)) fun H4 s4=>?_
  refine hR _ _ (s4 _ _ (s3 _ _ hD2)) (G9 (by rw[E1];omega)) ⟨a8d i,c9,fun b o e=>?_⟩
  rw[g6 (d5 e hD)];exact s4 _ _ (s03 _ _ e)
def a4n(N:Nt)(k:Nat):Bool:=(N.getD k []).isEmpty
def b0L(N:Nt):List Nat:=(z5 N.length).filter (a4n N)
theorem b7a{k:Nat}(h:N[k]? = some []):k∈b0L N:=by
 refine a4T.mpr ⟨a0d.mpr (gI h),?_⟩
 unfold a4n
 simp[M9,h]
theorem b2n{K:Fg}{E:XK}(hn:D8 H na N)(h400:N.length<=400)(k:∀a H',H a=none->H' a=some (.lst (IL (b0L N)))->o6 H H'->Q (.ref a) H'):a2m K [.ref na] H Q E:=by
 obtain⟨as,a1,a2,a3⟩:=id hn.ex
 refine⟨rfl,?_⟩
 unfold a8e
 ext
 specialize b5u (a7I ?_)
 refine⟨na,rfl,⟨_,SqL.of a1⟩,fun D hD=>?_⟩
 refine c0l N.length (fun i ys H2=>ys=IL ((z5 i).filter (a4n N))/\H2 D=some (.lst ys)/\o6 H H2) ⟨rfl,c9,t8 hD⟩ ?_ ?_ ?_ ?_
 ·rintro i ys H2 ⟨_,h,_⟩
  exact h
 ·rintro ys H2 ⟨rfl,hD2,s2⟩
  exact⟨⟨_,SqL.of (s2 _ _ a1),by rw[a9,a2];exact d3 _⟩,k D H2 hD hD2 s2⟩
 ·rintro i ys H2 hi ⟨_,_,s2⟩
  exact⟨_,_,SqL.of (s2 _ _ a1),by rw[b7,c8 (show i<as.length by omega)];rfl⟩
 ·rintro i ys H2 hi ⟨rfl,hD2,s2⟩ x H3 ⟨p,y,hp,rfl,rfl,g1⟩
  obtain⟨ax,e1⟩:∃ax,as[i]? = some ax:=⟨_,c8 (by omega)⟩
  have g1:=g1 _ (SqL.of (s2 _ _ a1))
  rw[b7,e1]at g1
  cases g1
  refine⟨p,_,_,rfl,SqT.of c9,fun R S hR hS=>?_⟩
  have s3:o6 H2 (upd H2 p (.tup [V.int (i:Int),V.ref ax])):=t8 hp
  obtain⟨H3,hH3⟩:∃H3,H3=upd H2 p (.tup [V.int (i:Int),V.ref ax]):=⟨_,rfl⟩
  rw[<-hH3]at s3 ⊢
  have s03:=s2.trans s3
  have hl:=N4 hi
  ext
  exists Q1 (s03 _ _ (a3 i _ _ e1 hl)) ?_
  have hst:a4n N i=decide (V.int ((IL N[i]).length:Int)=V.int 0):=by
   rw[b0p,U9]
   unfold a4n
   simp only[M9,hl,a3K]
   cases N[i] with
   | nil=>rfl
   | cons a r=>
    rw[List.isEmpty_cons,eq_comm,decide_eq_false_iff_not,y8]
    omega
  rw[<-hst]
  cases hb:a4n N i with
  | true=>
   exists F4 rfl ?_
   refine hR _ _ (s3 _ _ hD2) (G9 ?_) ⟨?_,c9,fun b o e=>?_⟩
   ·rw[U9]
    have:=a5h (a4n N) (z5 i)
    rw[G6]at this
    omega
   ·rw[a0J,a7v]
    unfold IL
    rw[t9]
    congr 1
    simp[hb]
   ·rw[g6 (d5 e hD)];exact s03 _ _ e
  | false=>
   refine y0 rfl ?_
   refine hS _ ⟨?_,s3 _ _ hD2,s03⟩
   rw[a0J,a7v]
   simp[hb]
theorem c3n{α:Type}{l:List α}(nd:l.Nodup){x:α}(h1:l[i]? = some x)(h2:l[j]? = some x):i=j:=
 (List.getElem?_inj (gI h1) nd).mp (h1.trans h2.symm)
structure a4t(H0 H:Hp)(a:Addr)(as:List Addr)(M:Nt):Prop where
 same:o6 H0 H
 h:H a=some (.lst (as.map V.ref))
 len:as.length=M.length
 nd:as.Nodup
 na:a∉as
 at_:∀(i:Nat) x l,as[i]? = some x->M[i]? = some l->H x=some (.lst (IL l))
 new:H0 a=none/\∀x∈as,H0 x=none
theorem a4t.next(h:a4t H0 H a as M)(s:o6 H H'):a4t H0 H' a as M:=
 ⟨h.same.trans s,s _ _ h.h,h.len,h.nd,h.na,fun i x l e1 e2=>s _ _ (h.at_ i x l e1 e2),h.new⟩
theorem a4t.add(h:a4t H0 H a as M){t p:Nat}{x:Addr}{l:List Nat}(e1:as[t]? = some x)(e2:M[t]? = some l) :
  a4t H0 (upd H x (.lst (IL (l++[p])))) a as (M.set t (l++[p])):=by
 have hx:=mI e1
 have hxa:x≠a:=fun z=>h.na (z ▸ hx)
 refine⟨fun b o e=>by rw[g6 (d5 e (h.new.2 x hx))];exact h.same b o e,by rw[g6 hxa.symm];exact h.h,by rw[a0K];exact h.len,h.nd,h.na,fun i y l' f1 f2=>?_,h.new⟩
 by_cases e:i=t
 ·subst e
  rw[e1]at f1
  cases f1
  rw[I0 (gI e2)]at f2
  cases f2
  exact c9
 ·rw[K7 (Ne.symm e)]at f2
  have:y≠x:=by
   rintro rfl
   exact e (c3n h.nd f1 e1)
  rw[g6 this]
  exact h.at_ i y l' f1 f2
theorem a4t.net(h:a4t H0 H a as M):D8 H a M:=⟨as,h.h,h.len,h.at_⟩
theorem a4t.nil(n:H0 a=none)(s:o6 H0 H)(e:H a=some (.lst [])):a4t H0 H a [] []:=⟨s,e,rfl,by simp,by simp,by simp,n,by simp⟩
theorem a4t.snoc(h:a4t H0 H a as M)(hp:H p=none)(ep:H' p=some (.lst (IL [])))(s:o6 H H') :
  a4t H0 (upd H' a (.lst ((as++[p]).map V.ref))) a (as++[p]) (M++[[]]):=by
 have npa:p≠a:=(d5 h.h hp).symm
 have npas:p∉as:=fun z=>by
  obtain⟨i,hi⟩:=C3.mp z
  have hl:i<M.length:=by rw[<-h.len];exact(gI hi)
  have:=h.at_ i p _ hi (N4 hl)
  rw[hp]at this
  cases this
 have fr0:H0 p=none:=h.same.free hp
 refine⟨fun b o e=>by rw[g6 (d5 e h.new.1)];exact s _ _ (h.same b o e),c9,by simp[h.len],?_,?_,fun i x l f1 f2=>?_,h.new.1,fun x hx=>?_⟩
 ·rw[a1h]
  exact⟨h.nd,by simp,fun x hx y hy=>by rw[c7.mp hy];intro z;exact npas (z ▸ hx)⟩
 ·intro z
  rcases h9.mp z with q | q
  ·exact h.na q
  ·exact npa (c7.mp q).symm
 ·rcases Q0 f1 with ⟨hi,g1⟩ | ⟨hi,g1⟩
  ·rcases Q0 f2 with ⟨hj,g2⟩ | ⟨hj,g2⟩
   ·have:x≠a:=fun z=>h.na (z ▸ mI g1)
    rw[g6 this]
    exact s _ _ (h.at_ i x l g1 g2)
   ·have:=h.len;omega
  ·rcases Q0 f2 with ⟨hj,g2⟩ | ⟨hj,g2⟩
   ·have:=h.len;omega
   ·subst g1 g2
    rw[g6 npa]
    exact ep
 ·rcases h9.mp hx with q | q
  ·exact h.new.2 x q
  ·rw[c7.mp q];exact fr0
theorem c0X{t u:Nat}{l l':List Nat}(h:(M.set t l)[u]? = some l'):(u=t/\l'=l)\/(u≠t/\M[u]? = some l'):=by
 by_cases e:u=t
 ·subst e
  have hl:=(gI h)
  rw[a0K]at hl
  rw[I0 hl]at h
  exact .inl ⟨rfl,(Option.some.inj h).symm⟩
 ·rw[K7 (Ne.symm e)]at h
  exact .inr ⟨e,h⟩
theorem b6o{K:Fg}{E:XK}(hn:D8 H na N)(h400:N.length<=400)(h2:∀l∈N,l.length<=2)(hlt:∀l∈N,∀t∈l,t<N.length)
  (k:∀a M H',D8 H' a M->M.length=N.length->(∀(p:Nat) (l:List Nat),N[p]? = some l->∀t∈l,∃l',M[t]? = some l'/\p∈l')->(∀l∈M,l.length<=2 * N.length/\∀p∈l,p<N.length)->o6 H H'->Q (.ref a) H'):a4A K [.ref na] H Q E:=by
 obtain⟨ns,a1,a2,a3⟩:=id hn.ex
 refine⟨rfl,?_⟩
 unfold b2g
 exact_mod_cast X7 ?_
 specialize W0 (O7 ?_)
 refine⟨na,rfl,⟨_,SqL.of a1⟩,fun A hA=>?_⟩
 refine W3 (xs:=ns.map V.ref) (fun i ys H2=>∃as,ys=as.map V.ref/\a4t H H2 A as (z8 i [])) ?_ ?_ ?_ ?_ ?_
 ·exact⟨[],rfl,.nil hA (t8 hA) c9⟩
 ·rintro i ys H2 ⟨as,rfl,I⟩
  exact I.h
 ·rintro i ys H2 _ ⟨as,rfl,I⟩
  exact SqL.of (I.same _ _ a1)
 ·rintro i x ys H2 hx ⟨as,rfl,I⟩ R hR
  have hi:i<N.length:=by
   have:=(gI hx)
   rw[a9,a2]at this
   exact this
  ext
  refine C4 (by simp) fun p H3 hp e3 s3=>?_
  have:=I.len
  rw[E1]at this
  refine hR _ _ (s3 _ _ I.h) (G9 (by rw[a9];omega)) ⟨as++[p],by simp,?_⟩
  have q:=I.snoc hp e3 s3
  rw[show z8 i ([]:List Nat)++[[]]=z8 (i+1) [] from by rw[a5O]]at q
  rw[show as.map V.ref++[V.ref p]=(as++[p]).map V.ref by simp]
  exact q
 rintro ys H2 ⟨as,rfl,I2⟩
 rw[a9,a2]at I2
 ext
 exact_mod_cast X7 ?_
 specialize Z9 (a7I ?_)
 refine⟨na,rfl,⟨_,SqL.of (I2.same _ _ a1)⟩,?_⟩
 refine b5N N.length (fun i σ H3=>∃x2 x3 x4 M,σ=[some (.ref na),some (.ref A),x2,x3,x4]/\a4t H H3 A as M/\M.length=N.length/\(∀(p:Nat) (l:List Nat),p<i->N[p]? = some l->∀t∈l,∃l',M[t]? = some l'/\p∈l')/\(∀l∈M,l.length<=2 * i/\∀p∈l,p<N.length)) ?_ ?_ ?_ ?_
 ·exact⟨_,_,_,_,rfl,I2,by simp,by omega,fun l hl=>by rw[List.eq_of_mem_replicate hl];simp⟩
 ·rintro _ H3 ⟨x2,x3,x4,M,rfl,I3,lM,g1,g2⟩
  exists ⟨⟨_,SqL.of (I3.same _ _ a1),by rw[a9,a2];exact d3 _⟩,?_⟩
  exact k A M H3 I3.net lM (fun p l hl=>g1 p l (gI hl) hl) g2 I3.same
 ·rintro i _ H3 hi ⟨x2,x3,x4,M,rfl,I3,lM,g1,g2⟩
  exact⟨_,_,SqL.of (I3.same _ _ a1),by rw[b7,c8 (show i<ns.length by omega)];rfl⟩
 ·rintro i _ H3 hi ⟨x2,x3,x4,M,rfl,I3,lM,g1,g2⟩ x H4 ⟨p,y,hp,rfl,rfl,gy⟩
  obtain⟨nx,e1⟩:∃nx,ns[i]? = some nx:=⟨_,c8 (by omega)⟩
  have gy:=gy _ (SqL.of (I3.same _ _ a1))
  rw[b7,e1]at gy
  cases gy
  refine a3m (SqT.of c9) ?_
  have s4:o6 H3 (upd H3 p (.tup [V.int (i:Int),V.ref nx])):=t8 hp
  obtain⟨H4,hH4⟩:∃H4,H4=upd H3 p (.tup [V.int (i:Int),V.ref nx]):=⟨_,rfl⟩
  rw[<-hH4]at s4 ⊢
  have I4:=I3.next s4
  have hl:=N4 hi
  obtain⟨l,hle⟩:∃l,l=N[i]:=⟨_,rfl⟩
  rw[<-hle]at hl
  have hx:H nx=some (.lst (IL l)):=a3 i nx l e1 hl
  have hll:=h2 l (mI hl)
  specialize Z9 (O7 ?_)
  refine⟨nx,rfl,⟨_,SqL.of (I4.same _ _ hx)⟩,Y9 (xs:=IL l) (fun j σ H5=>∃x4 M',σ=[some (.ref na),some (.ref A),some (.int (i:Int)),some (.ref nx),x4]/\a4t H H5 A as M'/\M'.length=N.length/\(∀(p:Nat) (l:List Nat),p<i->N[p]? = some l->∀t∈l,∃l',M'[t]? = some l'/\p∈l')/\(∀t∈l.take j,∃l',M'[t]? = some l'/\i∈l')/\(∀l∈M',l.length<=2 * i+j/\∀p∈l,p<N.length)) ?_ ?_ ?_ ?_⟩
  ·exact⟨_,M,rfl,I4,lM,g1,by simp,g2⟩
  ·rintro j σ H5 _ ⟨_,_,_,I5,_⟩
   exact SqL.of (I5.same _ _ hx)
  ·rintro j y _ H5 hy ⟨x4,M',rfl,I5,lM',c1,c2,c3⟩
   have hy:(l.map fun(n:Nat)=>V.int (n:Int))[j]? = some y:=hy
   rw[b7]at hy
   cases ht:l[j]? with
   | none=>rw[ht]at hy;cases hy
   | some t=>
    rw[ht]at hy
    cases hy
    have tm:=mI ht
    have hj:=(gI ht)
    have htn:t<N.length:=hlt l (mI hl) t tm
    ext
    obtain⟨z,hz⟩:∃z,as[t]? = some z:=⟨_,c8 (by have:=I5.len;omega)⟩
    have hMt:=N4 (show t<M'.length by omega)
    have hMz:=I5.at_ t z _ hz hMt
    specialize a7x ?_
    refine O6 I5.h (a1E (by rw[b7,hz];rfl)) ?_
    exists ⟨Z1 hMz,?_⟩
    have hb:=c3 _ (y9 (show t<M'.length by omega))
    refine a1m hMz (G9 (by rw[U9];omega)) ?_
    refine⟨_,M'.set t (M'[t]++[i]),rfl,?_,by rw[a0K];exact lM',?_,?_,?_⟩
    ·have:=I5.add (p:=i) hz hMt
     rw[show IL M'[t]++[V.int (i:Int)]=IL (M'[t]++[i]) by simp[IL]]
     exact this
    ·intro p' l' hp' hl' u hu
     obtain⟨l'',q1,q2⟩:=c1 p' l' hp' hl' u hu
     by_cases e:u=t
     ·subst e
      rw[hMt]at q1
      cases q1
      exact⟨_,I0 (by omega),E8 _ q2⟩
     ·exact⟨l'',by rw[K7 (Ne.symm e)];exact q1,q2⟩
    ·intro u hu
     rw[G5,ht]at hu
     by_cases e:u=t
     ·subst e
      exact⟨_,I0 (by omega),by simp⟩
     ·rcases h9.mp hu with q | q
      ·obtain⟨l'',q1,q2⟩:=c2 u q
       exact⟨l'',by rw[K7 (Ne.symm e)];exact q1,q2⟩
      ·exact absurd (by simpa using q) e
    ·intro l' hl'
     obtain⟨u,hu⟩:=C3.mp hl'
     rcases c0X hu with ⟨_,rfl⟩ | ⟨_,q⟩
     ·refine⟨by rw[j3,O3];omega,fun p' hp'=>?_⟩
      rcases h9.mp hp' with q | q
      ·exact hb.2 p' q
      ·rw[c7.mp q];exact hi
     ·obtain⟨r1,r2⟩:=c3 l' (mI q)
      exact⟨by omega,r2⟩
  ·rintro _ H5 ⟨x4,M',rfl,I5,lM',c1,c2,c3⟩
   rw[U9,F5]at c2
   refine⟨_,_,x4,M',rfl,I5,lM',fun p' l' hp' hl' t ht=>?_,fun l' hl'=>?_⟩
   ·by_cases e:p'=i
    ·subst e
     rw[hl]at hl'
     cases hl'
     exact c2 t ht
    ·exact c1 p' l' (by omega) hl' t ht
   ·obtain⟨r1,r2⟩:=c3 l' hl'
    rw[U9]at r1
    exact⟨by omega,r2⟩
theorem a8B{K:Fg}{ba la:Addr}{bs:List Nat}{B:Nat}{E:XK}(hb:H ba=some (.lst (IL bs)))(hm:D8 H la M)(h400:M.length<=400)(hB:B<=800)(hl:∀l∈M,l.length<=B/\∀t∈l,t<M.length)(hbs:∀x∈bs,x<M.length)(lb:bs.length<=400)
  (k:∀d S H',H' d=some (.dK (KS S))->S.Nodup->(∀x∈S,x<M.length)->(∀x∈bs,x∈S)->a5L M S->o6 H H'->Q (.ref d) H'):a1U K [.ref ba,.ref la] H Q E:=by
 refine⟨rfl,?_⟩
 unfold a9X
 nofun
 exists b4k fun d H1 hd e1 s1=>?_
 nofun
 exists a4F (s1 _ _ hb) fun w H2 hw e2 s2=>?_
 have s02:=s1.trans s2
 have hw0:H w=none:=s1.free hw
 have ndw:d≠w:=d5 e1 hw
 exact_mod_cast X7 ?_
 exact_mod_cast b0T ?_
 refine⟨fun m σ H3=>∃x4 ws S,σ=[some (.ref ba),some (.ref la),some (.ref d),some (.ref w),x4]/\H3 w=some (.lst (IL ws))/\H3 d=some (.dK (KS S))/\o6 H H3/\S.Nodup/\(∀x∈S,x<M.length)/\(∀x∈ws,x<M.length) /\
  (∀x∈bs,x∈S\/x∈ws)/\(∀k∈S,∀l,M[k]? = some l->∀t∈l,t∈S\/t∈ws)/\ws.length<=400+S.length * B/\m=(M.length - S.length) * (B+1)+ws.length,?_,?_⟩
 ·exact⟨_,_,bs,[],rfl,e2,s2 _ _ e1,s02,by simp,by simp,hbs,fun x hx=>.inr hx,by simp,by omega,rfl⟩
 rintro m _ H3 ⟨x4,ws,S,rfl,hw3,hd3,s3,nd,hS,hws,c1,c2,c3,rfl⟩
 ext
 exists Q1 hw3 ?_
 have hSl:=a8N _ _ nd hS
 rcases b4a ws with rfl | ⟨r,p,rfl⟩
 ·exists y0 (c8T (by rw[U9];simp)) ?_
  refine k d S H3 hd3 nd hS (fun x hx=>(c1 x hx).elim id fun z=>by simp at z) (fun a ha l hl' t ht=>(c2 a ha l hl' t ht).elim id fun z=>by simp at z) s3
 refine F4 (c8U (by rw[U9,j3,O3];omega)) ?_
 have hp:p<M.length:=hws p (by simp)
 have eIL:IL (r++[p])=IL r++[V.int (p:Int)]:=by simp[IL]
 rw[eIL]at hw3
 refine⟨fun σ H4=>∃m' x4 ws S',σ=[some (.ref ba),some (.ref la),some (.ref d),some (.ref w),x4]/\H4 w=some (.lst (IL ws))/\H4 d=some (.dK (KS S'))/\o6 H H4/\S'.Nodup/\(∀x∈S',x<M.length)/\(∀x∈ws,x<M.length) /\
  (∀x∈bs,x∈S'\/x∈ws)/\(∀k∈S',∀l,M[k]? = some l->∀t∈l,t∈S'\/t∈ws)/\ws.length<=400+S'.length * B/\m'=(M.length - S'.length) * (B+1)+ws.length/\m'<(M.length - S.length) * (B+1)+(r++[p]).length,?_,?_⟩
 ·rintro σ' H4 ⟨m',x4,ws,S',e,r1,r2,r3,r4,r5,r6,r7,r8,r9,r10,r11⟩
  exact⟨m',r11,x4,ws,S',e,r1,r2,r3,r4,r5,r6,r7,r8,r9,r10⟩
 nofun
 specialize c6m ?_
 exists ⟨Z1 hw3,c6t hw3 ?_⟩
 have sW:o6 H (upd H3 w (.lst (IL r))):=fun b o e=>by rw[g6 (d5 e hw0)];exact s3 b o e
 have hdW:(upd H3 w (.lst (IL r))) d=some (.dK (KS S)):=by rw[g6 ndw];exact hd3
 have hwW:(upd H3 w (.lst (IL r))) w=some (.lst (IL r)):=c9
 obtain⟨H4,hH4⟩:∃H4,H4=upd H3 w (.lst (IL r)):=⟨_,rfl⟩
 rw[<-hH4]at sW hdW hwW ⊢
 rw[j3,O3]at c3 ⊢
 specialize a8A ?_
 obtain⟨o,g1,g2⟩:=a4J hdW p
 refine⟨d,o,rfl,g1,?_⟩
 rw[g2]
 ext
 by_cases hps:p∈S
 ·exists y0 (by rw[c8U hps];rfl) ?_
  refine⟨_,_,r,S,rfl,hwW,hdW,sW,nd,hS,fun x hx=>hws x (E8 _ hx),fun x hx=>?_,fun a ha l hl' t ht=>?_,by omega,rfl,by omega⟩
  ·rcases c1 x hx with z | z
   ·exact .inl z
   ·rcases h9.mp z with q | q
    ·exact .inr q
    ·exact .inl (c7.mp q ▸ hps)
  ·rcases c2 a ha l hl' t ht with z | z
   ·exact .inl z
   ·rcases h9.mp z with q | q
    ·exact .inr q
    ·exact .inl (c7.mp q ▸ hps)
 refine F4 (by rw[c8T hps];rfl) ?_
 obtain⟨xs,y,f1,f2,f3,_⟩:=(hm.same sW).at (N4 hp)
 obtain⟨l,hle⟩:∃l,l=M[p]:=⟨_,rfl⟩
 have hlp:M[p]? = some l:=by rw[hle];exact N4 hp
 rw[<-hle]at f3
 obtain⟨b1,b2⟩:=hl l (mI hlp)
 have hput:a4f S p=S++[p]:=by unfold a4f;rw[if_neg hps]
 have hS1:S.length<M.length:=by
  have:=a8N _ _ (a7M (k:=p) nd) fun x hx=>(Y8.mp hx).elim (hS x) fun z=>z ▸ hp
  rw[hput,j3,O3]at this
  omega
 exact_mod_cast X7 ?_
 specialize a8z ?_
 refine⟨d,_,rfl,b1w hdW (by omega) p,?_⟩
 rw[hput]
 obtain⟨H5,hH5⟩:∃H5,H5=upd H4 d (.dK (KS (S++[p]))):=⟨_,rfl⟩
 have hd5:H5 d=some (.dK (KS (S++[p]))):=hH5 ▸ c9
 have oth:∀b o,H4 b=some o->b≠d->H5 b=some o:=fun b o e n=>by rw[hH5,g6 n];exact e
 have s5:o6 H H5:=fun b o e=>oth b o (sW b o e) (d5 e hd)
 rw[<-hH5]
 have hw5:=oth w _ hwW (Ne.symm ndw)
 have fx5:=oth _ _ f1 (L1 f1 hdW (by intro z;cases z))
 have fy5:=oth _ _ f3 (L1 f3 hdW (by intro z;cases z))
 ext
 specialize a7x ?_
 exists ⟨Z1 hw5,?_⟩
 refine O6 fx5 f2 ?_
 have hSB:S.length * B<=400 * 800:=Nat.mul_le_mul (by omega) hB
 ext
 refine a8C hw5 fy5 (big (by rw[U9,U9];omega)) ?_
 have e6:IL r++IL l=IL (r++l):=by simp[IL]
 rw[e6]
 ext
 have key:(M.length - (S.length+1)) * (B+1)+(B+1)=(M.length - S.length) * (B+1):=by
  rw[<-Nat.succ_mul]
  congr 1
  omega
 refine⟨_,_,r++l,S++[p],rfl,c9,by rw[g6 ndw];exact hd5,fun b o e=>by rw[g6 (d5 e hw0)];exact s5 b o e,hput ▸ a7M nd,fun x hx=>?_,fun x hx=>?_,fun x hx=>?_,fun a ha l' hl' t ht=>?_,?_,rfl,?_⟩
 ·rcases h9.mp hx with q | q
  ·exact hS x q
  ·rw[c7.mp q];exact hp
 ·rcases h9.mp hx with q | q
  ·exact hws x (E8 _ q)
  ·exact b2 x q
 ·rcases c1 x hx with z | z
  ·exact .inl (E8 _ z)
  ·rcases h9.mp z with q | q
   ·exact .inr (E8 _ q)
   ·exact .inl (o7 _ q)
 ·rcases h9.mp ha with q | q
  ·rcases c2 a q l' hl' t ht with z | z
   ·exact .inl (E8 _ z)
   ·rcases h9.mp z with u | u
    ·exact .inr (E8 _ u)
    ·exact .inl (o7 _ u)
  ·rw[c7.mp q,hlp]at hl'
   cases hl'
   exact .inr (o7 _ ht)
 ·rw[j3,j3,O3,Nat.succ_mul]
  omega
 ·rw[j3,j3,O3]
  omega
theorem a9M{K:Fg}{E:XK}(hn:D8 H na N)(hv:a2Z N)(k:∀H',o6 H H'->Q .non H'):a0Z K [.ref na] H Q E:=by
 refine⟨rfl,?_⟩
 unfold a5X
 nofun
 exists C4 (by simp) fun p1 H1 hp1 e1 s1=>?_
 exists a8B (bs:=[0]) (B:=2) e1 (hn.same s1) hv.le (by decide) (fun l hl=>⟨hv.two l hl,hv.lt l hl⟩) (by simpa using hv.pos) (by simp) fun d1 S1 H2 hd1 nd1 hS1 hb1 cl1 s2=>?_
 have in1:∀x,Rc N x->x∈S1:=by
  intro x h
  induction h with
  | zero=>exact hb1 0 (by simp)
  | @step a t l _ hl ht ih=>exact cl1 a ih l hl t ht
 nofun
 exists b2n ((hn.same s1).same s2) hv.le fun sa H3 _ e3 s3=>?_
 exists b6o (((hn.same s1).same s2).same s3) hv.le hv.two hv.lt fun ta M H4 m4 lM hM1 hM2 s4=>?_
 have lst:(b0L N).length<=N.length:=by
  have:=a5h (a4n N) (z5 N.length)
  rwa [G6]at this
 have hle:=hv.le
 refine a8B (bs:=b0L N) (B:=2 * N.length) (s4 _ _ e3) m4 (by omega) (by omega) (fun l hl=>⟨(hM2 l hl).1,by rw[lM];exact(hM2 l hl).2⟩) (fun x hx=>by
  rw[lM]
  exact a0d.mp (a4T.mp hx).1) (by omega) fun d2 S2 H5 hd2 nd2 hS2 hb2 cl2 s5=>?_
 have in2:∀x,Gd N x->x∈S2:=by
  intro x h
  induction h with
  | @stop a h=>exact hb2 a (b7a h)
  | @step a t l h ht _ ih=>
   obtain⟨l',q1,q2⟩:=hM1 a l h t ht
   exact cl2 t ih l' q1 a q2
 have s05:=(((s1.trans s2).trans s3).trans s4).trans s5
 have hd1':H5 d1=_:=s5 _ _ (s4 _ _ (s3 _ _ hd1))
 obtain⟨ys,hy,ly⟩:=(hn.same s05).len
 ext
 specialize Z9 (a1s ?_)
 refine Q1 hy ?_
 refine⟨N.length,by rw[ly],by omega,by omega,?_⟩
 rw[i9]
 refine a0V (fun i σ H6=>∃x3,σ=[some (.ref na),some (.ref d1),some (.ref d2),x3]/\H6=H5) ⟨_,rfl,rfl⟩ ?_ ?_
 ·rintro i _ H6 hi ⟨x3,rfl,rfl⟩
  ext
  rw[X9]
  specialize a8A ?_
  obtain⟨o,g1,g2⟩:=a4J hd1' i
  refine⟨d1,o,rfl,g1,?_⟩
  rw[g2,c8U (in1 i (hv.rc i hi))]
  ext
  exists y0 rfl ?_
  specialize a8A ?_
  obtain⟨o',g1',g2'⟩:=a4J hd2 i
  refine⟨d2,o',rfl,g1',?_⟩
  rw[g2',c8U (in2 i (hv.gd i hi))]
  ext
  exists y0 rfl ?_
  exact⟨_,rfl,rfl⟩
 ·rintro _ H6 ⟨x3,rfl,rfl⟩
  exact k _ s05
abbrev Stp:=Int×Int
def FST:Stp:=(-1,0)
def a3h(N:Nt)(p:Nat):List Stp:=(z5 (N.getD p []).length).map fun(a:Nat)=>((p:Int),(a:Int))
def a5o(N:Nt)(i:Nat):List Stp:=FST::(z5 i).flatMap (a3h N)
def a1T(N:Nt):List Stp:=a5o N N.length
def a2v(N:Nt)(s:Stp):Nat:=if s=FST then 0 else (N.getD s.1.toNat []).getD s.2.toNat 0
theorem a7p(N:Nt)(i:Nat):a5o N (i+1)=a5o N i++a3h N i:=by
 unfold a5o
 rw[a0J,List.flatMap_append]
 simp
def a9l(N:Nt)(s:Stp):Prop:=s=FST\/∃(p q:Nat) (l:List Nat) (t:Nat),s=((p:Int),(q:Int))/\N[p]? = some l/\l[q]? = some t
theorem b7h{s:Stp}(h:s∈a1T N):a9l N s:=by
 rcases d8.mp h with z | z
 ·exact .inl z
 ·obtain⟨p,hp,q⟩:=List.mem_flatMap.mp z
  have hp:=a0d.mp hp
  obtain⟨a,ha,rfl⟩:=q9.mp q
  have ha:=a0d.mp ha
  have e:N.getD p []=N[p]:=by simp[M9,hp]
  rw[e]at ha
  exact .inr ⟨p,a,N[p],N[p][a],rfl,N4 hp,by simp⟩
theorem c2l{s:Stp}(hv:a2Z N)(h:a9l N s):a2v N s<N.length:=by
 unfold a2v
 rcases h with rfl | ⟨p,q,l,t,rfl,h1,h2⟩
 ·rw[if_pos rfl];exact hv.pos
 ·split
  ·exact hv.pos
  ·have:(N.getD ((p:Int),(q:Int)).1.toNat []).getD ((p:Int),(q:Int)).2.toNat 0=t:=by
    show(N.getD (p:Int).toNat []).getD (q:Int).toNat 0=t
    rw[i9,i9]
    simp[M9,h1,h2]
   rw[this]
   exact hv.lt l (mI h1) t (mI h2)
def a5g(K:Fg)(H:Hp)(a:Addr)(s:Stp):Prop:=H a=some (.tup [.int s.1,.int s.2])\/(s=FST/\∀H,SqT K H a [.int (-1),.int 0])
theorem a5g.ts{K:Fg}{s:Stp}(h:a5g K H a s)(t:G7 H H'):a5g K H' a s:=by
 rcases h with h | h
 ·exact .inl (t _ _ h)
 ·exact .inr h
theorem a5g.sq{K:Fg}{s:Stp}(h:a5g K H a s):SqT K H a [.int s.1,.int s.2]:=by
 rcases h with h | ⟨e,h⟩
 ·exact SqT.of h
 ·subst e;exact h H
structure a0I(K:Fg)(H:Hp)(l:Addr)(S:List Stp):Prop where
 ex:∃vs:List Addr,H l=some (.lst (vs.map V.ref))/\vs.length=S.length/\∀(i:Nat) x s,vs[i]? = some x->S[i]? = some s->a5g K H x s
theorem a0I.same{K:Fg}{S:List Stp}(h:a0I K H l S)(s:o6 H H'):a0I K H' l S:=by
 obtain⟨vs,h1,h2,h3⟩:=h.ex
 exact⟨vs,s _ _ h1,h2,fun i x t e1 e2=>(h3 i x t e1 e2).ts (o6.ts s)⟩
theorem a0I.put{K:Fg}{y:Addr}{S:List Stp}(h:a0I K H l S)(hy:H y=some (.lst xs))(n:l≠y):a0I K (upd H y (.lst ys)) l S:=by
 obtain⟨vs,h1,h2,h3⟩:=h.ex
 exact⟨vs,by rw[g6 n];exact h1,h2,fun i x t e1 e2=>(h3 i x t e1 e2).ts (G7.put hy)⟩
theorem b2o{K:Fg}{c:Cn}{E:XK}(ck:a7D K c)(hn:D8 H na N)(h400:N.length<=400)(h2:∀l∈N,l.length<=2)
  (k:∀a H',H a=none->a0I K H' a (a1T N)->o6 H H'->Q (.ref a) H'):a2n K c [.ref na] H Q E:=by
 obtain⟨ns,a1,a2,a3⟩:=id hn.ex
 refine⟨rfl,?_⟩
 unfold a8f
 nofun
 exists C4 (by simp) fun D H1 hD e1 s1=>?_
 exact_mod_cast X7 ?_
 specialize Z9 (a7I ?_)
 refine⟨na,rfl,⟨_,SqL.of (s1 _ _ a1)⟩,?_⟩
 refine b5N N.length (fun i σ H2=>∃x2 x3 vs,σ=[some (.ref na),some (.ref D),x2,x3]/\H2 D=some (.lst ((vs:List Addr).map V.ref))/\vs.length=(a5o N i).length/\vs.length<=1+2 * i/\(∀(j:Nat) x s,vs[j]? = some x->(a5o N i)[j]? = some s->a5g K H2 x s)/\o6 H H2) ?_ ?_ ?_ ?_
 ·refine⟨_,_,[c.a0N],rfl,e1,rfl,by simp,fun j x s f1 f2=>?_,s1⟩
  cases j with
  | zero=>
   cases f1
   cases f2
   exact .inr ⟨rfl,ck.a6B⟩
  | succ j=>simp at f1
 ·rintro _ H2 ⟨x2,x3,vs,rfl,hD2,lv,_,at2,s2⟩
  exists ⟨⟨_,SqL.of (s2 _ _ a1),by rw[a9,a2];exact d3 _⟩,?_⟩
  exact k D H2 hD ⟨vs,hD2,lv,at2⟩ s2
 ·rintro i _ H2 hi ⟨x2,x3,vs,rfl,hD2,lv,_,at2,s2⟩
  exact⟨_,_,SqL.of (s2 _ _ a1),by rw[b7,c8 (show i<ns.length by omega)];rfl⟩
 ·rintro i _ H2 hi ⟨x2,x3,vs,rfl,hD2,lv,lv2,at2,s2⟩ x H3 ⟨p,y,hp,rfl,rfl,gy⟩
  obtain⟨nx,f1⟩:∃nx,ns[i]? = some nx:=⟨_,c8 (by omega)⟩
  have gy:=gy _ (SqL.of (s2 _ _ a1))
  rw[b7,f1]at gy
  cases gy
  refine a3m (SqT.of c9) ?_
  have s3:o6 H2 (upd H2 p (.tup [V.int (i:Int),V.ref nx])):=t8 hp
  obtain⟨H3,hH3⟩:∃H3,H3=upd H2 p (.tup [V.int (i:Int),V.ref nx]):=⟨_,rfl⟩
  rw[<-hH3]at s3 ⊢
  have s03:=s2.trans s3
  have hl:=N4 hi
  obtain⟨l,hle⟩:∃l,l=N[i]:=⟨_,rfl⟩
  rw[<-hle]at hl
  have hll:=h2 l (mI hl)
  have hx:=s03 _ _ (a3 i nx l f1 hl)
  ext
  specialize a7x ?_
  exists ⟨Z1 (s3 _ _ hD2),?_⟩
  specialize W0 (a1s ?_)
  refine Q1 hx ?_
  rw[U9]
  refine⟨l.length,rfl,by omega,by omega,fun A hA=>?_⟩
  rw[i9]
  refine a4q (fun j ys H4=>∃ws:List Addr,ys=ws.map V.ref/\ws.length=j/\(∀(q:Nat) x,ws[q]? = some x->H4 x=some (.tup [.int (i:Int),.int (q:Int)]))/\H4 A=some (.lst ys)/\o6 H3 H4) ?_ ?_ ?_ ?_
  ·exact⟨[],rfl,rfl,by simp,c9,t8 hA⟩
  ·rintro j ys H4 ⟨_,_,_,_,h,_⟩
   exact h
  ·rintro j ys H4 hj ⟨ws,rfl,lw,at4,hA4,s4⟩ R hR
   ext
   refine C4 (by simp) fun z H5 hz e5 s5=>?_
   rw[X9]at e5
   have nzA:z≠A:=(d5 hA4 hz).symm
   refine hR _ _ (s5 _ _ hA4) (G9 (by rw[a9];omega)) ⟨ws++[z],by simp,by simp[lw],fun q x hq=>?_,c9,fun b o e=>?_⟩
   ·rcases Q0 hq with ⟨_,g⟩ | ⟨hq',g⟩
    ·have:=s5 _ _ (at4 q x g)
     rw[g6 (L1 this (s5 _ _ hA4) (by intro z;cases z))]
     exact this
    ·subst g
     rw[g6 nzA,e5,hq',lw]
   ·rw[g6 (d5 e hA)];exact s5 _ _ (s4 _ _ e)
  ·rintro ys H4 ⟨ws,rfl,lw,at4,hA4,s4⟩
   ext
   have hD4:H4 D=_:=s4 _ _ (s3 _ _ hD2)
   have s04:=s03.trans s4
   refine a8C hD4 hA4 (big (by rw[a9,a9];omega)) ?_
   rw[<-t9]
   have hon:a3h N i=(z5 l.length).map fun(a:Nat)=>((i:Int),(a:Int)):=by
    unfold a3h
    simp[M9,hl]
   have hU:=a7p N i
   have lon:(a3h N i).length=l.length:=by rw[hon];simp
   refine⟨_,_,vs++ws,rfl,c9,by rw[hU,j3,j3,lv,lw,lon],by rw[j3];omega,fun j x s g1 g2=>?_,fun b o e=>?_⟩
   ·rw[hU]at g2
    by_cases hj:j<vs.length
    ·rw[O2 hj]at g1
     rw[O2 (by omega)]at g2
     exact((at2 j x s g1 g2).ts (o6.ts (s3.trans s4))).ts (G7.put hD4)
    ·rw[M4 (by omega)]at g1
     rw[M4 (by omega),<-lv,hon,b7]at g2
     have hq:j - vs.length<l.length:=by
      have:=(gI g1)
      omega
     rw[a0v hq]at g2
     cases g2
     have:=at4 _ _ g1
     exact .inl (by rw[g6 (L1 this hD4 (by intro z;cases z))];exact this)
   ·rw[g6 (d5 e hD)];exact s04 _ _ e
def c7b(c:Cn)(H:Hp)(x:Addr)(N:Nt):Prop:=∃dx fs n,H x=some (.ins c.P0 dx fs)/\fs.lookup ("nexts" : Str)=some (V.ref n)/\D8 H n N
theorem eq2(p q:Int):Q3 [.int p,.int q] [.int (-1),.int 0]=decide ((p,q)=FST):=by
 unfold Q3
 simp only[y8,a4U,Nat.zero_add,Nat.reduceAdd,a9r]
 rw[show z5 2=[0,1] from rfl]
 simp only[b3J,c7n,b3K,M9,a3S,List.getElem?_cons_succ,a3K,beq_self_eq_true]
 unfold FST
 by_cases h:p = -1
 ·by_cases h':q=0
  ·subst h h';decide
  ·subst h
   simp[eqV,h']
 ·simp[eqV,h]
theorem b2W{K:Fg}{c:Cn}{x:Addr}{s:Stp}{E:XK}(ck:a7D K c)(hp:c7b c H x N)(ha:a5g K H a s)(hs:a9l N s)(k:Q (.int (a2v N s:Nat)) H):Z2 K c [.ref x,.ref a] H Q E:=by
 refine⟨rfl,?_⟩
 unfold a3H
 nofun
 refine⟨_,_,_,_,rfl,rfl,ha.sq,ck.a6B H,rfl,rfl,?_⟩
 rw[eq2]
 ext
 by_cases e:s=FST
 ·exists F4 (c8U e) ?_
  unfold a2v at k
  rw[if_pos e]at k
  exact k
 ·exists y0 (c8T e) ?_
  rcases hs with z | ⟨p,q,l,t,rfl,h1,h2⟩
  ·exact(e z).elim
  rcases ha with ha | ⟨z,_⟩
  rotate_left
  ·exact(e z).elim
  obtain⟨dx,fs,n,hx,hf,hn⟩:=hp
  specialize b5r ?_
  exists ⟨x,_,dx,fs,_,rfl,hx,ck.a0O,ck.a0h,hf,?_⟩
  refine J7 ha (a2d _ _) ?_
  obtain⟨xs,y,f1,f2,f3,_⟩:=hn.at h1
  exists O6 f1 f2 ?_
  refine J7 ha (a3O _ _ _) ?_
  refine O6 f3 (c7c h2) ?_
  have:a2v N ((p:Int),(q:Int))=t:=by
   unfold a2v
   rw[if_neg e]
   show(N.getD (p:Int).toNat []).getD (q:Int).toNat 0=t
   rw[i9,i9]
   simp[M9,h1,h2]
  rw[this]at k
  exact k
structure c0v(K:Fg)(H0 H:Hp)(e:Addr)(es:List Addr)(P:List (List Stp)):Prop where
 same:o6 H0 H
 h:H e=some (.lst (es.map V.ref))
 len:es.length=P.length
 nd:es.Nodup
 na:e∉es
 at_:∀(i:Nat) y S,es[i]? = some y->P[i]? = some S->a0I K H y S
 new:H0 e=none/\∀y∈es,H0 y=none
theorem c0v.add{K:Fg}{e:Addr}{es:List Addr}{P:List (List Stp)}(h:c0v K H0 H e es P){t:Nat}{y:Addr}{S:List Stp}{s:Stp}{vs:List Addr}(e1:es[t]? = some y)(e2:P[t]? = some S)(hy:H y=some (.lst (vs.map V.ref)))
  (lv:vs.length=S.length) (at2:∀(i:Nat) x s,vs[i]? = some x->S[i]? = some s->a5g K H x s) (ha:a5g K H a s):c0v K H0 (upd H y (.lst ((vs++[a]).map V.ref))) e es (P.set t (S++[s])):=by
 have hm:=mI e1
 have ye:y≠e:=fun z=>h.na (z ▸ hm)
 refine⟨fun b o q=>by rw[g6 (d5 q (h.new.2 y hm))];exact h.same b o q,by rw[g6 ye.symm];exact h.h,by rw[a0K];exact h.len,h.nd,h.na,fun i z S' f1 f2=>?_,h.new⟩
 by_cases q:i=t
 ·subst q
  rw[e1]at f1
  cases f1
  rw[I0 (gI e2)]at f2
  cases f2
  refine⟨vs++[a],c9,by simp[lv],fun j x s' g1 g2=>?_⟩
  rcases Q0 g1 with ⟨_,k1⟩ | ⟨j1,k1⟩
  ·rcases Q0 g2 with ⟨_,k2⟩ | ⟨j2,k2⟩
   ·exact(at2 j x s' k1 k2).ts (G7.put hy)
   ·omega
  ·rcases Q0 g2 with ⟨_,k2⟩ | ⟨j2,k2⟩
   ·omega
   ·subst k1 k2
    exact ha.ts (G7.put hy)
 ·rw[K7 (Ne.symm q)]at f2
  have:z≠y:=by
   rintro rfl
   exact q (c3n h.nd f1 e1)
  exact(h.at_ i z S' f1 f2).put hy this
structure c7L(K:Fg)(c:Cn)(H:Hp)(x:Addr)(N:Nt):Prop where
 ex:∃dx r n e es,H x=some (.ins c.P0 dx [("rows",.ref r),("nexts",.ref n),("entries",.ref e)])/\O8 H r N/\D8 H n N/\H e=some (.lst ((es:List Addr).map V.ref))/\es.length=N.length /\
  ∀(t:Nat) y,es[t]? = some y->a0I K H y ((a1T N).filter fun s=>decide (a2v N s=t))
structure c0r(K:Fg)(c:Cn)(Z:Addr->Prop)(rs:List Addr)(H:Hp)(x:Addr)(N:Nt):Prop where
 ex:∃dx r n e es ns,H x=some (.ins c.P0 dx [("rows",.ref r),("nexts",.ref n),("entries",.ref e)])/\(O8 H r N/\H r=some (.lst (rs.map V.ref)))/\H n=some (.lst ((ns:List Addr).map V.ref))/\ns.length=N.length/\(∀(i:Nat) y l,ns[i]? = some y->N[i]? = some l->H y=some (.lst (IL l))) /\
  H e=some (.lst ((es:List Addr).map V.ref))/\es.length=N.length/\(∀(t:Nat) y,es[t]? = some y->a0I K H y ((a1T N).filter fun s=>decide (a2v N s=t)))/\∀z,Z z->z≠r/\z≠n/\z≠e/\z∉ns/\z∉es
theorem D8.ins{H:Hp}{a x C dx:Addr}{N:Nt}{fs:List (Str×V)}{o:HO}(h:D8 H a N)(hx:H x=some (.ins C dx fs)):D8 (upd H x o) a N:=by
 obtain⟨as,q1,q2,q3⟩:=h.ex
 exact⟨as,by rw[g6 (L1 q1 hx (by intro z;cases z))];exact q1,q2,fun j y l e1 e2=>by
  have q:=q3 j y l e1 e2
  rw[g6 (L1 q hx (by intro z;cases z))];exact q⟩
theorem G7.ins{H:Hp}{x C dx:Addr}{fs:List (Str×V)}{o:HO}(hx:H x=some (.ins C dx fs)):G7 H (upd H x o):=fun a xs e=>by
 rw[g6 (L1 e hx (by intro z;cases z))];exact e
theorem O8.ins{H:Hp}{a x C dx:Addr}{N:Nt}{fs:List (Str×V)}{o:HO}(h:O8 H a N)(hx:H x=some (.ins C dx fs)):O8 (upd H x o) a N:=by
 obtain⟨as,q1,q2,q3⟩:=h.ex
 exact⟨as,by rw[g6 (L1 q1 hx (by intro z;cases z))];exact q1,q2,fun j y l e1 e2=>(q3 j y l e1 e2).ts (G7.ins hx)⟩
theorem b6t(h:∀l∈N,l.length<=2):(a1T N).length<=1+2 * N.length:=by
 have go:∀i,i<=N.length->(a5o N i).length<=1+2 * i:=by
  intro i
  induction i with
  | zero=>intro _;show 1<=1;exact d3 _
  | succ i ih=>
   intro hi
   rw[a7p,j3]
   have:=ih (by omega)
   have h2:(a3h N i).length<=2:=by
    unfold a3h
    rw[a9,G6]
    have e:N.getD i []=N[i]:=by simp[M9,show i<N.length by omega]
    rw[e]
    exact h _ (y9 _)
   omega
 exact go _ (d3 _)
theorem b4W{S:List Stp}{f:Stp->Nat}{t:Nat}{s:Stp}(h:S[i]? = some s):(S.take (i+1)).filter (fun s=>decide (f s=t))=(S.take i).filter (fun s=>decide (f s=t))++(if f s=t then [s] else []):=by
 rw[G5,h,a7v]
 congr 1
 by_cases e:f s=t
 ·rw[if_pos e];simp[e]
 ·rw[if_neg e];simp[e]
theorem b1e{K:Fg}{c:Cn}{x:Addr}{E:XK}(ck:a7D K c)(hrs:H ra=some (.lst (rs.map V.ref)))(hr:O8 H ra N)(hn:D8 H na N)(hv:a2Z N)(hx:H x=some (.ins c.P0 dx []))
  (k:∀H',c0r K c (fun z=>∃o,H z=some o/\z≠x) rs H' x N->(∀b o,H b=some o->b≠x->H' b=some o)->Q .non H'):a1B K c [.ref x,.ref ra,.ref na] H Q E:=by
 obtain⟨rs',r1,r2,r3⟩:=id hr.ex
 obtain rfl:rs'=rs:=by
  rw[hrs]at r1
  exact(T9 (f:=V.ref) (fun a b h=>V.ref.inj h) |>.mp (HO.lst.inj (Option.some.inj r1))).symm
 obtain⟨ns,n1,n2,n3⟩:=id hn.ex
 have hpos:=hv.pos
 have h400:=hv.le
 refine⟨rfl,?_⟩
 unfold a7n
 nofun
 exists a7A r1 (by rw[a9];omega) (by rw[a9];omega) ?_
 nofun
 specialize W0 (O7 ?_)
 refine⟨ra,rfl,⟨_,SqL.of r1⟩,fun D hD=>?_⟩
 refine W3 (xs:=rs'.map V.ref) (fun i ys H2=>ys=z8 i (V.bl true)/\H2 D=some (.lst ys)/\o6 H H2) ⟨rfl,c9,t8 hD⟩ ?_ ?_ ?_ ?_
 ·rintro i ys H2 ⟨_,h,_⟩
  exact h
 ·rintro i ys H2 _ ⟨_,_,s2⟩
  exact SqL.of (s2 _ _ r1)
 ·rintro i y ys H2 hy ⟨rfl,hD2,s2⟩ R hR
  rw[b7]at hy
  cases hrx:rs'[i]? with
  | none=>rw[hrx]at hy;cases hy
  | some rx=>
   rw[hrx]at hy
   cases hy
   have hi:i<N.length:=by rw[<-r2];exact(gI hrx)
   ext
   refine b7g ck ((r3 i rx _ hrx (N4 hi)).ts (o6.ts s2)) fun H3 s3=>?_
   refine hR _ _ (s3 _ _ hD2) (G9 (by rw[E1];omega)) ⟨a8d i,c9,fun b o e=>?_⟩
   rw[g6 (d5 e hD)];exact s3 _ _ (s2 _ _ e)
 rintro ys H2 ⟨rfl,hD2,s2⟩
 ext
 refine a5f hD2 fun H3 s3=>?_
 have s03:=s2.trans s3
 ext
 nofun
 refine a9b (hr.same s03) (hn.same s03) h400 hv.two hv.lt fun H4 s4=>?_
 have s04:=s03.trans s4
 ext
 nofun
 refine a9M (hn.same s04) hv fun H5 s5=>?_
 have s05:=s04.trans s5
 ext
 exact_mod_cast X7 ?_
 specialize b4j ?_
 refine a4F (s05 _ _ r1) fun rp H6 hrp e6 s6=>?_
 have s06:=s05.trans s6
 ext
 refine⟨x,_,dx,[],rfl,s06 _ _ hx,ck.a0O,ck.a1F,by simp,?_⟩
 obtain⟨H7,hH7⟩:∃H7,H7=upd H6 x (.ins c.P0 dx (a2g "rows" (.ref rp) [])):=⟨_,rfl⟩
 have x7:H7 x=some (.ins c.P0 dx [("rows",.ref rp)]):=hH7 ▸ c9
 have f7:∀b o,H6 b=some o->b≠x->H7 b=some o:=fun b o e n=>by rw[hH7,g6 n];exact e
 have rows7:O8 H7 rp N:=by
  have q:O8 H6 rp N:=⟨rs',e6,r2,fun i y l a b=>(r3 i y l a b).ts (o6.ts s06)⟩
  rw[hH7]
  exact q.ins (s06 _ _ hx)
 have net7:D8 H7 na N:=by rw[hH7];exact(hn.same s06).ins (s06 _ _ hx)
 have ra7:H7 ra=some (.lst (rs'.map V.ref)):=f7 _ _ (s06 _ _ r1) (L1 r1 hx (by intro z;cases z))
 rw[<-hH7]
 clear hH7
 exact_mod_cast X7 ?_
 exact_mod_cast b4j ?_
 exact_mod_cast W0 (O7 ?_)
 obtain⟨ns',m1,m2,m3⟩:=id net7.ex
 ext
 refine⟨na,rfl,⟨_,SqL.of m1⟩,fun np hnp=>?_⟩
 refine W3 (xs:=ns'.map V.ref) (fun i ys H8=>∃as:List Addr,ys=as.map V.ref/\as.length=i/\(∀(j:Nat) y l,as[j]? = some y->N[j]? = some l->H8 y=some (.lst (IL l))/\y≠np)/\H8 np=some (.lst ys)/\o6 H7 H8/\∀y∈as,H7 y=none) ?_ ?_ ?_ ?_ ?_
 ·exact⟨[],rfl,rfl,by simp,c9,t8 hnp,by simp⟩
 ·rintro i ys H8 ⟨_,_,_,_,h,_⟩
  exact h
 ·rintro i ys H8 _ ⟨_,_,_,_,_,s8,_⟩
  exact SqL.of (s8 _ _ m1)
 ·rintro i y ys H8 hy ⟨as,rfl,la,at8,hnp8,s8,fr8⟩ R hR
  rw[b7]at hy
  cases hnx:ns'[i]? with
  | none=>rw[hnx]at hy;cases hy
  | some nx=>
   rw[hnx]at hy
   cases hy
   have hi:i<N.length:=by rw[<-m2];exact(gI hnx)
   ext
   refine a4F (s8 _ _ (m3 i nx _ hnx (N4 hi))) fun q H9 hq e9 s9=>?_
   have nq:q≠np:=(d5 hnp8 hq).symm
   refine hR _ _ (s9 _ _ hnp8) (G9 (by rw[a9];omega)) ⟨as++[q],by simp,by simp[la],fun j y l g1 g2=>?_,c9,fun b o e=>?_,fun y hy=>?_⟩
   ·rcases Q0 g1 with ⟨_,f1⟩ | ⟨hj,f1⟩
    ·obtain⟨f2,f3⟩:=at8 j y l f1 g2
     exact⟨by rw[g6 f3];exact s9 _ _ f2,f3⟩
    ·rw[hj,la,N4 hi]at g2
     cases g2
     subst f1
     exact⟨by rw[g6 nq];exact e9,nq⟩
   ·rw[g6 (d5 e hnp)];exact s9 _ _ (s8 _ _ e)
   ·rcases h9.mp hy with z | z
    ·exact fr8 y z
    ·rw[c7.mp z];exact s8.free hq
 rintro ys H8 ⟨as,rfl,la,at8,hnp8,s8,fr8⟩
 rw[a9,m2]at la
 have net8:D8 H8 np N:=⟨as,hnp8,la,fun i y l a b=>(at8 i y l a b).1⟩
 ext
 refine⟨x,_,dx,_,rfl,s8 _ _ x7,ck.a0O,ck.a0h,by simp,?_⟩
 obtain⟨H9,hH9⟩:∃H9,H9=upd H8 x (.ins c.P0 dx (a2g "nexts" (.ref np) [("rows",.ref rp)])):=⟨_,rfl⟩
 have x9:H9 x=some (.ins c.P0 dx [("rows",.ref rp),("nexts",.ref np)]):=by
  rw[hH9,c9]
  simp only[a2g]
  rw[if_neg (by decide)]
 have f9:∀b o,H8 b=some o->b≠x->H9 b=some o:=fun b o e n=>by rw[hH9,g6 n];exact e
 have rows9:O8 H9 rp N:=by rw[hH9];exact(rows7.same s8).ins (s8 _ _ x7)
 have net9:D8 H9 np N:=by rw[hH9];exact net8.ins (s8 _ _ x7)
 have ra9:H9 ra=some (.lst (rs'.map V.ref)):=f9 _ _ (s8 _ _ ra7) (L1 ra7 x7 (by intro z;cases z))
 rw[<-hH9]
 clear hH9
 exact_mod_cast X7 ?_
 exact_mod_cast b4j ?_
 specialize W0 (O7 ?_)
 refine⟨ra,rfl,⟨_,SqL.of ra9⟩,fun ep hep=>?_⟩
 refine W3 (xs:=rs'.map V.ref) (fun i ys H10=>∃es,ys=es.map V.ref/\a4t H9 H10 ep es (z8 i [])) ?_ ?_ ?_ ?_ ?_
 ·exact⟨[],rfl,.nil hep (t8 hep) c9⟩
 ·rintro i ys H10 ⟨es,rfl,I⟩
  exact I.h
 ·rintro i ys H10 _ ⟨es,rfl,I⟩
  exact SqL.of (I.same _ _ ra9)
 ·rintro i y ys H10 hy ⟨es,rfl,I⟩ R hR
  have hi:i<N.length:=by
   have:=(gI hy)
   rw[a9,r2]at this
   exact this
  ext
  refine C4 (by simp) fun p H11 hp e11 s11=>?_
  have:=I.len
  rw[E1]at this
  refine hR _ _ (s11 _ _ I.h) (G9 (by rw[a9];omega)) ⟨es++[p],by simp,?_⟩
  have q:=I.snoc hp e11 s11
  rw[show z8 i ([]:List Nat)++[[]]=z8 (i+1) [] from by rw[a5O]]at q
  rw[show es.map V.ref++[V.ref p]=(es++[p]).map V.ref by simp]
  exact q
 rintro ys H10 ⟨es,rfl,I10⟩
 rw[a9,r2]at I10
 ext
 have x10:=I10.same _ _ x9
 refine⟨x,_,dx,_,rfl,x10,ck.a0O,ck.a0m,by simp,?_⟩
 obtain⟨F,hF⟩:∃F:List (Str×V),F=([("rows",.ref rp),("nexts",.ref np),("entries",.ref ep)]:List (Str×V)):=⟨_,rfl⟩
 have hput:a2g "entries" (.ref ep) [("rows",.ref rp),("nexts",.ref np)]=F:=by
  rw[hF]
  simp only[a2g]
  rw[if_neg (by decide),if_neg (by decide)]
 rw[hput]
 obtain⟨H11,hH11⟩:∃H11,H11=upd H10 x (.ins c.P0 dx F):=⟨_,rfl⟩
 obtain⟨H0,hH0⟩:∃H0,H0=upd H9 x (.ins c.P0 dx F):=⟨_,rfl⟩
 have x0:H0 x=some (.ins c.P0 dx F):=hH0 ▸ c9
 have f0:∀b o,H9 b=some o->b≠x->H0 b=some o:=fun b o e n=>by rw[hH0,g6 n];exact e
 have rows0:O8 H0 rp N:=by rw[hH0];exact rows9.ins x9
 have net0:D8 H0 np N:=by rw[hH0];exact net9.ins x9
 have np0:H0 np=some (.lst (as.map V.ref)):=by
  have:=f9 _ _ hnp8 (L1 hnp8 (s8 _ _ x7) (by intro z;cases z))
  exact f0 _ _ this (L1 this x9 (by intro z;cases z))
 have rp0:H0 rp=some (.lst (rs'.map V.ref)):=by
  have q:=s8 _ _ (f7 _ _ e6 (L1 e6 (s06 _ _ hx) (by intro z;cases z)))
  have q:=f9 _ _ q (L1 q (s8 _ _ x7) (by intro z;cases z))
  exact f0 _ _ q (L1 q x9 (by intro z;cases z))
 have at0:∀(i:Nat) y l,as[i]? = some y->N[i]? = some l->H0 y=some (.lst (IL l)):=fun i y l a b=>by
  have q:=(at8 i y l a b).1
  have q:=f9 _ _ q (L1 q (s8 _ _ x7) (by intro z;cases z))
  exact f0 _ _ q (L1 q x9 (by intro z;cases z))
 have old9:∀b o,H b=some o->b≠x->H9 b=some o:=fun b o e n=>f9 _ _ (s8 _ _ (f7 _ _ (s06 _ _ e) n)) n
 have ent11:c0v K H0 H11 ep es (z8 N.length []):=by
  have nxe:x≠ep:=d5 x9 hep
  have nxes:∀y∈es,x≠y:=fun y hy=>d5 x9 (I10.new.2 y hy)
  refine⟨fun b o e=>?_,by rw[hH11,g6 nxe.symm];exact I10.h,by rw[E1];have:=I10.len;rwa [E1]at this,I10.nd,I10.na,fun i y S a b=>?_,by rw[hH0,g6 nxe.symm];exact hep,fun y hy=>by rw[hH0,g6 (nxes y hy).symm];exact I10.new.2 y hy⟩
  ·rw[hH0]at e
   rw[hH11]
   by_cases q:b=x
   ·subst q
    rw[c9]at e ⊢
    exact e
   ·rw[g6 q]at e ⊢
    exact I10.same _ _ e
  ·have hi:=(gI b)
   rw[E1]at hi
   have q:=I10.at_ i y [] a (by rw[K8,if_pos hi])
   rw[K8,if_pos hi]at b
   cases b
   refine⟨[],?_,rfl,by simp⟩
   rw[hH11,g6 (L1 q x10 (by intro z;cases z))]
   exact q
 have old:∀b o,H b=some o->b≠x->H0 b=some o:=fun b o e n=>f0 _ _ (f9 _ _ (s8 _ _ (f7 _ _ (s06 _ _ e) n)) n) n
 rw[<-hH11]
 clear hH11 hH0 I10 x10 f0 f9 x9 ra9 net9 rows9
 specialize Z9 (O7 ?_)
 specialize b5r ?_
 exists ⟨x,_,dx,F,.ref np,rfl,ent11.same _ _ x0,ck.a0O,ck.a0h,by rw[hF];rfl,?_⟩
 refine b2o ck (net0.same ent11.same) h400 hv.two fun sl H12 hsl S12 s12=>?_
 obtain⟨vs,v1,v2,v3⟩:=id S12.ex
 have nsl:sl∉es:=fun z=>by
  obtain⟨i,hi⟩:=C3.mp z
  have hil:i<N.length:=by
   have:=ent11.len
   rw[E1]at this
   rw[<-this];exact(gI hi)
  obtain⟨ws,w1,_⟩:=(ent11.at_ i sl [] hi (by rw[K8,if_pos hil])).ex
  rw[hsl]at w1
  cases w1
 refine⟨sl,rfl,⟨_,SqL.of v1⟩,Y9 (xs:=vs.map V.ref) (fun i σ H13=>∃x3 P,σ=[some (.ref x),some (.ref ra),some (.ref na),x3]/\c0v K H0 H13 ep es P/\P.length=N.length/\(∀t,t<N.length->P[t]? = some (((a1T N).take i).filter fun s=>decide (a2v N s=t)))/\a0I K H13 sl (a1T N)/\H13 sl=some (.lst (vs.map V.ref))) ?_ ?_ ?_ ?_⟩
 ·refine⟨_,z8 N.length [],rfl,⟨ent11.same.trans s12,s12 _ _ ent11.h,ent11.len,ent11.nd,ent11.na,fun i y S a b=>(ent11.at_ i y S a b).same s12,ent11.new⟩,by simp,fun t ht=>by rw[K8,if_pos ht];simp,S12,v1⟩
 ·rintro i σ H13 _ ⟨_,_,_,_,_,_,_,h⟩
  exact SqL.of h
 ·rintro i y _ H13 hy ⟨x3,P,rfl,I13,lP,hP,S13,hsl13⟩
  rw[b7]at hy
  cases hvx:vs[i]? with
  | none=>rw[hvx]at hy;cases hy
  | some vx=>
   rw[hvx]at hy
   cases hy
   obtain⟨ws,w1,w2,w3⟩:=S13.ex
   have ews:ws=vs:=by
    rw[hsl13]at w1
    have:=T9 (f:=V.ref) (fun a b h=>V.ref.inj h) |>.mp (HO.lst.inj (Option.some.inj w1))
    exact this.symm
   subst ews
   have hi:i<(a1T N).length:=by rw[<-w2];exact(gI hvx)
   obtain⟨s,hs⟩:∃s,(a1T N)[i]? = some s:=⟨_,c8 hi⟩
   have hst:=w3 i vx s hvx hs
   have hm:=mI hs
   have his:=b7h hm
   have hlt:=c2l hv his
   have x13:=I13.same _ _ x0
   ext
   specialize a7x ?_
   specialize b5r ?_
   refine⟨x,_,dx,F,.ref ep,rfl,x13,ck.a0O,ck.a0m,by rw[hF];rfl,?_⟩
   specialize b8Q ?_
   exists ⟨x,dx,F,rfl,x13,by rw[hF];rfl,?_⟩
   refine b2W ck ⟨dx,F,np,x13,by rw[hF];rfl,net0.same I13.same⟩ hst his ?_
   obtain⟨z,hz⟩:∃z,es[a2v N s]? = some z:=⟨_,c8 (by have:=I13.len;omega)⟩
   refine O6 I13.h (a1E (by rw[b7,hz];rfl)) ?_
   have hPt:=hP _ hlt
   obtain⟨us,u1,u2,u3⟩:=(I13.at_ _ z _ hz hPt).ex
   exists ⟨Z1 u1,?_⟩
   have hul:us.length<=i:=by
    rw[u2]
    refine A1 (a5h _ _) ?_
    rw[C9];omega
   have hlen1:(a1T N).length<=1000:=by
    rw[<-w2]
    have:(a1T N).length<=1+2 * N.length:=b6t hv.two
    omega
   refine a1m u1 (G9 (by rw[a9];omega)) ?_
   have add:=I13.add (a:=vx) (s:=s) hz hPt u1 u2 u3 hst
   rw[show us.map V.ref++[V.ref vx]=(us++[vx]).map V.ref by simp]
   have nz:sl≠z:=fun q=>nsl (q ▸ mI hz)
   refine⟨_,_,rfl,add,by rw[a0K];exact lP,fun t ht=>?_,S13.put u1 nz,by rw[g6 nz];exact hsl13⟩
   rw[b4W hs]
   by_cases q:a2v N s=t
   ·subst q
    rw[I0 (by omega),if_pos rfl]
   ·rw[K7 q,if_neg q,b0z]
    exact hP t ht
 ·rintro _ H13 ⟨x3,P,rfl,I13,lP,hP,S13,hsl13⟩
  have f8:∀b o,H b=some o->b≠x->H7 b=some o:=fun b o e n=>f7 _ _ (s06 _ _ e) n
  refine k H13 ⟨dx,rp,np,ep,es,as,hF ▸ I13.same _ _ x0,⟨rows0.same I13.same,I13.same _ _ rp0⟩,I13.same _ _ np0,la,fun i y l a b=>I13.same _ _ (at0 i y l a b),I13.h,by rw[I13.len,lP],fun t y hy=>?_,fun z ⟨o,ho,hzx⟩=>⟨d5 (s05 _ _ ho) hrp,d5 (f8 _ _ ho hzx) hnp,d5 (old9 _ _ ho hzx) hep,fun q=>d5 (f8 _ _ ho hzx) (fr8 z q) rfl,fun q=>d5 (old _ _ ho hzx) (I13.new.2 z q) rfl⟩⟩ fun b o e n=>I13.same _ _ (old b o e n)
  have ht:t<N.length:=by
   have:=(gI hy)
   have:=I13.len
   omega
  have q:=I13.at_ t y _ hy (hP t ht)
  rw[a9,v2,F5]at q
  exact q
theorem b5a{K:Fg}(hn:D8 H a N)(h400:N.length<=400)(hi:σ[i]? = some (some (.ref a)))(k:∀a' H',D8 H' a' N->o6 H H'->Q (.ref a') H'):V1 (R7 K (c4 i)) V0 (tCB a1Z (b4 (c4 0) g0)) σ H Q:=by
 obtain⟨ns,m1,m2,m3⟩:=id hn.ex
 exact_mod_cast W0 (O7 ?_)
 refine⟨_,hi,a,rfl,⟨_,SqL.of m1⟩,fun np hnp=>?_⟩
 refine W3 (xs:=ns.map V.ref) (fun i ys H8=>∃as:List Addr,ys=as.map V.ref/\as.length=i/\(∀(j:Nat) y l,as[j]? = some y->N[j]? = some l->H8 y=some (.lst (IL l))/\y≠np)/\H8 np=some (.lst ys)/\o6 H H8) ⟨[],rfl,rfl,by simp,c9,t8 hnp⟩ ?_ ?_ ?_ ?_
 ·rintro i ys H8 ⟨_,_,_,_,h,_⟩
  exact h
 ·rintro i ys H8 _ ⟨_,_,_,_,_,s8⟩
  exact SqL.of (s8 _ _ m1)
 ·rintro i y ys H8 hy ⟨as,rfl,la,at8,hnp8,s8⟩ R hR
  rw[b7]at hy
  obtain⟨nx,hnx,rfl⟩:=j4.mp hy
  have hi:i<N.length:=by rw[<-m2];exact(gI hnx)
  ext
  refine a4F (s8 _ _ (m3 i nx _ hnx (N4 hi))) fun q H9 hq e9 s9=>?_
  have nq:q≠np:=(d5 hnp8 hq).symm
  refine hR _ _ (s9 _ _ hnp8) (G9 (by rw[a9];omega)) ⟨as++[q],by simp,by simp[la],fun j y l g1 g2=>?_,c9,fun b o e=>by rw[g6 (d5 e hnp)];exact s9 _ _ (s8 _ _ e)⟩
  rcases Q0 g1 with ⟨_,f1⟩ | ⟨hj,f1⟩
  ·obtain⟨f2,f3⟩:=at8 j y l f1 g2
   exact⟨by rw[g6 f3];exact s9 _ _ f2,f3⟩
  ·rw[hj,la,N4 hi]at g2
   cases g2
   subst f1
   exact⟨by rw[g6 nq];exact e9,nq⟩
 ·rintro ys H8 ⟨as,rfl,la,at8,hnp8,s8⟩
  rw[a9,m2]at la
  exact k np H8 ⟨as,hnp8,la,fun i y l a b=>(at8 i y l a b).1⟩ s8
structure c7Q(H:Hp)(d:Addr)(ds:List V):Prop where
 h:H d=some (.tup ds)
 ex:∃k v1 v2,ds=[.str k,v1,v2]/\OpN v1/\OpN v2
def b7G(H:Hp)(p:Addr)(xs:List V):Prop:=H p=some (.tup xs)/\a3P H xs
theorem b7G.ts(h:b7G H p xs)(t:G7 H H'):b7G H' p xs:=⟨t _ _ h.1,h.2.ts t⟩
theorem a7C.x{a:Bool}(h:a7C H (.ref p) a):∃xs,b7G H p xs:=by
 obtain⟨q,xs,e,h1,h2,_⟩:=h
 cases e
 exact⟨xs,h1,h2⟩
theorem a3P.head(h:a3P H xs):∃k r,xs=.str k::r:=by cases h <;> exact⟨_,_,rfl⟩
def sbV(xs:List V):Option Str:=match xs with
 | .str k :: .str n::_=>if k=("set" : Str)\/k=("copy" : Str)\/k=("take" : Str)then some n else none
 | _=>none
def nmV(o:Option Str):V:=match o with
 | some s=>.str s
 | none=>.non
section
variable {K:Fg}{E:XK}
theorem b0h(hr:b7G H p xs)(k:∀H',o6 H H'->Q (nmV (sbV xs)) H'):a2W K [.ref p] H Q E:=by
 obtain⟨hp,rS⟩:=id hr
 refine⟨rfl,?_⟩
 unfold b2h
 obtain⟨k0,r,rfl⟩:=rS.head
 ext
 exists J7 hp (a2d _ _) ?_
 refine C4 (by simp) fun l H1 hl e1 s1=>?_
 refine a6l e1 rfl rfl ?_
 refine⟨_,rfl,?_⟩
 have hp1:=s1 _ _ hp
 have k1:=k H1 s1
 cases rS with
 | set n p2 nm d2=>
  exists F4 (by decide +kernel) ?_
  exact J7 hp1 (a3O _ _ _) k1
 | copy n v nm o=>
  exists F4 (by decide +kernel) ?_
  exact J7 hp1 (a3O _ _ _) k1
 | take n nm=>
  exists F4 (by decide +kernel) ?_
  exact J7 hp1 (a3O _ _ _) k1
 | tell v o=>
  exists y0 (by decide +kernel) ?_
  rw[show sbV [.str "tell",v]=none by rcases o with ⟨s,rfl,_⟩ | ⟨i,rfl,_⟩ <;> rfl]at k1
  exact k1
 | ask v o=>
  exists y0 (by decide +kernel) ?_
  rw[show sbV [.str "ask",v]=none by rcases o with ⟨s,rfl,_⟩ | ⟨i,rfl,_⟩ <;> rfl]at k1
  exact k1
 | skip=>
  exists y0 (by decide +kernel) ?_
  exact k1
end
theorem b1n:∀(l m:List Str),l.Nodup->(∀x∈l,x∈m)->l.length<=m.length
 | [],m,_,_=>E9 _
 | x::l,m,nd,h=>by
  obtain⟨n1,n2⟩:=Q8.mp nd
  have hx:=h x (D4 ..)
  have:=b1n l (m.erase x) n2 fun y hy=>(b7R (fun e=>n1 (by rw[<-e];exact hy))).mpr (h y (D0 _ hy))
  rw[a3M hx]at this
  have:=a4M hx
  rw[y8]
  omega
section
def a6x(H:Hp)(rs:List Addr)(RC:Nat->List V):Prop:=∀(i:Nat) p,rs[i]? = some p->b7G H p (RC i)
theorem a6x.ts(h:a6x H rs RC)(t:G7 H H'):a6x H' rs RC:=fun i p e=>(h i p e).ts t
theorem b8V(hR:O8 H ra N)(hra:H ra=some (.lst (rs.map V.ref))):∃RC,a6x H rs RC:=by
 obtain⟨rs',r1,r2,r3⟩:=hR.ex
 obtain rfl:rs'=rs:=by
  rw[hra]at r1
  exact(T9 (f:=V.ref) (fun a b h=>V.ref.inj h) |>.mp (HO.lst.inj (Option.some.inj r1))).symm
 refine⟨fun i=>match rs'[i]? with
  | some p=>(match H p with
   | some (.tup xs)=>xs
   | _=>[])
  | none=>[],fun i p hp=>?_⟩
 have hi:=(gI hp)
 obtain⟨xs,hx⟩:=(r3 i p _ hp (N4 (by omega))).x
 simp only[hp,hx.1]
 exact hx
theorem b8Z(h:H l=some (.lst (ss.map V.str)))(k:Q (.bl (decide (s∈ss))) H):qIn false (.str s) (.ref l) H Q:=by
 have e:inV (.str s) (ss.map V.str)=decide (s∈ss):=by
  unfold inV
  rw[Q9,T1,decide_eq_true_iff]
  constructor
  ·rintro⟨z,hz,e⟩
   obtain⟨u,hu,rfl⟩:=q9.mp hz
   have:u=s:=by simpa[eqV]using e
   rw[<-this];exact hu
  ·intro h
   exact⟨_,q9.mpr ⟨s,h,rfl⟩,by simp[eqV]⟩
 unfold qIn
 simp only[h]
 refine⟨rfl,?_,?_⟩
 ·rw[E4]
  intro x hx
  obtain⟨u,_,rfl⟩:=q9.mp hx
  rfl
 ·rw[e];exact k
theorem c4d(h:H l=some (.lst (ss.map V.str)))(k:Q (.bl (!decide (s∈ss))) H):qIn true (.str s) (.ref l) H Q:=by
 have z:=b8Z (Q:=fun v _=>v=.bl (decide (s∈ss))) (s:=s) h rfl
 unfold qIn at z ⊢
 simp only[h]at z ⊢
 refine⟨z.1,z.2.1,?_⟩
 have e:=V.bl.inj z.2.2
 have e:inV (.str s) (ss.map V.str)=decide (s∈ss):=e
 show Q (.bl (!inV (.str s) (ss.map V.str))) H
 rw[e];exact k
end
theorem c3d{ti:TIp}{x:V}(e:σ[n]? = some (some x))(h:te σ H fun y H1=>ti x y H1 fun z H2=>D.nx (σ.set n (some z)) H2):b8E n te ti D σ H:=⟨x,e,h⟩
def inK(ks:List (List Key))(k:List Key):Bool:=ks.any fun u=>decide (u=k)
theorem a7O{k:List Key}:inK ks k=true↔k∈ks:=by
 unfold inK
 rw[T1]
 exact⟨fun⟨u,h,e⟩=>of_decide_eq_true e ▸ h,fun h=>⟨k,h,c8U rfl⟩⟩
def b1H(ks:List (List Key))(o:Option (List Key)):List (List Key):=match o with
 | some k=>if inK ks k=true then ks else ks++[k]
 | none=>ks
def a1y(D:Nat->Option (List Key))(n:Nat):List (List Key):=((z5 n).map D).foldl b1H []
section
variable {D:Nat->Option (List Key)}{k:List Key}{g:List Key->V}
theorem a2c:a1y D (n+1)=b1H (a1y D n) (D n):=by
 unfold a1y
 rw[a0J,t9,c2M];rfl
theorem c2f{o:Option (List Key)}(h:ks.Nodup):(b1H ks o).Nodup:=by
 unfold b1H
 cases o with
 | none=>exact h
 | some u=>
  simp only
  split
  ·exact h
  ·rename_i q
   rw[a1h]
   exact⟨h,by simp,fun x hx y hy=>by rw[c7.mp hy];intro z;exact q (a7O.mpr (z ▸ hx))⟩
theorem b9P{o:Option (List Key)}:(b1H ks o).length<=ks.length+1:=by
 unfold b1H
 cases o with
 | none=>simp
 | some u=>
  simp only
  split
  ·omega
  ·simp
theorem a8O(D:Nat->Option (List Key)):∀n,(a1y D n).Nodup
 | 0=>by simp[a1y]
 | n+1=>by rw[a2c];exact c2f (a8O D n)
theorem a4H(D:Nat->Option (List Key)):∀n,(a1y D n).length<=n
 | 0=>by simp[a1y]
 | n+1=>by
  rw[a2c]
  have:=b9P (ks:=a1y D n) (o:=D n)
  have:=a4H D n
  omega
theorem c2F(h:k∈ks):b1H ks (some k)=ks:=by unfold b1H;exact if_pos (a7O.mpr h)
end
def b7H(H:Hp)(p:Addr)(o:Option (List Key)):Prop:=match o with
 | some k=>∃n d,H p=some (.tup [.str "set",n,.ref d])/\H d=some (.tup (k.map kV))
 | none=>∃s xs,H p=some (.tup (.str s::xs))/\s≠("set" : Str)
def b3A(H:Hp)(rs:List Addr)(D:Nat->Option (List Key)):Prop:=∀(i:Nat) p,rs[i]? = some p->b7H H p (D i)
theorem b7H.ts{o:Option (List Key)}(h:b7H H p o)(t:G7 H H'):b7H H' p o:=by
 cases o with
 | some k=>
  obtain⟨n,d,h1,h2⟩:=h
  exact⟨n,d,t _ _ h1,t _ _ h2⟩
 | none=>
  obtain⟨s,xs,h1,h2⟩:=h
  exact⟨s,xs,t _ _ h1,h2⟩
theorem b3A.ts{D:Nat->Option (List Key)}(h:b3A H rs D)(t:G7 H H'):b3A H' rs D:=fun i p e=>(h i p e).ts t
theorem OpN.key(h:OpN v):∃k:Key,v=kV k:=by
 rcases h with ⟨s,rfl,_⟩ | ⟨n,rfl,_⟩
 ·exact⟨.inr s,rfl⟩
 ·exact⟨.inl n,rfl⟩
theorem a3P.dk(h:H p=some (.tup xs))(r:a3P H xs):∃o,b7H H p o:=by
 cases r with
 | set n q a d=>
  obtain⟨k,v1,v2,hd,o1,o2,_⟩:=d
  obtain⟨k1,rfl⟩:=o1.key
  obtain⟨k2,rfl⟩:=o2.key
  exact⟨some [.inr k,k1,k2],.str n,q,h,hd⟩
 | copy n v a o=>exact⟨none,_,_,h,by decide⟩
 | take n a=>exact⟨none,_,_,h,by decide⟩
 | tell v o=>exact⟨none,_,_,h,by decide⟩
 | ask v o=>exact⟨none,_,_,h,by decide⟩
 | skip=>exact⟨none,_,_,h,by decide⟩
theorem b3A.ex(hr:O8 H a N)(h:H a=some (.lst (rs.map V.ref))):∃D,b3A H rs D:=by
 obtain⟨rs',q1,q2,q3⟩:=hr.ex
 rw[h]at q1
 obtain rfl:rs=rs':=(T9 (f:=V.ref) (fun a b h=>V.ref.inj h) |>.mp (HO.lst.inj (Option.some.inj q1)))
 have:∀i:Nat,∃o,∀p,rs[i]? = some p->b7H H p o:=fun i=>by
  cases e:rs[i]? with
  | none=>exact⟨none,fun p z=>by cases z⟩
  | some p=>
   have hi:=(gI e)
   obtain⟨q,xs,e2,h1,h2,_⟩:=q3 i p N[i] e (by simp)
   cases e2
   obtain⟨o,ho⟩:=a3P.dk h1 h2
   exact⟨o,fun p' z=>by cases z;exact ho⟩
 obtain⟨D,hD⟩:=Classical.axiomOfChoice this
 exact⟨D,fun i p e=>hD i p e⟩
theorem c5c(r n e:Addr)(m:Str)(h:m∉(["rows","nexts","entries"]:List Str)):([("rows",.ref r),("nexts",.ref n),("entries",.ref e)]:List (Str×V)).lookup m=none:=by
 rw[List.lookup_eq_none_iff]
 intro p hp
 simp only[d8,j7,or_false]at h hp
 rcases hp with rfl | rfl | rfl
 ·simp;intro z;exact h (.inl z)
 ·simp;intro z;exact h (.inr (.inl z))
 ·simp;intro z;exact h (.inr (.inr z))
structure a6y(c:Cn)(H:Hp)(x:Addr)(N:Nt)(rs:List Addr):Prop where
 ex:∃dx r n e,H x=some (.ins c.P0 dx [("rows",.ref r),("nexts",.ref n),("entries",.ref e)])/\D8 H n N/\H r=some (.lst (rs.map V.ref))/\rs.length=N.length
section
variable {K:Fg}{c:Cn}{x w:Addr}{S:List Stp}{D:Nat->Option (List Key)}{E:XK}
theorem a6y.same(h:a6y c H x N rs)(s:o6 H H'):a6y c H' x N rs:=by
 obtain⟨dx,r,n,e,h1,h2,h3,h4⟩:=h.ex
 exact⟨dx,r,n,e,s _ _ h1,h2.same s,s _ _ h3,h4⟩
theorem a6y.kept(h:a6y c H x N rs)(hB:Bag H b d)(h2':∀l∈N,l.length<=2)(k:A0 b H H'):a6y c H' x N rs:=by
 obtain⟨dx,r,n,e,h1,h2,h3,h4⟩:=h.ex
 obtain⟨bs,hb⟩:=hB.lst
 exact⟨dx,r,n,e,k.1 _ _ h1 (L1 h1 hb (by intro z;cases z)),h2.kept hB h2' k,k.1 _ _ h3 (a0k hB h3),h4⟩
theorem c0r.pc{Z:Addr->Prop}(h:c0r K c Z rs H x N):a6y c H x N rs:=by
 obtain⟨dx,r,n,e,es,ns,h1,⟨h2,h2r⟩,h3,h4,h5,h6,h7,h8,_⟩:=h.ex
 refine⟨dx,r,n,e,h1,⟨ns,h3,h4,h5⟩,h2r,?_⟩
 obtain⟨rs',q1,q2,_⟩:=h2.ex
 rw[h2r]at q1
 have:=congrArg b7U (HO.lst.inj (Option.some.inj q1))
 rw[a9,a9]at this
 omega
end
abbrev Sto:=List (Str×Int)
def c6X(S:Sto)(s:Str):Int:=match S with
 | []=>0
 | p::r=>if p.1=s then p.2 else c6X r s
def c1m(S:Sto)(n:Str)(i:Int):Sto:=match S with
 | []=>[(n,i)]
 | p::r=>if p.1=n then (p.1,i)::r else p::c1m r n i
def b8p(S:Sto)(v:V):Int:=match v with
 | .str s=>c6X S s
 | .int i=>i
 | _=>0
def wv(kd:Str)(x y:Int):Int:=if kd = "plus" then (x+y) % 1000000000000 else if kd = "minus" then (x - y) % 1000000000000 else if kd = "times" then x * y % 1000000000000 else if kd = "less" then (if x<y then 1 else 0)else (if x=y then 1 else 0)
inductive Rw
 | set (n k:Str) (a b:V) | copy (n:Str) (v:V) | take (n:Str) | tell (v:V) | ask (v:V) | skip
variable{w:Rw}
def RwS(H:Hp)(xs:List V)(w:Rw):Prop:=match w with
 | .set n k a b=>∃q,xs=[.str "set",.str n,.ref q]/\H q=some (.tup [.str k,a,b])/\OpN a/\OpN b/\NmS n
 | .copy n v=>xs=[.str "copy",.str n,v]/\OpN v/\NmS n
 | .take n=>xs=[.str "take",.str n]/\NmS n
 | .tell v=>xs=[.str "tell",v]/\OpN v
 | .ask v=>xs=[.str "ask",v]/\OpN v
 | .skip=>xs=[.str "skip"]
structure Rs where
 S:Sto
 L:List Int
 T:List Int
 W:List Stp
 p:Stp
 e:Bool
def doR(w:Rw)(S:Sto)(L T:List Int):Sto×List Int×List Int:=match w with
 | .set n k a b=>(c1m S n (wv k (b8p S a) (b8p S b)),L,T)
 | .copy n v=>(c1m S n (b8p S v),L,T)
 | .take n=>(c1m S n (L.getLast?.getD 0),L.dropLast,T)
 | .tell v=>(S,L,T++[b8p S v])
 | _=>(S,L,T)
def c5Z(w:Rw)(S:Sto):Int:=match w with
 | .ask v=>if b8p S v=0 then 1 else 0
 | _=>0
def st1(N:Nt)(W:Nat->Rw)(r:Rs):Rs:=
 let t:=a2v N r.p
 let d:=doR (W t) r.S r.L r.T
 ⟨d.1,d.2.1,d.2.2,r.W++[r.p],((t:Int),c5Z (W t) d.1),decide ((N.getD t []).length=0)⟩
def rn(N:Nt)(W:Nat->Rw):Nat->Rs->Rs
 | 0,r=>r
 | m+1,r=>if r.e=true then r else rn N W m (st1 N W r)
section
variable {S:Sto}{n:Str}{i:Int}
theorem RwS.ts(h:RwS H xs w)(t:G7 H H'):RwS H' xs w:=by
 cases w with
 | set n k a b=>obtain⟨q,h1,h2,h3⟩:=h;exact⟨q,h1,t _ _ h2,h3⟩
 | _=>exact h
theorem a3P.rw(h:a3P H xs):∃w,RwS H xs w:=by
 cases h with
 | set n p nm d=>obtain⟨k,a,b,h,o1,o2,_⟩:=d;exact⟨.set n k a b,p,rfl,h,o1,o2,nm⟩
 | copy n v nm o=>exact⟨.copy n v,rfl,o,nm⟩
 | take n nm=>exact⟨.take n,rfl,nm⟩
 | tell v o=>exact⟨.tell v,rfl,o⟩
 | ask v o=>exact⟨.ask v,rfl,o⟩
 | skip=>exact⟨.skip,rfl⟩
end
def a8m(v:V):List Str:=match v with
 | .str s=>[s]
 | _=>[]
def rdW(w:Rw):List Str:=match w with
 | .set _ _ a b=>a8m a++a8m b
 | .copy _ v=>a8m v
 | .tell v=>a8m v
 | .ask v=>a8m v
 | _=>[]
def opW(w:Rw):List V:=match w with
 | .set _ _ a b=>[a,b]
 | .copy _ v=>[v]
 | .tell v=>[v]
 | .ask v=>[v]
 | _=>[]
def seW(w:Rw):List Str:=match w with
 | .set n _ _ _=>[n]
 | .copy n _=>[n]
 | .take n=>[n]
 | _=>[]
def nmW(w:Rw):List Str:=rdW w++seW w
section
variable {K:Fg}{c:Cn}{x:Addr}{W:Nat->Rw}{E:XK}
theorem c7s(h:te σ H fun x H1=>∃(l:Addr) (ss:List Str),x=.ref l/\H1 l=some (.lst (ss.map V.str))/\ss.length<4000/\(∀ds:List Str,ds.Nodup->(∀x∈ds,x∈ss)->ds.length<64) /\
 ∀(p:Addr) (ts:List Str),ts.Nodup->(∀x,x∈ts↔x∈ss)->X8 ts=true->H1 p=none->Q (.ref p) (upd H1 p (.lst (ts.map V.str)))):tSS te σ H Q:=h
theorem c4S:(opW w).length<=2:=by cases w <;> simp[opW]
theorem c6L(h:RwS H xs w):∀v∈opW w,OpN v:=by
 intro v hv
 cases w with
 | set n k a b=>
  obtain⟨q,_,_,o1,o2,_⟩:=h
  simp only[opW,d8,j7,or_false]at hv
  rcases hv with rfl | rfl
  ·exact o1
  ·exact o2
 | copy n v'=>rw[c7.mp hv];exact h.2.1
 | tell v'=>rw[c7.mp hv];exact h.2
 | ask v'=>rw[c7.mp hv];exact h.2
 | _=>cases hv
theorem c3e(s:Str):s∈rdW w↔V.str s∈opW w:=by
 have one:∀v:V,s∈a8m v↔V.str s=v:=fun v=>by
  cases v with
  | str t=>show s∈[t]↔_;rw[c7];exact⟨fun e=>by rw[e],V.str.inj⟩
  | _=>exact⟨(fun h=>nomatch h),fun h=>nomatch h⟩
 cases w with
 | set n k a b=>show s∈a8m a++a8m b↔V.str s∈[a,b];rw[h9,one,one];simp
 | copy n v=>show s∈a8m v↔V.str s∈[v];rw[one];simp
 | tell v=>show s∈a8m v↔V.str s∈[v];rw[one];simp
 | ask v=>show s∈a8m v↔V.str s∈[v];rw[one];simp
 | _=>exact⟨(fun h=>nomatch h),fun h=>nomatch h⟩
theorem c6b(h:RwS H xs w):seW w=(match sbV xs with | some n=>[n] | none=>[]):=by
 cases w with
 | set n k a b=>obtain⟨q,rfl,_⟩:=h;rfl
 | copy n v=>obtain⟨rfl,_⟩:=h;rfl
 | take n=>obtain⟨rfl,_⟩:=h;rfl
 | tell v=>obtain⟨rfl,o⟩:=h;rcases o with ⟨s,rfl,_⟩ | ⟨i,rfl,_⟩ <;> rfl
 | ask v=>obtain⟨rfl,o⟩:=h;rcases o with ⟨s,rfl,_⟩ | ⟨i,rfl,_⟩ <;> rfl
 | skip=>cases h;rfl
theorem b2F(hp:H p=some (.tup xs))(hw:RwS H xs w)(k:∀l H',H l=none->H' l=some (.lst (opW w))->o6 H H'->Q (.ref l) H'):a0D K [.ref p] H Q E:=by
 refine⟨rfl,?_⟩
 unfold a5c
 nofun
 cases w with
 | set n kd v1 v2=>
  obtain⟨q,rfl,hq,_⟩:=hw
  refine J7 hp (a2d _ _) ?_
  walk_at "go"
  exists F4 (by decide) ?_
  exists J7 hp (a7B _ _ _ _) ?_
  exists J7 hq (a3O _ _ _) ?_
  exists J7 hp (a7B _ _ _ _) ?_
  exists J7 hq (a7B _ _ _ _) ?_
  exact C4 (by simp) k
 | copy n v=>
  obtain⟨rfl,_⟩:=hw
  refine J7 hp (a2d _ _) ?_
  walk_at "go"
  refine y0 (by decide) ?_
  walk_at "go"
  exists F4 (by decide) ?_
  exists J7 hp (a7B _ _ _ _) ?_
  exact C4 (by simp) k
 | take n=>
  obtain⟨rfl,_⟩:=hw
  refine J7 hp (a2d _ _) ?_
  walk_at "go"
  refine y0 (by decide) ?_
  walk_at "go"
  refine y0 (by decide) ?_
  walk_at "go"
  refine C4 (by decide) fun q G _ e s=>?_
  exists a6l e rfl (by decide +kernel) ?_
  exists y0 (by decide +kernel) ?_
  exact C4 (by decide) fun l H' hl e' s'=>k l H' (s.free hl) e' (s.trans s')
 | tell v=>
  obtain⟨rfl,_⟩:=hw
  refine J7 hp (a2d _ _) ?_
  walk_at "go"
  refine y0 (by decide) ?_
  walk_at "go"
  refine y0 (by decide) ?_
  walk_at "go"
  refine C4 (by decide) fun q G _ e s=>?_
  exists a6l e rfl (by decide +kernel) ?_
  exists F4 (by decide +kernel) ?_
  exists J7 (s _ _ hp) (a3O _ _ _) ?_
  exact C4 (by simp) fun l H' hl e' s'=>k l H' (s.free hl) e' (s.trans s')
 | ask v=>
  obtain⟨rfl,_⟩:=hw
  refine J7 hp (a2d _ _) ?_
  walk_at "go"
  refine y0 (by decide) ?_
  walk_at "go"
  refine y0 (by decide) ?_
  walk_at "go"
  refine C4 (by decide) fun q G _ e s=>?_
  exists a6l e rfl (by decide +kernel) ?_
  exists F4 (by decide +kernel) ?_
  exists J7 (s _ _ hp) (a3O _ _ _) ?_
  exact C4 (by simp) fun l H' hl e' s'=>k l H' (s.free hl) e' (s.trans s')
 | skip=>
  cases hw
  refine J7 hp (a2d _ _) ?_
  walk_at "go"
  refine y0 (by decide) ?_
  walk_at "go"
  refine y0 (by decide) ?_
  walk_at "go"
  refine C4 (by decide) fun q G _ e s=>?_
  exists a6l e rfl (by decide +kernel) ?_
  exists y0 (by decide +kernel) ?_
  exact C4 (by decide) fun l H' hl e' s'=>k l H' (s.free hl) e' (s.trans s')
theorem b8W(hp:H p=some (.tup xs))(hw:RwS H xs w)(k:∀l R H',H l=none->H' l=some (.lst ((R:List Str).map V.str))->R.length<=2->(∀s,s∈R↔s∈rdW w)->o6 H H'->Q (.ref l) H'):a2o K [.ref p] H Q E:=by
 refine⟨rfl,?_⟩
 unfold a8g
 nofun
 exists C4 (by decide) fun D H1 hD e1 s1=>?_
 exact_mod_cast X7 ?_
 specialize Z9 (O7 ?_)
 refine b2F (s1 _ _ hp) (hw.ts (o6.ts s1)) fun ol H2 hol e2 s2=>?_
 have nD:ol≠D:=(d5 e1 hol).symm
 have s02:=s1.trans s2
 have oo:=c6L hw
 have lo:=c4S (w:=w)
 refine⟨ol,rfl,⟨_,SqL.of e2⟩,Y9 (xs:=opW w) (fun i σ H3=>∃y2 R,σ=[some (.ref p),some (.ref D),y2]/\H3 D=some (.lst ((R:List Str).map V.str))/\R.length<=i/\(∀s,s∈R↔V.str s∈(opW w).take i)/\H3 ol=some (.lst (opW w))/\o6 H H3) ⟨_,[],rfl,s2 _ _ e1,d3 _,fun s=>by simp,e2,s02⟩ ?_ ?_ ?_⟩
 ·rintro i σ H3 _ ⟨_,_,_,_,_,_,h,_⟩
  exact SqL.of h
 ·rintro i v _ H3 hv ⟨y2,R,rfl,f1,f2,f3,f4,s3⟩
  have hi:=(gI hv)
  have tk:(opW w).take (i+1)=(opW w).take i++[v]:=by rw[G5,hv];rfl
  ext
  rcases oo v (mI hv)with ⟨s,rfl,_⟩ | ⟨n,rfl,_⟩
  ·refine a1X (s := "str") rfl (by decide) ?_
   refine⟨_,rfl,?_⟩
   exists F4 (by decide) ?_
   refine c4d f1 ?_
   refine⟨_,rfl,?_⟩
   by_cases hm:s∈R
   ·exists y0 (by simp[hm]) ?_
    refine⟨_,R,rfl,f1,by omega,fun z=>?_,f4,s3⟩
    rw[f3,tk,h9,c7]
    refine⟨.inl,fun h=>h.elim id fun e=>?_⟩
    rw[e]
    exact(f3 s).mp hm
   ·exists F4 (by simp[hm]) ?_
    specialize a7x ?_
    exists ⟨Z1 f1,?_⟩
    refine a1m f1 (G9 (by rw[a9];omega)) ?_
    refine⟨_,R++[s],rfl,by rw[c9,t9];rfl,by rw[j3];simp;omega,fun z=>?_,by rw[g6 nD];exact f4,fun b o e=>by rw[g6 (d5 e hD)];exact s3 _ _ e⟩
    rw[h9,f3,tk,h9,c7,c7]
    exact⟨fun h=>h.imp id fun e=>by rw[e],fun h=>h.imp id V.str.inj⟩
  ·refine a1X (s := "int") rfl (by decide) ?_
   refine⟨_,rfl,?_⟩
   exists y0 (by decide) ?_
   refine⟨_,R,rfl,f1,by omega,fun z=>?_,f4,s3⟩
   rw[f3,tk,h9,c7]
   exact⟨.inl,fun h=>h.elim id fun e=>nomatch e⟩
 rintro _ H3 ⟨y2,R,rfl,f1,f2,f3,f4,s3⟩
 rw[F5]at f3
 ext
 exact k D R H3 hD f1 (by omega) (fun s=>(f3 s).trans (c3e s).symm) s3
theorem b6K(ck:a7D K c)(hz:a6y c H x N rs)(h400:N.length<=400)(hr:a6x H rs RC)(hw:∀(i:Nat) p,rs[i]? = some p->RwS H (RC i) (W i))(bd:∀ds:List Str,ds.Nodup->(∀s∈ds,∃i,i<rs.length/\s∈nmW (W i))->ds.length<64)
  (k:∀l ts H',H l=none->H' l=some (.lst ((ts:List Str).map V.str))->ts.Nodup->(∀s,s∈ts↔∃i,i<rs.length/\s∈nmW (W i))->X8 ts=true->o6 H H'->Q (.ref l) H'):a1a K [.ref x] H Q E:=by
 obtain⟨dx,r,n,e,p1,p2,p3,p4⟩:=id hz.ex
 refine⟨rfl,?_⟩
 unfold a5Z
 nofun
 exists C4 (by decide) fun D H1 hD e1 s1=>?_
 exact_mod_cast X7 ?_
 specialize Z9 (O7 ?_)
 specialize b5r ?_
 refine⟨x,_,dx,_,.ref r,rfl,s1 _ _ p1,ck.a0O,ck.a1F,rfl,?_⟩
 refine⟨r,rfl,⟨_,SqL.of (s1 _ _ p3)⟩,Y9 (xs:=rs.map V.ref) (fun i σ H2=>∃y2 F,σ=[some (.ref x),some (.ref D),y2]/\H2 D=some (.lst ((F:List Str).map V.str))/\F.length<=3 * i/\(∀s,s∈F↔∃j,j<i/\s∈nmW (W j))/\o6 H H2) ⟨_,[],rfl,e1,d3 _,fun s=>⟨(fun h=>nomatch h),fun⟨j,h,_⟩=>absurd h (a0P _)⟩,s1⟩ ?_ ?_ ?_⟩
 ·rintro i σ H2 _ ⟨_,_,_,_,_,_,s2⟩
  exact SqL.of (s2 _ _ p3)
 ·rintro i v _ H2 hv ⟨y2,F,rfl,f1,f2,f3,s2⟩
  rw[b7]at hv
  obtain⟨p,hp,rfl⟩:=j4.mp hv
  have hi:=(gI hp)
  have rX:=(hr i p hp).ts (o6.ts s2)
  have rW:=(hw i p hp).ts (o6.ts s2)
  ext
  nofun
  specialize a7x ?_
  exists ⟨Z1 f1,?_⟩
  exists b8W rX.1 rW fun rl R H3 hrl e3 lR mR s3=>?_
  refine a8C (s3 _ _ f1) e3 (a1q (G9 (by rw[a9,a9];omega))) ?_
  rw[<-t9]
  have t4:G7 H3 (upd H3 D (.lst ((F++R).map V.str))):=G7.put (s3 _ _ f1)
  have s4:o6 H (upd H3 D (.lst ((F++R).map V.str))):=fun b o e=>by rw[g6 (d5 e hD)];exact s3 _ _ (s2 _ _ e)
  obtain⟨H4,hH4⟩:∃H4,H4=upd H3 D (.lst ((F++R).map V.str)):=⟨_,rfl⟩
  have e4:H4 D=some (.lst ((F++R).map V.str)):=hH4 ▸ c9
  rw[<-hH4]at t4 s4 ⊢
  have rX4:=(hr i p hp).ts (o6.ts s4)
  have rW4:=(hw i p hp).ts (o6.ts s4)
  ext
  refine b0h rX4 fun H5 s5=>?_
  have step:∀(G:List Str),(∀s,s∈G↔(s∈F\/s∈R)\/s∈seW (W i))->∀s,s∈G↔∃j,j<i+1/\s∈nmW (W j):=fun G hG s=>by
   rw[hG,f3,mR]
   unfold nmW
   constructor
   ·rintro((⟨j,h1,h2⟩ | h) | h)
    ·exact⟨j,by omega,h2⟩
    ·exact⟨i,by omega,E8 _ h⟩
    ·exact⟨i,by omega,o7 _ h⟩
   ·rintro⟨j,h1,h2⟩
    by_cases e:j=i
    ·subst e
     rcases h9.mp h2 with h | h
     ·exact .inl (.inr h)
     ·exact .inr h
    ·exact .inl (.inl ⟨j,by omega,h2⟩)
  have sb:=c6b rW4
  cases hs:sbV (RC i)with
  | none=>
   rw[hs]at sb
   exists ⟨rfl,_,rfl,y0 rfl ?_⟩
   exact⟨_,F++R,rfl,s5 _ _ e4,by rw[j3];omega,step _ fun s=>by rw[h9,sb];simp,s4.trans s5⟩
  | some n=>
   rw[hs]at sb
   exists ⟨rfl,_,rfl,F4 rfl ?_⟩
   specialize a7x ?_
   exists ⟨Z1 (s5 _ _ e4),?_⟩
   refine b0h (rX4.ts (o6.ts s5)) fun H6 s6=>?_
   rw[hs]
   ext
   have s46:=s5.trans s6
   refine a1m (s46 _ _ e4) (G9 (by rw[a9,j3];omega)) ?_
   refine⟨_,F++R++[n],rfl,by rw[c9,t9,t9,t9];rfl,by rw[j3,j3];simp;omega,step _ fun s=>by rw[h9,h9,sb],fun b o e=>by rw[g6 (d5 e hD)];exact s46 _ _ (s4 _ _ e)⟩
 rintro _ H2 ⟨y2,F,rfl,f1,f2,f3,s2⟩
 rw[a9]at f2 f3
 ext
 specialize c7s ?_
 refine⟨D,F,rfl,f1,by omega,fun ds nd hd=>bd ds nd fun s hs=>(f3 s).mp (hd s hs),fun l ts nd mem so hl=>?_⟩
 exact k l ts _ (s2.free hl) c9 nd (fun s=>(mem s).trans (f3 s)) so (s2.trans (t8 hl))
end
section
theorem b0i:∀(l:List Str) (p:Str),b0y p l=true->(p::l).Pairwise (fun a b=>a.cps.toList<=b.cps.toList)
 | [],p,_=>by simp
 | x::r,p,h=>by
  have h:(!PySem.Spec.ltCps x.cps.toList p.cps.toList&&b0y x r)=true:=h
  rw[T4,PyProof.Rows.ltCps_eq,Bool.not_eq_true',decide_eq_false_iff_not]at h
  have ih:=b0i r x h.2
  have px:p.cps.toList<=x.cps.toList:=h.1
  refine c0E.mpr ⟨fun y hy=>?_,ih⟩
  rcases d8.mp hy with rfl | hy
  ·exact px
  ·exact List.le_trans px (List.rel_of_pairwise_cons ih hy)
theorem b0c:∀(l:List Str),X8 l=true->l.Pairwise (fun a b=>a.cps.toList<=b.cps.toList)
 | [],_=>b1T
 | x::r,h=>b0i r x h
theorem b2p{a b:List Str}(ha:X8 a=true)(hb:X8 b=true)(p:a.Perm b):a=b:=by
 refine p.eq_of_pairwise (le:=fun a b:Str=>a.cps.toList<=b.cps.toList) (fun x y _ _ h1 h2=>?_) (b0c a ha) (b0c b hb)
 have:=List.le_antisymm h1 h2
 obtain⟨⟨l⟩⟩:=x
 obtain⟨⟨m⟩⟩:=y
 have e:l=m:=this
 rw[e]
theorem c6V{a b:Key}(h:eqV (kV a) (kV b)=true):a=b:=by
 cases a with
 | inl i=>cases b with
  | inl j=>
   have h:(i == j)=true:=h
   have:=eq_of_beq h
   rw[this]
  | inr t=>cases h
 | inr s=>cases b with
  | inl j=>cases h
  | inr t=>
   have h:(s == t)=true:=h
   have:=eq_of_beq h
   rw[this]
theorem a6o(k:List Key):(k.map kV).all L9=true:=by
 rw[E4]
 intro v hv
 obtain⟨a,_,rfl⟩:=q9.mp hv
 cases a <;> rfl
theorem b3b(k k':List Key):Q3 (k.map kV) (k'.map kV)=decide (k=k'):=by
 by_cases e:k=k'
 ·subst e
  rw[b3c _ (a6o k),c8U rfl]
 ·rw[c8T e]
  cases h:Q3 (k.map kV) (k'.map kV)with
  | false=>rfl
  | true=>
   exfalso
   unfold Q3 at h
   rw[T4,E4,beq_iff_eq,a9,a9]at h
   obtain⟨h1,h2⟩:=h
   refine e (List.ext_getElem h2 fun j a b=>?_)
   have:=h1 j (a0d.mpr (by omega))
   rw[U0,U0,b7,b7,c8 a,c8 b]at this
   exact c6V this
end
def bD(ss:List Str):List (Key×V):=ss.map fun s=>(Sum.inr s,V.bl true)
section
variable {K:Fg}{c:Cn}{x:Addr}{W:Nat->Rw}{D:Nat->Option (List Key)}{E:XK}
theorem c0q:(bD ss).length=ss.length:=by unfold bD;rw[a9]
theorem c5z(h:s∈ss):a1u (bD ss) (Sum.inr s) (.bl true)=bD ss:=by
 unfold a1u
 rw[if_pos]
 ·refine(a6D fun q hq=>?_).trans (b7S _)
  obtain⟨u,hu,rfl⟩:=q9.mp hq
  show(if _ then _ else _)=_
  split <;> rfl
 ·rw[T1]
  exact⟨(Sum.inr s,.bl true),q9.mpr ⟨s,h,rfl⟩,by simp⟩
theorem c5A(h:s∉ss):a1u (bD ss) (Sum.inr s) (.bl true)=bD (ss++[s]):=by
 unfold a1u
 rw[if_neg]
 ·unfold bD;rw[t9];rfl
 ·rw[T1]
  rintro⟨q,hq,e⟩
  obtain⟨u,hu,rfl⟩:=q9.mp hq
  exact h (Sum.inr.inj (of_decide_eq_true e) ▸ hu)
def ptW(w:Rw):List V:=match w with
 | .set n _ a b=>[.str n,a,b]
 | .copy n v=>[.str n,v]
 | .take n=>[.str n]
 | .tell v=>[v]
 | .ask v=>[v]
 | .skip=>[]
theorem c3l(s:Str):V.str s∈ptW w↔s∈nmW w:=by
 unfold nmW
 rw[h9,c3e]
 have one:∀n:Str,V.str s=V.str n↔s=n:=fun n=>⟨V.str.inj,fun e=>by rw[e]⟩
 cases w with
 | set n k a b=>simp only[ptW,opW,seW,d8,j7,or_false,one];exact Or.comm
 | copy n v=>simp only[ptW,opW,seW,d8,j7,or_false,one];exact Or.comm
 | take n=>simp only[ptW,opW,seW,d8,j7,or_false,false_or,one]
 | tell v=>simp only[ptW,opW,seW,d8,j7,or_false]
 | ask v=>simp only[ptW,opW,seW,d8,j7,or_false]
 | skip=>simp only[ptW,opW,seW,j7,or_false]
theorem c6B(h:RwS H xs w):∀v∈ptW w,(∃s,v=.str s)\/∃i,v=.int i:=by
 have op:∀ {v:V},OpN v->(∃s,v=.str s)\/∃i,v=.int i:=fun o=>by
  rcases o with ⟨s,e,_⟩ | ⟨i,e,_⟩
  ·exact .inl ⟨s,e⟩
  ·exact .inr ⟨i,e⟩
 intro v hv
 cases w with
 | set n k a b=>
  obtain⟨q,_,_,o1,o2,_⟩:=h
  simp only[ptW,d8,j7,or_false]at hv
  rcases hv with rfl | rfl | rfl
  ·exact .inl ⟨n,rfl⟩
  ·exact op o1
  ·exact op o2
 | copy n v'=>
  simp only[ptW,d8,j7,or_false]at hv
  rcases hv with rfl | rfl
  ·exact .inl ⟨n,rfl⟩
  ·exact op h.2.1
 | take n=>rw[c7.mp hv];exact .inl ⟨n,rfl⟩
 | tell v'=>rw[c7.mp hv];exact op h.2
 | ask v'=>rw[c7.mp hv];exact op h.2
 | skip=>cases hv
end
inductive Fw(N:Nt):Stp->List Stp->Nat->Prop
 | one {s:Stp}:a9l N s->Fw N s [] (a2v N s)
 | cons {s s':Stp} {r:List Stp} {t:Nat}:a9l N s->s'.1=(a2v N s:Int)->Fw N s' r t->Fw N s (s'::r) t
def a0W(m:Nat):List (List Nat):=((z5 m).map fun k=>[k+1])++[[]]
section
variable {k t e:Nat}{W:List Stp}
theorem a4K:(a0W m).length=m+1:=by simp[a0W]
theorem a9c(h:k<m):(a0W m)[k]? = some [k+1]:=by
 unfold a0W
 rw[O2 (by simpa using h),b7,a0v h]
 rfl
theorem b0r:(a0W m)[m]? = some []:=by
 unfold a0W
 rw[M4 (by simp)]
 simp
theorem a2x{l:List Nat}(h:(a0W m)[k]? = some l):(k<m/\l=[k+1])\/(k=m/\l=[]):=by
 by_cases q:k<m
 ·rw[a9c q]at h
  cases h
  exact .inl ⟨q,rfl⟩
 ·have:=(gI h)
  rw[a4K]at this
  have:k=m:=by omega
  subst this
  rw[b0r]at h
  cases h
  exact .inr ⟨rfl,rfl⟩
theorem b3k(h:m<=399):a2Z (a0W m):=by
 have len:(a0W m).length=m+1:=a4K
 refine⟨by omega,by omega,fun l hl=>?_,fun l hl t ht=>?_,fun k hk=>?_,fun k hk=>?_⟩
 ·obtain⟨k,hk⟩:=C3.mp hl
  rcases a2x hk with ⟨_,rfl⟩ | ⟨_,rfl⟩ <;> simp
 ·obtain⟨k,hk⟩:=C3.mp hl
  rcases a2x hk with ⟨h1,rfl⟩ | ⟨_,rfl⟩
  ·have:t=k+1:=by simpa using ht
   omega
  ·cases ht
 ·rw[len]at hk
  induction k with
  | zero=>exact .zero
  | succ k ih=>exact .step (ih (by omega)) (a9c (by omega)) (by simp)
 ·rw[len]at hk
  have go:∀j k,k+j=m->Gd (a0W m) k:=by
   intro j
   induction j with
   | zero=>
    intro k e
    have:k=m:=by omega
    subst this
    exact .stop b0r
   | succ j ih=>
    intro k e
    exact .step (a9c (by omega)) (c7.mpr rfl) (ih (k+1) (by omega))
  exact go (m - k) k (by omega)
end
theorem b7p{tn:TE}(hm:m<=400)(htn:∀(s:St) (R:VK) (H':Hp),R (.int (m:Int)) H'->tn σ H' R)
  (k:∀a H',H a=none->D8 H' a (a0W m)->o6 H H'->Q (.ref a) H'):tOp a0R (V1 (a1z (b4 tn g0)) V0 (X0 (b4 (tOp a0R (c4 0) (tC (.int 1))) g0))) (X0 (b4 (X0 g0) g0)) σ H Q:=by
 exact_mod_cast c6h ?_
 exact_mod_cast W0 (a1s ?_)
 exact_mod_cast b8S ?_
 refine htn σ _ _ ?_
 exact_mod_cast c3c ?_
 refine⟨(m:Int),rfl,by omega,by omega,fun D hD=>?_⟩
 rw[i9]
 refine a4q (fun i ys H10=>∃as:List Addr,ys=as.map V.ref/\as.length=i/\(∀(j:Nat) y,as[j]? = some y->H10 y=some (.lst (IL [j+1]))/\y≠D)/\H10 D=some (.lst ys)/\o6 H H10) ?_ ?_ ?_ ?_
 ·exact⟨[],rfl,rfl,by simp,c9,t8 hD⟩
 ·rintro i ys H10 ⟨_,_,_,_,h,_⟩
  exact h
 ·rintro i ys H10 hi ⟨as,rfl,la,at10,hD10,s10⟩ R hR
  rw[X9]
  ext
  refine C4 (by simp) fun y H11 hy e11 s11=>?_
  have nyD:y≠D:=(d5 hD10 hy).symm
  refine hR _ _ (s11 _ _ hD10) (G9 (by rw[a9];omega)) ⟨as++[y],by simp,by simp[la],fun j z e=>?_,c9,fun b o e=>?_⟩
  ·rcases Q0 e with ⟨_,e⟩ | ⟨hj,e⟩
   ·obtain⟨q1,q2⟩:=at10 j z e
    exact⟨by rw[g6 q2];exact s11 _ _ q1,q2⟩
   ·subst e
    refine⟨?_,nyD⟩
    rw[g6 nyD,e11,hj,la]
    rfl
  ·rw[g6 (d5 e hD)];exact s11 _ _ (s10 _ _ e)
 rintro _ H10 ⟨as,rfl,la,at10,hD10,s10⟩
 ext
 exists C4 (by simp) fun y2 H12 hy2 e12 s12=>?_
 refine C4 (by simp) fun y3 H13 hy3 e13 s13=>?_
 have s1013:=s12.trans s13
 refine b9a (s1013 _ _ hD10) e13 ?_
 refine C4 (a1q (by rw[a9];show as.length+1<100000;omega)) fun na H14 hna e14 s14=>?_
 have s1014:=s1013.trans s14
 refine k na H14 ((s10.trans s1013).free hna) ⟨as++[y2],by rw[t9];exact e14,by rw[j3,la,a4K];rfl,fun i x l f1 f2=>?_⟩ (s10.trans s1014)
 rcases a2x f2 with ⟨hi,rfl⟩ | ⟨hi,rfl⟩
 ·rw[O2 (by omega)]at f1
  exact s1014 _ _ (at10 i x f1).1
 ·rw[M4 (by omega),show i - as.length=0 by omega]at f1
  cases f1
  exact(s13.trans s14) _ _ e12
section
variable {K:Fg}{c:Cn}{x:Addr}{W:Nat->Rw}{D:Nat->Option (List Key)}{E:XK}
theorem b2R(hra:H ra=some (.lst (rs.map V.ref)))(l400:rs.length<=400)(hr:a6x H rs RC)(hw:∀(i:Nat) p,rs[i]? = some p->RwS H (RC i) (W i))(bd:∀ds:List Str,ds.Nodup->(∀s∈ds,∃i,i<rs.length/\s∈nmW (W i))->ds.length<64)
  (k:∀l ts H',H l=none->H' l=some (.lst ((ts:List Str).map V.str))->ts.Nodup->(∀s,s∈ts↔∃i,i<rs.length/\s∈nmW (W i))->o6 H H'->Q (.ref l) H'):a2p K [.ref ra] H Q E:=by
 refine⟨rfl,?_⟩
 unfold a8h
 nofun
 exists b4k fun fd H1 hfd e1 s1=>?_
 exact_mod_cast X7 ?_
 specialize Z9 (O7 ?_)
 refine⟨ra,rfl,⟨_,SqL.of (s1 _ _ hra)⟩,Y9 (xs:=rs.map V.ref) (fun i σ H2=>∃y2 y3 y4 ss,σ=[some (.ref ra),some (.ref fd),y2,y3,y4]/\H2 fd=some (.dK (bD ss))/\ss.Nodup/\(∀s,s∈ss↔∃j,j<i/\s∈nmW (W j))/\ss.length<=3 * i/\o6 H H2) ⟨_,_,_,[],rfl,e1,a2K,fun s=>⟨(fun h=>nomatch h),fun⟨j,h,_⟩=>absurd h (a0P _)⟩,d3 _,s1⟩ ?_ ?_ ?_⟩
 ·rintro i σ H2 _ ⟨_,_,_,_,_,_,_,_,_,s2⟩
  exact SqL.of (s2 _ _ hra)
 ·rintro i v _ H2 hv ⟨y2,y3,y4,ss,rfl,e2,nd,sp,sl,s2⟩
  rw[b7]at hv
  obtain⟨p,hp',rfl⟩:=j4.mp hv
  have hi:=(gI hp')
  obtain⟨hx,rS⟩:=(hr i p hp').ts (o6.ts s2)
  have rW:=(hw i p hp').ts (o6.ts s2)
  obtain⟨w,hwd⟩:∃w,w=W i:=⟨_,rfl⟩
  rw[<-hwd]at rW
  generalize RC i=xs at hx rS rW
  obtain⟨k0,r0,rfl⟩:=rS.head
  ext
  nofun
  refine c3h hx (b2O _ _) fun q H3 hq e3 s3=>?_
  rw[c2y]at e3
  ext
  exists c4a e3 fun wl H4 hwl e4 s4=>?_
  have s24:=s3.trans s4
  have hx4:=s24 _ _ hx
  have rW4:=rW.ts (o6.ts s24)
  exact_mod_cast a1V (P:=fun σ H5=>∃wl,σ=[some (.ref ra),some (.ref fd),some (.ref p),some (.ref wl),y4]/\H5 wl=some (.lst (ptW w))/\o6 H4 H5) ?_ ?_
  rotate_left
  ·intro nx hnx
   ext
   exists J7 hx4 (a2d _ _) ?_
   have old:r0=ptW w->nx [some (.ref ra),some (.ref fd),some (.ref p),some (.ref wl),y4] H4:=fun h=>hnx _ _ ⟨wl,rfl,by rw[<-h];exact e4,o6.refl _⟩
   cases w with
   | set n kd a b=>
    obtain⟨q2,er,hq2,_⟩:=rW4
    cases er
    exists F4 (by decide) ?_
    exists J7 hx4 (a3O _ _ _) ?_
    exists J7 hx4 (a7B _ _ _ _) ?_
    exists J7 hq2 (a3O _ _ _) ?_
    exists J7 hx4 (a7B _ _ _ _) ?_
    exists J7 hq2 (a7B _ _ _ _) ?_
    exists C4 (by simp) fun wl2 H5 hwl2 e5 s5=>?_
    exact hnx _ _ ⟨wl2,rfl,e5,s5⟩
   | copy n v=>
    obtain⟨er,_⟩:=rW4
    cases er
    exists y0 (by decide) ?_
    exact old rfl
   | take n=>
    obtain⟨er,_⟩:=rW4
    cases er
    exists y0 (by decide) ?_
    exact old rfl
   | tell v=>
    obtain⟨er,_⟩:=rW4
    cases er
    exists y0 (by decide) ?_
    exact old rfl
   | ask v=>
    obtain⟨er,_⟩:=rW4
    cases er
    exists y0 (by decide) ?_
    exact old rfl
   | skip=>
    cases rW4
    exists y0 (by decide) ?_
    exact old rfl
  rintro _ H5 ⟨wl,rfl,e5,s5⟩
  have s05:=(s2.trans s24).trans s5
  have f5:=(s24.trans s5) _ _ e2
  have po:=c6B rW
  specialize Z9 (O7 ?_)
  refine⟨wl,rfl,⟨_,SqL.of e5⟩,Y9 (xs:=ptW w) (fun j σ H6=>∃y4 s6,σ=[some (.ref ra),some (.ref fd),some (.ref p),some (.ref wl),y4]/\H6 fd=some (.dK (bD s6))/\s6.Nodup/\(∀s,s∈s6↔s∈ss\/V.str s∈(ptW w).take j)/\s6.length<=ss.length+j/\H6 wl=some (.lst (ptW w))/\o6 H H6) ⟨_,ss,rfl,f5,nd,fun s=>by simp,d3 _,e5,s05⟩ ?_ ?_ ?_⟩
  ·rintro j σ H6 _ ⟨_,_,_,_,_,_,_,q,_⟩
   exact SqL.of q
  ·rintro j u _ H6 hu ⟨y4,s6,rfl,f6,nd6,m6,l6,e6,s06⟩
   have tk:(ptW w).take (j+1)=(ptW w).take j++[u]:=by rw[G5,hu];rfl
   have hj:=(gI hu)
   have lp:(ptW w).length<=3:=by cases w <;> simp[ptW]
   ext
   rcases po u (mI hu)with ⟨s,rfl⟩ | ⟨m,rfl⟩
   ·refine a1X (s := "str") rfl (by decide) ?_
    refine⟨_,rfl,?_⟩
    refine F4 (by decide) ?_
    specialize a8z ?_
    refine⟨fd,_,rfl,a9m.k (k:=Sum.inr s) f6 (G9 (by rw[c0q];omega)),?_⟩
    have s7:∀ {kvs:List (Key×V)},o6 H (upd H6 fd (.dK kvs)):=fun b o e=>by rw[g6 (d5 e hfd)];exact s06 _ _ e
    have e7:∀ {kvs:List (Key×V)},upd H6 fd (.dK kvs) wl=some (.lst (ptW w)):=(g6 (L1 e6 f6 (by intro z;cases z))).trans e6
    by_cases hm:s∈s6
    ·rw[c5z hm]
     refine⟨_,s6,rfl,c9,nd6,fun z=>?_,by omega,e7,s7⟩
     rw[m6,tk,h9,c7]
     constructor
     ·exact fun h=>h.imp id .inl
     ·rintro(h | h | h)
      ·exact .inl h
      ·exact .inr h
      ·exact V.str.inj h ▸ (m6 s).mp hm
    ·rw[c5A hm]
     refine⟨_,s6++[s],rfl,c9,?_,fun z=>?_,by rw[j3];simp;omega,e7,s7⟩
     ·exact a1h.mpr ⟨nd6,by simp,fun a ha b hb e=>hm (by rw[c7.mp hb]at e;rw[<-e];exact ha)⟩
     ·rw[h9,m6,tk,h9,c7,c7,or_assoc]
      exact⟨fun h=>h.imp id fun h=>h.imp id fun e=>by rw[e],fun h=>h.imp id fun h=>h.imp id V.str.inj⟩
   ·refine a1X (s := "int") rfl (by decide) ?_
    refine⟨_,rfl,?_⟩
    exists y0 (by decide) ?_
    refine⟨_,s6,rfl,f6,nd6,fun z=>?_,by omega,e6,s06⟩
    rw[m6,tk,h9,c7]
    exact⟨fun h=>h.imp id .inl,fun h=>h.imp id fun h=>h.elim id fun e=>nomatch e⟩
  rintro _ H6 ⟨y4,s6,rfl,f6,nd6,m6,l6,e6,s06⟩
  have lp:(ptW w).length<=3:=by cases w <;> simp[ptW]
  rw[F5]at m6
  refine⟨_,_,_,s6,rfl,f6,nd6,fun s=>?_,by omega,s06⟩
  rw[m6,sp,c3l,hwd]
  constructor
  ·rintro(⟨j,h1,h2⟩ | h)
   ·exact⟨j,by omega,h2⟩
   ·exact⟨i,by omega,h⟩
  ·rintro⟨j,h1,h2⟩
   by_cases e:j=i
   ·subst e;exact .inr h2
   ·exact .inl ⟨j,by omega,h2⟩
 rintro _ H2 ⟨y2,y3,y4,ss,rfl,e2,nd,sp,sl,s2⟩
 rw[a9]at sp
 ext
 have ld:a3q [.ref fd] H2=fun Q=>∀l,H2 l=none->Q (.ref l) (upd H2 l (.lst ((bD ss).map fun kv=>kV kv.1))):=by
  unfold a3q
  simp only[e2]
 rw[ld]
 intro l1 hl1
 ext
 refine⟨l1,ss,rfl,?_,bd ss nd fun s hs=>(sp s).mp hs,fun l ts pm hl=>?_⟩
 ·rw[c9]
  unfold bD
  rw[S9]
  rfl
 exact k l ts _ (s2.free ((t8 hl1).free hl)) c9 (pm.nodup_iff.mpr nd) (fun s=>pm.mem_iff.trans (sp s)) ((s2.trans (t8 hl1)).trans (t8 hl))
theorem a4p(hra:H ra=some (.lst (rs.map V.ref)))(l400:rs.length<=400)(hD:b3A H rs D)(k:∀l bs H',H l=none->H' l=some (.lst ((bs:List Addr).map V.ref))->a1o H' bs (a1y D rs.length)->o6 H H'->Q (.ref l) H'):a0s K [.ref ra] H Q E:=by
 refine⟨rfl,?_⟩
 unfold a8k
 nofun
 exists C4 (by simp) fun L H1 hL e1 s1=>?_
 exact_mod_cast X7 ?_
 specialize Z9 (O7 ?_)
 refine⟨ra,rfl,⟨_,SqL.of (s1 _ _ hra)⟩,Y9 (xs:=rs.map V.ref) (fun i σ H2=>∃y2 bs,σ=[some (.ref ra),some (.ref L),y2]/\H2 L=some (.lst ((bs:List Addr).map V.ref))/\a1o H2 bs (a1y D i)/\o6 H H2) ⟨_,[],rfl,e1,⟨rfl,fun i b k h=>nomatch h⟩,s1⟩ ?_ ?_ ?_⟩
 ·rintro i σ H2 _ ⟨_,_,_,_,_,s2⟩
  exact SqL.of (s2 _ _ hra)
 ·rintro i v _ H2 hv ⟨y2,bs,rfl,e2,kb,s2⟩
  rw[b7]at hv
  obtain⟨p,hp',rfl⟩:=j4.mp hv
  have hi:=(gI hp')
  have dk:=(hD i p hp').ts (o6.ts s2)
  ext
  cases hd:D i with
  | none=>
   rw[hd]at dk
   obtain⟨s,xs,hx,ns⟩:=dk
   exists J7 hx (a2d _ _) ?_
   exists y0 (c8T fun z=>ns (V.str.inj z)) ?_
   exact⟨_,bs,rfl,e2,by rw[a2c,hd];exact kb,s2⟩
  | some ky=>
   rw[hd]at dk
   obtain⟨n,d,hx,hd'⟩:=dk
   exists J7 hx (a2d _ _) ?_
   exists F4 (by decide) ?_
   exists J7 hx (a7B _ _ _ _) ?_
   refine⟨d,L,_,bs,rfl,rfl,hd',a6o ky,e2,fun b hb=>?_,?_⟩
   ·obtain⟨j,hj⟩:=C3.mp hb
    have lj:=(gI hj)
    obtain⟨k',hk'⟩:∃k',(a1y D i)[j]? = some k':=⟨_,c8 (by rw[<-kb.1];exact lj)⟩
    exact⟨_,kb.2 j b k' hj hk',a6o k'⟩
   have ea:bs.any (a5a H2 (ky.map kV))=inK (a1y D i) ky:=by
    rw[Q9,a7O,T1]
    constructor
    ·rintro⟨b,hb,h⟩
     obtain⟨j,hj⟩:=C3.mp hb
     have lj:=(gI hj)
     obtain⟨k',hk'⟩:∃k',(a1y D i)[j]? = some k':=⟨_,c8 (by rw[<-kb.1];exact lj)⟩
     unfold a5a at h
     rw[kb.2 j b k' hj hk']at h
     have h:Q3 (k'.map kV) (ky.map kV)=true:=h
     rw[b3b,decide_eq_true_eq]at h
     rw[<-h]
     exact mI hk'
    ·intro h
     obtain⟨j,hj⟩:=C3.mp h
     have lj:=(gI hj)
     obtain⟨b,hb⟩:∃b,bs[j]? = some b:=⟨_,c8 (by rw[kb.1];exact lj)⟩
     refine⟨b,mI hb,?_⟩
     unfold a5a
     rw[kb.2 j b ky hb hj]
     show Q3 (ky.map kV) (ky.map kV)=true
     rw[b3b,c8U rfl]
   rw[ea]
   refine⟨_,rfl,?_⟩
   have lk:=a4H D i
   cases hin:inK (a1y D i) ky with
   | true=>
    exists y0 rfl ?_
    exact⟨_,bs,rfl,e2,by rw[a2c,hd,c2F (a7O.mp hin)];exact kb,s2⟩
   | false=>
    exists F4 rfl ?_
    specialize a7x ?_
    exists ⟨Z1 e2,?_⟩
    exists J7 hx (a7B _ _ _ _) ?_
    refine a1m e2 (G9 (by rw[a9,kb.1];omega)) ?_
    have ts:G7 H2 (upd H2 L (.lst (bs.map V.ref++[V.ref d]))):=G7.put e2
    refine⟨_,bs++[d],rfl,by rw[c9,t9];rfl,?_,fun b o e=>by rw[g6 (d5 e hL)];exact s2 _ _ e⟩
    have ek:a1y D (i+1)=a1y D i++[ky]:=by
     rw[a2c,hd]
     unfold b1H
     exact if_neg (by rw[hin];decide)
    rw[ek]
    refine⟨by rw[j3,j3,kb.1];rfl,fun j b k' f1 f2=>?_⟩
    rcases Q0 f1 with ⟨h1,f1⟩ | ⟨h1,f1⟩
    ·rcases Q0 f2 with ⟨_,f2⟩ | ⟨h2,_⟩
     ·exact ts _ _ (kb.2 j b k' f1 f2)
     ·have:=kb.1;omega
    ·rcases Q0 f2 with ⟨h2,_⟩ | ⟨_,f2⟩
     ·have:=kb.1;omega
     ·subst f1 f2
      exact ts _ _ hd'
 rintro _ H2 ⟨y2,bs,rfl,e2,kb,s2⟩
 rw[a9]at kb
 ext
 exact k L bs H2 hL e2 kb s2
end
def kS(n:Nat):Str:=("k" : Str)++a4i (n:Int)
theorem c5n(n:Nat):(kS n).cps.toList=107::(a4i (n:Int)).cps.toList:=by
 have:(kS n).cps=("k" : Str).cps++(a4i (n:Int)).cps:=rfl
 rw[this,Array.toList_append,show("k" : Str).cps.toList=[107] by decide +kernel]
 rfl
theorem c5a{t:Str}{m:Int}(h1:n<10 ^ 10)(h:(a4i (n:Int)).cps.toList=t.cps.toList)(hm:c5J t=some m):(n:Int)=m:=by
 have e:a4i (n:Int)=t:=by
  have:=congrArg List.toArray h
  simp only[Array.toArray_toList]at this
  cases hn:a4i (n:Int)
  cases t
  rw[hn]at this
  exact congrArg _ this
 have q:=PySem.W.KIN.num_reads (n:=(n:Int)) (by omega) (by omega)
 rw[show (toString (n:Int))=t from e,hm]at q
 exact(Option.some.inj q).symm
theorem b5I(h1:n<10 ^ 10)(h:kS n∈MC):n<=2:=by
 have key:∀t:Str,kS n=t->107::(a4i (n:Int)).cps.toList=t.cps.toList:=fun t e=>by rw[<-c5n,e]
 have no:∀t:Str,t.cps.toList.head?≠some 107->kS n≠t:=fun t ht e=>ht (by rw[<-key t e];rfl)
 have yes:∀(t u:Str) (m:Int),t.cps.toList=107::u.cps.toList->c5J u=some m->kS n=t->(n:Int)=m:=fun t u m a b e=>c5a h1 (by
  have:=key t e
  rw[a]at this
  exact(List.cons.inj this).2) b
 unfold MC at h
 simp only[d8,j7,or_false]at h
 rcases h with h | h | h | h | h | h | h | h | h | h
 ·exact absurd h (no _ (by decide +kernel))
 ·exact absurd h (no _ (by decide +kernel))
 ·exact absurd h (no _ (by decide +kernel))
 ·have:=yes _ ("0" : Str) 0 (by decide +kernel) (by decide +kernel) h
  omega
 ·exact absurd h (no _ (by decide +kernel))
 ·have:=yes _ ("1" : Str) 1 (by decide +kernel) (by decide +kernel) h
  omega
 ·exact absurd h (no _ (by decide +kernel))
 ·exact absurd h (no _ (by decide +kernel))
 ·have:=yes _ ("2" : Str) 2 (by decide +kernel) (by decide +kernel) h
  omega
 ·exact absurd h (no _ (by decide +kernel))
def nxF(T:List Str):Nat->Nat->Nat
 | 0,n=>n
 | f+1,n=>if kS n∈T then nxF T f (n+1)else n
theorem b9H{T:List Str}{f:Nat}(h:kS n∈T):nxF T (f+1) n=nxF T f (n+1):=by rw[nxF,if_pos h]
theorem b5E{T:List Str}{f:Nat}(h:¬kS n∈T):nxF T f n=n:=by
 cases f with
 | zero=>rfl
 | succ f=>rw[nxF,if_neg h]
theorem b1l(T:List Str):∀f n,nxF T f n<=n+f
 | 0,n=>d3 _
 | f+1,n=>by
  rw[nxF]
  split
  ·have:=b1l T f (n+1)
   omega
  ·omega
theorem a6V{T T':List Str}(h:∀s,s∈T↔s∈T'):∀f n,nxF T f n=nxF T' f n
 | 0,n=>rfl
 | f+1,n=>by
  rw[nxF,nxF,a6V h f]
  by_cases e:kS n∈T
  ·rw[if_pos e,if_pos ((h _).mp e)]
  ·rw[if_neg e,if_neg fun z=>e ((h _).mpr z)]
def a2I(T:List Str):Nat->Nat
 | 0=>0
 | i+1=>nxF T 5 (a2I T i)+1
def nmF(T:List Str)(i:Nat):Str:=kS (nxF T 5 (a2I T i))
theorem b1m(T:List Str):∀i,a2I T i<=6 * i
 | 0=>d3 _
 | i+1=>by
  rw[a2I]
  have:=b1m T i
  have:=b1l T 5 (a2I T i)
  omega
theorem a8L{T T':List Str}(h:∀s,s∈T↔s∈T'):∀i,a2I T i=a2I T' i
 | 0=>rfl
 | i+1=>by rw[a2I,a2I,a8L h i,a6V h]
theorem b0k{T T':List Str}(h:∀s,s∈T↔s∈T')(i:Nat):nmF T i=nmF T' i:=by
 unfold nmF
 rw[a8L h,a6V h]
structure PlB(c:Cn)(H:Hp)(x:Addr)(N:Nt)(rs:List Addr)(RC:Nat->List V)(W:Nat->Rw):Prop where
 pc:a6y c H x N rs
 le:N.length<=400
 rc:a6x H rs RC
 rw:∀(i:Nat) p,rs[i]? = some p->RwS H (RC i) (W i)
 mc:∀i,i<rs.length->∀s∈nmW (W i),s∈MC
section
variable {K:Fg}{c:Cn}{x:Addr}{W:Nat->Rw}{T ts:List Str}{E:XK}
theorem PlB.same(h:PlB c H x N rs RC W)(k:o6 H H'):PlB c H' x N rs RC W:=⟨h.pc.same k,h.le,h.rc.ts (o6.ts k),fun i p e=>(h.rw i p e).ts (o6.ts k),h.mc⟩
theorem c3o(mc:∀i,i<rs.length->∀s∈nmW (W i),s∈MC):∀ds:List Str,ds.Nodup->(∀s∈ds,∃i,i<rs.length/\s∈nmW (W i))->ds.length<64:=fun ds nd h=>by
 have:=b1n ds MC nd fun s hs=>by
  obtain⟨i,h1,h2⟩:=h s hs
  exact mc i h1 s h2
 have l10:MC.length=10:=rfl
 omega
theorem c5y(T:List Str)(s:Str):(a2C (bD T) (Sum.inr s)).isSome=decide (s∈T):=by
 rw[<-a2V]
 unfold bD
 rw[b5Y,Q9,T1,decide_eq_true_iff]
 constructor
 ·rintro⟨u,hu,e⟩
  have:(Sum.inr u:Key)=Sum.inr s:=of_decide_eq_true e
  exact Sum.inr.inj this ▸ hu
 ·exact fun h=>⟨s,h,by simp⟩
theorem c6l{p:Str}(h:te σ H fun x H1=>∃i:Int,x=.int i/\0<=i/\i<10 ^ 10/\Q (.str (p++a4i i)) H1):tFK p te σ H Q:=h
theorem b1q(n:Nat):("k" : Str)++a4i (n:Int)=kS n:=rfl
theorem c0K{vs:List V}{k:List Key}(nd:ks.Nodup)(hk:ks[i]? = some k):a2C ((ks.take i).zip vs) k=none:=by
 cases e:a2C ((ks.take i).zip vs) k with
 | none=>rfl
 | some v=>
  have m:=c0T e
  obtain⟨⟨k',v'⟩,h1,rfl⟩:=q9.mp m
  have m2:=(a4S h1).1
  obtain⟨j,hj⟩:=C3.mp m2
  have lj:j<i:=by
   have:=(gI hj)
   rw[C9]at this
   omega
  rw[b3I lj]at hj
  obtain⟨l2,q2⟩:=j6.mp hj
  obtain⟨l3,q3⟩:=j6.mp hk
  exact absurd (q2.trans q3.symm) (List.pairwise_iff_getElem.mp nd j i l2 l3 lj)
def zsF(T:List Str)(ks:List (List Key))(i:Nat):List (List Key×V):=(ks.take i).zip ((z5 i).map fun j=>V.str (nmF T j))
theorem c0J{k:List Key}(nd:ks.Nodup)(hk:ks[i]? = some k):a1u (zsF T ks i) k (.str (nmF T i))=zsF T ks (i+1):=by
 have li:=(gI hk)
 unfold zsF
 rw[b9f _ (c0K nd hk),G5,hk,a0J,t9,List.zip_append (by rw[C9,a9,G6];omega)]
 rfl
theorem c3w(h:ks.length=n):(zsF T ks n).length=n:=by
 unfold zsF
 rw[c5K,C9,a9,G6]
 omega
theorem a8r(ck:a7D K c)(P:PlB c H x N rs RC W)(hd:H dl=some (.lst (ds.map V.ref)))(kd:a1o H ds ks)(nd:ks.Nodup)(lk:ks.length<=400)
  (k:∀d T H',H d=none->(∀s,s∈T↔∃i,i<rs.length/\s∈nmW (W i))->H' d=some (.dT (zsF T ks ks.length))->o6 H H'->Q (.ref d) H'):a0C K c [.ref x,.ref dl] H Q E:=by
 have bd:=c3o P.mc
 obtain⟨dx,r,n,e,p1,_⟩:=id P.pc.ex
 refine⟨rfl,?_⟩
 unfold a5b
 nofun
 specialize W0 (O7 ?_)
 specialize b8Q ?_
 exists ⟨x,dx,_,rfl,p1,c5c r n e _ (by decide),?_⟩
 refine b6K ck P.pc P.le P.rc P.rw bd fun nl T H1 hnl e1 ndT mT _ s1=>?_
 have TM:∀s∈T,s∈MC:=fun s hs=>by
  obtain⟨i,h1,h2⟩:=(mT s).mp hs
  exact P.mc i h1 s h2
 have lT:T.length<=10:=b1n T MC ndT TM
 refine⟨nl,rfl,⟨_,SqL.of e1⟩,fun L hL=>?_⟩
 refine W3 (xs:=T.map V.str) (fun i ys H2=>∃ps:List Addr,ys=ps.map V.ref/\ps.length=i/\(∀(j:Nat) p s,ps[j]? = some p->T[j]? = some s->H2 p=some (.tup [.str s,.bl true]))/\H2 L=some (.lst ys)/\o6 H1 H2) ⟨[],rfl,rfl,by simp,c9,t8 hL⟩ ?_ ?_ ?_ ?_
 ·rintro i ys H2 ⟨_,_,_,_,h,_⟩
  exact h
 ·rintro i ys H2 _ ⟨_,_,_,_,_,s2⟩
  exact SqL.of (s2 _ _ e1)
 ·rintro i y ys H2 hy ⟨ps,rfl,lp,at2,e2,s2⟩ R hR
  rw[b7]at hy
  obtain⟨s,hs,rfl⟩:=j4.mp hy
  have hi:=(gI hs)
  ext
  refine C4 (by simp) fun p H3 hp e3 s3=>?_
  have e2':=s3 _ _ e2
  have t3:G7 H3 (upd H3 L (.lst (ps.map V.ref++[.ref p]))):=G7.put e2'
  refine hR _ _ e2' (G9 (by rw[a9];omega)) ⟨ps++[p],by simp,by simp[lp],fun j q u f1 f2=>?_,c9,fun b o z=>by rw[g6 (d5 z hL)];exact s3 _ _ (s2 _ _ z)⟩
  rcases Q0 f1 with ⟨_,g⟩ | ⟨hj,g⟩
  ·exact t3 _ _ (s3 _ _ (at2 j q u g f2))
  ·subst g
   rw[hj,lp,hs]at f2
   cases f2
   exact t3 _ _ e3
 rintro _ H2 ⟨ps,rfl,lp,at2,e2,s2⟩
 rw[a9]at lp
 ext
 refine⟨L,ps.map V.ref,bD T,rfl,e2,by rw[a9,c0q,lp],fun i kk v h=>?_,?_,fun tk htk=>?_⟩
 ·unfold bD at h
  rw[b7]at h
  obtain⟨s,hs,z⟩:=j4.mp h
  cases z
  have hi:=(gI hs)
  have hq:ps[i]? = some (ps[i]'(by omega)):=c8 (by omega)
  exact⟨_,by rw[b7,hq];rfl,at2 i _ s hq hs⟩
 ·unfold bD
  rw[S9]
  exact List.Pairwise.map _ (fun a b h z=>h (Sum.inr.inj z)) ndT
 have e3:upd H2 tk (.dK (bD T)) tk=some (.dK (bD T)):=c9
 have s3:o6 H2 (upd H2 tk (.dK (bD T))):=t8 htk
 revert e3 s3
 generalize upd H2 tk (.dK (bD T))=H3
 intro e3 s3
 ext
 have s13:=(s1.trans s2).trans s3
 nofun
 intro sd hsd
 have e4:upd H3 sd (.dT []) sd=some (.dT []):=c9
 have s4:o6 H3 (upd H3 sd (.dT [])):=t8 hsd
 revert e4 s4
 generalize upd H3 sd (.dT [])=H4
 intro e4 s4
 ext
 have s04:=s13.trans s4
 have sd0:=s13.free hsd
 have nst:sd≠tk:=(d5 e3 hsd).symm
 nofun
 exact_mod_cast X7 ?_
 specialize Z9 (O7 ?_)
 refine⟨dl,rfl,⟨_,SqL.of (s04 _ _ hd)⟩,Y9 (xs:=ds.map V.ref) (fun i σ Hi=>∃y5,σ=[some (.ref x),some (.ref dl),some (.ref tk),some (.ref sd),some (.int (a2I T i:Int)),y5]/\Hi sd=some (.dT (zsF T ks i))/\Hi tk=some (.dK (bD T))/\o6 H Hi) ⟨_,rfl,e4,s4 _ _ e3,s04⟩ ?_ ?_ ?_⟩
 ·rintro i σ Hi _ ⟨_,_,_,_,si⟩
  exact SqL.of (si _ _ hd)
 ·rintro i v _ Hi hv ⟨y5,rfl,ei,ti,si⟩
  rw[b7]at hv
  obtain⟨q,hq,rfl⟩:=j4.mp hv
  have li:=(gI hq)
  have lki:i<ks.length:=by rw[<-kd.1];exact li
  have hk:ks[i]? = some (ks[i]'lki):=c8 lki
  have hqk:=si _ _ (kd.2 i q _ hq hk)
  have nle:=b1m T i
  have nx5:=b1l T 5 (a2I T i)
  ext
  exact_mod_cast X7 ?_
  exact_mod_cast b0T ?_
  refine⟨fun m σ Hj=>∃f n',σ=[some (.ref x),some (.ref dl),some (.ref tk),some (.ref sd),some (.int ((n':Nat):Int)),some (.ref q)]/\nxF T f n'=nxF T 5 (a2I T i)/\3<=n'+f/\n'<=10000/\Hj=Hi/\m=3 - n',⟨_,5,a2I T i,rfl,rfl,by omega,by omega,rfl,rfl⟩,?_⟩
  rintro m _ Hj ⟨f,n',rfl,hf,h3,hn,rfl,rfl⟩
  ext
  specialize b5s (c6l ?_)
  refine⟨by omega,by omega,?_⟩
  rw[b1q]
  ext
  refine⟨tk,_,rfl,a3a.k (k:=Sum.inr (kS n')) ti,?_⟩
  rw[c5y]
  ext
  by_cases hm:kS n'∈T
  ·rw[c8U hm]
   have n2:=b5I (by omega) (TM _ hm)
   refine F4 rfl ?_
   obtain⟨f',rfl⟩:∃f',f=f'+1:=⟨f - 1,by omega⟩
   rw[b9H hm]at hf
   refine⟨fun σ Hk=>σ=[some (.ref x),some (.ref dl),some (.ref tk),some (.ref sd),some (.int ((n'+1:Nat):Int)),some (.ref q)]/\Hk=Hj,?_,?_⟩
   ·rintro _ _ ⟨rfl,rfl⟩
    exact⟨3 - (n'+1),by omega,f',n'+1,rfl,hf,by omega,by omega,rfl,rfl⟩
   ·exists c3d rfl ?_
    exact⟨rfl,rfl⟩
  ·rw[c8T hm]
   refine y0 rfl ?_
   rw[b5E hm]at hf
   have nm:nmF T i=kS n':=by unfold nmF;rw[<-hf]
   have nn:a2I T (i+1)=n'+1:=by rw[a2I,<-hf]
   exact_mod_cast X7 ?_
   specialize a8z (c6l ?_)
   refine⟨by omega,by omega,?_⟩
   rw[b1q,<-nm]
   ext
   refine⟨sd,_,rfl,a9m.t ei hqk (G9 (by unfold zsF;rw[c5K,C9];omega)),?_⟩
   rw[c0J nd hk]
   exists c3d rfl ?_
   refine⟨_,by rw[nn];rfl,c9,by rw[g6 nst.symm];exact ti,fun b o z=>by rw[g6 (d5 z sd0)];exact si _ _ z⟩
 rintro _ Hi ⟨y5,rfl,ei,ti,si⟩
 ext
 rw[a9,kd.1]at ei
 exact k sd T Hi sd0 mT ei si
end
section
variable {K:Fg}{c:Cn}{x:Addr}{W:Nat->Rw}{T ts:List Str}{E:XK}
theorem b9V(n:Nat)(h:n<10 ^ 10):("k" : Str).length+(a4i (n:Int)).length<=i8:=by
 have h1:(a4i (n:Int)).length<=10:=b3D (by omega) (by omega)
 have h2:("k" : Str).length=1:=by decide +kernel
 exact A1 (show("k" : Str).length+(a4i (n:Int)).length<=110 by omega) (by decide)
theorem c0e(hra:H ra=some (.lst (rs.map V.ref)))(l400:rs.length<=400)(hr:a6x H rs RC)(hw:∀(i:Nat) p,rs[i]? = some p->RwS H (RC i) (W i))(mc:∀i,i<rs.length->∀s∈nmW (W i),s∈MC)(hd:H dl=some (.lst (ds.map V.ref)))(ld:ds.length<=400)
  (k:∀L T ps H',H L=none->(∀s,s∈T↔∃i,i<rs.length/\s∈nmW (W i))->H' L=some (.lst ((ps:List Addr).map V.ref))->ps.length=ds.length->(∀(j:Nat) p q,ps[j]? = some p->ds[j]? = some q->H' p=some (.tup [.ref q,.str (nmF T j)]))->o6 H H'->Q (.ref L) H'):a8o K [.ref ra,.ref dl] H Q E:=by
 refine⟨rfl,?_⟩
 unfold c3a
 nofun
 refine b2R hra l400 hr hw (c3o mc) fun nl T H1 hnl e1 ndT mT s1=>?_
 have TM:∀s∈T,s∈MC:=fun s hs=>by
  obtain⟨i,h1,h2⟩:=(mT s).mp hs
  exact mc i h1 s h2
 ext
 nofun
 exists C4 (by simp) fun L H2 hL e2 s2=>?_
 nofun
 have s02:=s1.trans s2
 have hL0:=s1.free hL
 exact_mod_cast X7 ?_
 specialize Z9 (O7 ?_)
 refine⟨dl,rfl,⟨_,SqL.of (s02 _ _ hd)⟩,Y9 (xs:=ds.map V.ref) (fun i σ Hi=>∃y5 ps,σ=[some (.ref ra),some (.ref dl),some (.ref nl),some (.ref L),some (.int (a2I T i:Int)),y5]/\Hi L=some (.lst ((ps:List Addr).map V.ref))/\ps.length=i/\(∀(j:Nat) p q,ps[j]? = some p->ds[j]? = some q->Hi p=some (.tup [.ref q,.str (nmF T j)]))/\Hi nl=some (.lst (T.map V.str))/\o6 H Hi) ⟨_,[],rfl,e2,rfl,by simp,s2 _ _ e1,s02⟩ ?_ ?_ ?_⟩
 ·rintro i σ Hi _ ⟨_,_,_,_,_,_,_,si⟩
  exact SqL.of (si _ _ hd)
 ·rintro i v _ Hi hv ⟨y5,ps,rfl,ei,lp,ap,ni,si⟩
  rw[b7]at hv
  obtain⟨q,hq,rfl⟩:=j4.mp hv
  have li:=(gI hq)
  have nle:=b1m T i
  have nx5:=b1l T 5 (a2I T i)
  ext
  exact_mod_cast X7 ?_
  exact_mod_cast b0T ?_
  refine⟨fun m σ Hj=>∃f n',σ=[some (.ref ra),some (.ref dl),some (.ref nl),some (.ref L),some (.int ((n':Nat):Int)),some (.ref q)]/\nxF T f n'=nxF T 5 (a2I T i)/\3<=n'+f/\n'<=10000/\Hj=Hi/\m=3 - n',⟨_,5,a2I T i,rfl,rfl,by omega,by omega,rfl,rfl⟩,?_⟩
  rintro m _ Hj ⟨f,n',rfl,hf,h3,hn,rfl,rfl⟩
  ext
  refine⟨(n':Int),rfl,by omega,by omega,?_⟩
  refine b4n (b9V n' (by omega)) ?_
  rw[b1q]
  ext
  exists b8Z ni ?_
  by_cases hm:kS n'∈T
  ·rw[c8U hm]
   have n2:=b5I (by omega) (TM _ hm)
   refine F4 rfl ?_
   obtain⟨f',rfl⟩:∃f',f=f'+1:=⟨f - 1,by omega⟩
   rw[b9H hm]at hf
   refine⟨fun σ Hk=>σ=[some (.ref ra),some (.ref dl),some (.ref nl),some (.ref L),some (.int ((n'+1:Nat):Int)),some (.ref q)]/\Hk=Hj,?_,?_⟩
   ·rintro _ _ ⟨rfl,rfl⟩
    exact⟨3 - (n'+1),by omega,f',n'+1,rfl,hf,by omega,by omega,rfl,rfl⟩
   ·ext
    exact⟨rfl,rfl⟩
  ·rw[c8T hm]
   refine y0 rfl ?_
   rw[b5E hm]at hf
   have nm:nmF T i=kS n':=by unfold nmF;rw[<-hf]
   have nn:a2I T (i+1)=n'+1:=by rw[a2I,<-hf]
   nofun
   specialize a7x ?_
   exists ⟨Z1 ei,?_⟩
   refine⟨(n':Int),rfl,by omega,by omega,?_⟩
   refine b4n (b9V n' (by omega)) ?_
   rw[b1q,<-nm]
   ext
   exists C4 (by simp) fun tp H3 htp e3 s3=>?_
   have ei3:=s3 _ _ ei
   refine a1m ei3 (G9 (by rw[a9];omega)) ?_
   have t4:G7 H3 (upd H3 L (.lst (ps.map V.ref++[.ref tp]))):=G7.put ei3
   have nnl:nl≠L:=d5 e1 hL
   ext
   refine⟨_,ps++[tp],by rw[nn];rfl,by rw[t9];exact c9,by simp[lp],fun j p u f1 f2=>?_,by rw[g6 nnl];exact s3 _ _ ni,fun b o z=>by rw[g6 (d5 z hL0)];exact s3 _ _ (si _ _ z)⟩
   rcases Q0 f1 with ⟨_,g⟩ | ⟨hj,g⟩
   ·exact t4 _ _ (s3 _ _ (ap j p u g f2))
   ·subst g
    rw[hj,lp,hq]at f2
    cases f2
    rw[hj,lp]
    exact t4 _ _ e3
 rintro _ Hi ⟨y5,ps,rfl,ei,lp,ap,ni,si⟩
 ext
 rw[a9]at lp
 exact k L T ps Hi hL0 mT ei lp ap si
end
section
variable {K:Fg}{c:Cn}{x q:Addr}{W:Nat->Rw}{T ts:List Str}{E:XK}
theorem a5F(h:a1o H ds ks)(t:G7 H H'):a1o H' ds ks:=⟨h.1,fun i b k a e=>t _ _ (h.2 i b k a e)⟩
theorem c1f{P:Addr->Prop}(h:ta σ H fun x H1=>∃a kvs,x=.ref a/\H1 a=some (.dT kvs)/\(P a->∀ob bs,a1o H1 bs (kvs.map (·.1))->R (Itf ob a kvs bs) (upd H1 a (.frz ob (.dT kvs))))):b4R P ta σ H R:=h
theorem b8T{f:V->List V->Hp->VK->Prop}{to:TE}(h:to σ H fun x H1=>tyV K "dict" x H1/\f x [] H1 Q):b3X K "dict" f to σ H Q:=h
theorem b5t{td ty:TE}(h:td σ H fun x H1=>ty σ H1 fun y H2=>∃a v,x=.ref a/\a3a H2 a y (some v)/\Q v H2):b2l td ty σ H Q:=h
theorem c3S{td ty:TE}(h:ty σ H fun y H1=>td σ H1 fun x H2=>∃a o,x=.ref a/\a3a H2 a y o/\Q (.bl (!o.isSome)) H2):a2l ty td σ H Q:=h
theorem c2X{kvs:List (List Key×V)}(h:H p=some (.dT kvs)):tyV K "dict" (.ref p) H:=.inr (.inr (.inl ⟨rfl,.inr ⟨kvs,h⟩⟩))
theorem b5k{κ:Type}[DecidableEq κ]:∀ {kvs:List (κ×V)} {j:Nat} {k:κ} {v:V},(kvs.map (·.1)).Nodup->kvs[j]? = some (k,v)->a2C kvs k=some v
 | (k',v')::r,0,k,v,_,h=>by cases h;exact a3W rfl
 | (k',v')::r,j+1,k,v,nd,h=>by
  rw[F6,Q8]at nd
  have hm:(k,v)∈r:=mI h
  rw[a3X (fun e=>nd.1 (q9.mpr ⟨_,hm,e.symm⟩))]
  exact b5k (j:=j) nd.2 h
 | [],j,k,v,_,h=>by cases h
theorem b5i(h:ks.length=n):(zsF T ks n).map (·.1)=ks:=by
 unfold zsF
 rw[<-h,F5]
 exact List.map_fst_zip (by rw[a9,G6];exact d3 _)
theorem c0I(h:ks.length=n):(zsF T ks n).map (·.2)=((z5 n).map (nmF T)).map V.str:=by
 unfold zsF
 rw[<-h,F5,S9]
 exact List.map_snd_zip (by rw[a9,G6];exact d3 _)
theorem c2U{k:List Key}(nd:ks.Nodup)(hj:ks[j]? = some k):a2C (zsF T ks ks.length) k=some (.str (nmF T j)):=by
 have lj:=(gI hj)
 refine b5k (j:=j) (by rw[b5i rfl];exact nd) ?_
 unfold zsF
 rw[F5,List.getElem?_zip_eq_some]
 refine⟨hj,?_⟩
 rw[b7,a0v lj]
 rfl
theorem b7c(n:Nat)(h1:H p=some (.lst (ds.map V.ref)))(k1:a1o H ds ks)(h2:H q=some (.lst (ds.map V.ref))):Dq K H (n+2) (.ref p) (.ref q):=by
 refine .lst (SqL.of h1) (SqL.of h2) rfl fun i u v f1 f2=>?_
 rw[f1]at f2
 cases f2
 rw[b7]at f1
 obtain⟨a,ha,rfl⟩:=j4.mp f1
 have li:=(gI ha)
 obtain⟨k',hk'⟩:∃k',ks[i]? = some k':=⟨_,c8 (by rw[<-k1.1];exact li)⟩
 refine .tup (SqT.of (k1.2 i a k' ha hk')) (SqT.of (k1.2 i a k' ha hk')) rfl fun j u v g1 g2=>?_
 rw[g1]at g2
 cases g2
 exact .flat (E4.mp (a6o k') u (mI g1))
theorem b6s(n:Nat)(h1:H p=some (.lst (ts.map V.str)))(h2:H q=some (.lst (ts.map V.str))):Dq K H (n+1) (.ref p) (.ref q):=by
 refine .lst (SqL.of h1) (SqL.of h2) rfl fun i u v f1 f2=>?_
 rw[f1]at f2
 cases f2
 rw[b7]at f1
 obtain⟨z,_,rfl⟩:=j4.mp f1
 exact .flat rfl
theorem b2V(ck:a7D K c)(P:PlB c H x N rs RC W)(hra:H ra=some (.lst (rs.map V.ref)))(l400:rs.length<=400)(hd:H dl=some (.lst (ds.map V.ref)))(kd:a1o H ds ks)(nd:ks.Nodup)(lk:ks.length<64)
  (k:∀H',o6 H H'->Q (.bl true) H'):a0E K c [.ref x,.ref ra,.ref dl] H Q E:=by
 refine⟨rfl,?_⟩
 unfold b8A
 nofun
 exists a4F hd fun hl H1 hhl e1 s1=>?_
 nofun
 exists a8r ck (P.same s1) e1 (a5F kd (o6.ts s1)) nd (by omega) fun fd T H2 hfd mT e2 s2=>?_
 have s02:=s1.trans s2
 have fd0:=s1.free hfd
 have kd2:=a5F kd (o6.ts s02)
 nofun
 exists a1X (s := "dict") (by simp only[a2D,e2]) (by decide) ?_
 exists y0 (by decide) ?_
 exists ⟨hl,dl,2,rfl,rfl,by decide,b7c 0 (s2 _ _ e1) kd2 (s02 _ _ hd),?_⟩
 exists y0 rfl ?_
 exact_mod_cast X7 ?_
 intro PP
 specialize Z9 (c1f ?_)
 refine⟨fd,_,rfl,e2,fun hP ob bs kb=>?_⟩
 rw[b5i rfl]at kb
 refine b5N (J:=Itf ob fd (zsF T ks ks.length) bs) bs.length (fun i σ H4=>∃y5,σ=[some (.ref x),some (.ref ra),some (.ref dl),some (.ref hl),some (.ref fd),y5,none]/\H4=upd H2 fd (.frz ob (.dT (zsF T ks ks.length)))) ⟨_,rfl,rfl⟩ ?_ ?_ ?_
 rotate_left
 ·rintro i _ _ hi ⟨y5,rfl,rfl⟩
  exact⟨hi,c9⟩
 ·rintro i _ _ hi ⟨y5,rfl,rfl⟩ v H4 ⟨rfl,b,hb,rfl⟩
  obtain⟨u,hu⟩:∃u,ks[i]? = some u:=⟨_,c8 (by rw[<-kb.1];exact hi)⟩
  have hbt:=kb.2 i b u hb hu
  have dg:a3a (upd H2 fd (.frz ob (.dT (zsF T ks ks.length)))) fd (.ref b) (a2C (zsF T ks ks.length) u):=.inr ⟨_,u,b,.inr ⟨ob,c9⟩,rfl,by rw[g6 (L1 hbt e2 (by intro z;cases z))];exact hbt,rfl⟩
  rw[c2U nd hu]at dg
  ext
  specialize b5t ?_
  exists ⟨fd,_,rfl,dg,?_⟩
  exists a1X (s := "str") rfl (by decide) ?_
  exists y0 (by decide) ?_
  exact⟨_,rfl,rfl⟩
 rintro _ _ ⟨y5,rfl,rfl⟩
 refine⟨⟨d3 _,c9⟩,fd,ob,_,c9,hP,?_⟩
 rw[a7F]
 have e3:(upd H2 fd (.dT (zsF T ks ks.length))) fd=some (.dT (zsF T ks ks.length)):=c9
 have s03:o6 H (upd H2 fd (.dT (zsF T ks ks.length))):=fun b o q=>by rw[g6 (d5 q fd0)];exact s02 _ _ q
 revert e3 s03
 generalize upd H2 fd (.dT (zsF T ks ks.length))=H3
 intro e3 s03
 nofun
 specialize b8T ?_
 refine⟨c2X e3,fd,_,rfl,rfl,e3,fun vw hvw=>?_⟩
 have e4:upd H3 vw (vwO vw fd) vw=some (vwO vw fd):=c9
 have s4:o6 H3 (upd H3 vw (vwO vw fd)):=t8 hvw
 revert e4 s4
 generalize upd H3 vw (vwO vw fd)=H4
 intro e4 s4
 ext
 refine⟨vw,fd,_,rfl,e4,s4 _ _ e3,fun vl hvl=>?_⟩
 rw[c0I rfl]
 have e5:upd H4 vl (.lst (((z5 ks.length).map (nmF T)).map V.str)) vl=_:=c9
 have s5:o6 H4 (upd H4 vl (.lst (((z5 ks.length).map (nmF T)).map V.str))):=t8 hvl
 revert e5 s5
 generalize upd H4 vl (.lst (((z5 ks.length).map (nmF T)).map V.str))=H5
 intro e5 s5
 ext
 refine⟨vl,_,rfl,e5,by rw[a9,G6];exact lk,fun sl ts1 pm1 so1 hsl=>?_⟩
 have e6:upd H5 sl (.lst (ts1.map V.str)) sl=_:=c9
 have s6:o6 H5 (upd H5 sl (.lst (ts1.map V.str))):=t8 hsl
 revert e6 s6
 generalize upd H5 sl (.lst (ts1.map V.str))=H6
 intro e6 s6
 ext
 have s36:=(s4.trans s5).trans s6
 have s06:=s03.trans s36
 specialize W0 (O7 ?_)
 have ld:ds.length<=400:=by rw[kd.1];omega
 refine c0e (s06 _ _ hra) l400 (P.rc.ts (o6.ts s06)) (fun i p e=>(P.rw i p e).ts (o6.ts s06)) P.mc (s06 _ _ hd) ld fun ul T2 ps H7 hul mT2 e7 lp ap s7=>?_
 have TT:∀s,s∈T2↔s∈T:=fun s=>(mT2 s).trans (mT s).symm
 have lpk:ps.length=ks.length:=by rw[lp,kd.1]
 refine⟨ul,rfl,⟨_,SqL.of e7⟩,fun L hL=>?_⟩
 refine W3 (xs:=ps.map V.ref) (fun i ys H8=>ys=((z5 i).map (nmF T)).map V.str/\H8 L=some (.lst ys)/\o6 H7 H8) ⟨rfl,c9,t8 hL⟩ ?_ ?_ ?_ ?_
 ·rintro i ys H8 ⟨_,h,_⟩
  exact h
 ·rintro i ys H8 _ ⟨_,_,s8⟩
  exact SqL.of (s8 _ _ e7)
 ·rintro i y ys H8 hy ⟨rfl,e8,s8⟩ R hR
  rw[b7]at hy
  obtain⟨p,hp,rfl⟩:=j4.mp hy
  have hi:=(gI hp)
  obtain⟨q,hq⟩:∃q,ds[i]? = some q:=⟨_,c8 (by omega)⟩
  ext
  refine J7 (s8 _ _ (ap i p q hp hq)) (a3O _ _ _) ?_
  rw[b0k TT]
  refine hR _ _ e8 (G9 (by rw[a9,a9,G6];omega)) ⟨by rw[a0J,t9,t9];rfl,c9,fun b o z=>by rw[g6 (d5 z hL)];exact s8 _ _ z⟩
 rintro _ H8 ⟨rfl,e8,s8⟩
 rw[a9,lpk]at e8
 ext
 refine⟨L,_,rfl,e8,by rw[a9,G6];exact lk,fun sl2 ts2 pm2 so2 hsl2=>?_⟩
 have te:ts1=ts2:=b2p so1 so2 (pm1.trans pm2.symm)
 subst te
 have s68:=s7.trans s8
 have s9:o6 H8 (upd H8 sl2 (.lst (ts1.map V.str))):=t8 hsl2
 have e9:upd H8 sl2 (.lst (ts1.map V.str)) sl2=_:=c9
 revert e9 s9
 generalize upd H8 sl2 (.lst (ts1.map V.str))=H9
 intro s9 e9
 have s69:=s68.trans s9
 exists ⟨sl,sl2,1,rfl,rfl,by decide,b6s 0 (s69 _ _ e6) e9,?_⟩
 exists y0 rfl ?_
 have s39:=s36.trans s69
 have s09:=s03.trans s39
 have e39:=s39 _ _ e3
 nofun
 refine⟨fd,_,rfl,e39,?_⟩
 rw[c3w rfl]
 ext
 refine Q1 (s09 _ _ hd) ?_
 rw[a9,kd.1]
 ext
 exists y0 (by simp) ?_
 exact_mod_cast X7 ?_
 specialize Z9 (O7 ?_)
 refine c0e (s09 _ _ hra) l400 (P.rc.ts (o6.ts s09)) (fun i p e=>(P.rw i p e).ts (o6.ts s09)) P.mc (s09 _ _ hd) ld fun ul3 T3 ps3 H10 hul3 mT3 e10 lp3 ap3 s10=>?_
 have TT3:∀s,s∈T3↔s∈T:=fun s=>(mT3 s).trans (mT s).symm
 have s010:=s09.trans s10
 have e310:=s10 _ _ e39
 have kd10:=a5F kd (o6.ts s010)
 refine⟨ul3,rfl,⟨_,SqL.of e10⟩,Y9 (xs:=ps3.map V.ref) (fun i σ Hi=>∃y5 y6,σ=[some (.ref x),some (.ref ra),some (.ref dl),some (.ref hl),some (.ref fd),y5,y6]/\Hi=H10) ⟨_,_,rfl,rfl⟩ ?_ ?_ ?_⟩
 ·rintro i σ _ _ ⟨_,_,_,rfl⟩
  exact SqL.of e10
 ·rintro i v _ _ hv ⟨y5,y6,rfl,rfl⟩
  rw[b7]at hv
  obtain⟨p,hp,rfl⟩:=j4.mp hv
  have hi:=(gI hp)
  have hi2:i<ks.length:=by rw[<-kd.1];omega
  obtain⟨q,hq⟩:∃q,ds[i]? = some q:=⟨_,c8 (by omega)⟩
  have hu:ks[i]? = some (ks[i]'hi2):=c8 hi2
  refine a3m (SqT.of (ap3 i p q hp hq)) ?_
  have dg:=a3a.t e310 (kd10.2 i q _ hq hu)
  rw[c2U nd hu]at dg
  ext
  specialize c3S ?_
  exists ⟨fd,_,rfl,dg,?_⟩
  exists y0 rfl ?_
  specialize b5t ?_
  exists ⟨fd,_,rfl,dg,?_⟩
  rw[b0k TT3]
  exists y0 (by simp) ?_
  exact⟨_,_,rfl,rfl⟩
 rintro _ _ ⟨y5,y6,rfl,rfl⟩
 nofun
 specialize b8T ?_
 exists ⟨c2X e310,fd,_,rfl,rfl,e310,?_⟩
 exact k _ fun b o z=>by rw[g6 (d5 z fd0)];exact s010 _ _ z
end
structure RwB(H:Hp)(ra na:Addr)(N:Nt)(rs:List Addr)(RC:Nat->List V)(W:Nat->Rw)(D:Nat->Option (List Key)):Prop where
 hra:H ra=some (.lst (rs.map V.ref))
 r:O8 H ra N
 n:D8 H na N
 v:a2Z N
 l:N.length<=30
 rc:a6x H rs RC
 rw:∀(i:Nat) p,rs[i]? = some p->RwS H (RC i) (W i)
 dk:b3A H rs D
 mc:∀i,i<rs.length->∀s∈nmW (W i),s∈MC
section
variable {K:Fg}{c:Cn}{x q:Addr}{W:Nat->Rw}{D:Nat->Option (List Key)}{T ts:List Str}{E:XK}
theorem RwB.same(h:RwB H ra na N rs RC W D)(s:o6 H H'):RwB H' ra na N rs RC W D:=⟨s _ _ h.hra,h.r.same s,h.n.same s,h.v,h.l,h.rc.ts (o6.ts s),fun i p e=>(h.rw i p e).ts (o6.ts s),h.dk.ts (o6.ts s),h.mc⟩
theorem RwB.kept(h:RwB H ra na N rs RC W D)(hB:Bag H b d)(k:A0 b H H'):RwB H' ra na N rs RC W D:=⟨k.1 _ _ h.hra (a0k hB h.hra),h.r.kept hB k,h.n.kept hB h.v.two k,h.v,h.l,h.rc.ts (k.ts hB),fun i p e=>(h.rw i p e).ts (k.ts hB),h.dk.ts (k.ts hB),h.mc⟩
theorem RwB.len(h:RwB H ra na N rs RC W D):rs.length=N.length:=by
 obtain⟨rs',q1,q2,_⟩:=h.r.ex
 rw[h.hra]at q1
 have:=congrArg b7U (HO.lst.inj (Option.some.inj q1))
 rw[a9,a9]at this
 omega
theorem c6T(h1:H p=some (.tup xs))(h2:RwS H xs w)(hm:RwM H (.ref p)):∀s∈nmW w,s∈MC:=by
 intro s hs
 rw[<-c3l]at hs
 obtain⟨p',xs',e0,e1,m1,m2⟩:=hm
 cases e0
 rw[h1]at e1
 cases e1
 have tl:∀(t:V) (r:List V),xs=t::r->V.str s∈r->s∈MC:=fun t r e hr=>by
  obtain⟨j,hj⟩:=C3.mp hr
  exact m1 j s (by rw[e];exact hj)
 cases w with
 | set n k a b=>
  obtain⟨q,rfl,hq,_⟩:=h2
  obtain⟨ys,f1,f2⟩:=m2 q (by simp)
  rw[hq]at f1
  cases f1
  simp only[ptW,d8,j7,or_false]at hs
  rcases hs with z | z | z
  ·exact m1 0 s (by rw[z];rfl)
  ·exact f2 0 s (by rw[z];rfl)
  ·exact f2 1 s (by rw[z];rfl)
 | copy n v=>exact tl _ _ h2.1 hs
 | take n=>exact tl _ _ h2.1 hs
 | tell v=>exact tl _ _ h2.1 hs
 | ask v=>exact tl _ _ h2.1 hs
 | skip=>cases hs
theorem RwB.of(hra:H ra=some (.lst (rs.map V.ref)))(hR:O8 H ra N)(hn:D8 H na N)(v:a2Z N)(l:N.length<=30)(hm:∀x∈rs,RwM H (.ref x)):∃(RC:Nat->List V) (W:Nat->Rw) (D:Nat->Option (List Key)),RwB H ra na N rs RC W D:=by
 obtain⟨RC,hr⟩:=b8V hR hra
 have ex:∀i:Nat,∃w:Rw,∀p,rs[i]? = some p->RwS H (RC i) w:=fun i=>by
  cases e:rs[i]? with
  | none=>exact⟨.skip,fun p z=>nomatch z⟩
  | some p=>
   obtain⟨w,hw⟩:=(hr i p e).2.rw
   exact⟨w,fun _ _=>hw⟩
 obtain⟨W,hW⟩:=Classical.axiomOfChoice ex
 obtain⟨D,hD⟩:=b3A.ex hR hra
 refine⟨RC,W,D,hra,hR,hn,v,l,hr,hW,hD,fun i hi=>?_⟩
 have e:rs[i]? = some (rs[i]'hi):=c8 hi
 exact c6T (hr i _ e).1 (hW i _ e) (hm _ (y9 hi))
theorem PlB.kept(h:PlB c H x N rs RC W)(hB:Bag H b d)(v:a2Z N)(k:A0 b H H'):PlB c H' x N rs RC W:=⟨h.pc.kept hB v.two k,h.le,h.rc.ts (k.ts hB),fun i p e=>(h.rw i p e).ts (k.ts hB),h.mc⟩
theorem b5H(ck:a7D K c)(h:RwB H ra na N rs RC W D)(k:∀x H',PlB c H' x N rs RC W->o6 H H'->Q (.ref x) H'):a6g K c [.ref ra,.ref na] H Q E:=by
 have l30:=h.l
 refine⟨rfl,?_⟩
 unfold b8y
 ext
 specialize c3N ?_
 exists a4F h.hra fun r2 H1 hr2 e1 s1=>?_
 exists b5a (h.n.same s1) (by omega) rfl fun n2 H2 n2' s2=>?_
 intro x dx hx hdx hne
 have s02:=s1.trans s2
 have h2:=h.same s02
 have R2:O8 H2 r2 N:=by
  obtain⟨rs',q1,q2,q3⟩:=h2.r.ex
  exact⟨rs',by rw[<-q1,h2.hra];exact s2 _ _ e1,q2,q3⟩
 have sm:o6 H2 (upd (upd H2 dx (.own x)) x (.ins c.P0 dx [])):=fun b o e=>by
  rw[g6 (d5 e hx),g6 (d5 e hdx)];exact e
 obtain⟨H9,hH9⟩:∃H9,H9=upd (upd H2 dx (.own x)) x (.ins c.P0 dx []):=⟨_,rfl⟩
 have x9:H9 x=some (.ins c.P0 dx []):=hH9 ▸ c9
 rw[<-hH9]at sm ⊢
 refine b1e ck (sm _ _ (s2 _ _ e1)) (R2.same sm) (n2'.same sm) h.v x9 fun H10 pz old=>⟨rfl,?_⟩
 have s:o6 H2 H10:=fun b o e=>old b o (sm _ _ e) (d5 e hx)
 have h10:=h2.same s
 exact k x H10 ⟨pz.pc,h.v.le,h10.rc,h10.rw,h.mc⟩ (s02.trans s)
theorem b5o(hB:Bag H b d)(hd:H dl=some (.lst (ds.map V.ref)))(kd:a1o H ds ks)(nd:ks.Nodup)(lk:ks.length<=100)
  (k:∀L es js H',H L=none->H' L=some (.lst ((es:List Addr).map V.ref))->a1o H' es js->js.Nodup->js.length<=ks.length->Bag H' b d->A0 b H H'->Q (.ref L) H'):a6d K [.ref b,.ref dl] H Q E:=by
 refine⟨rfl,?_⟩
 unfold b8v
 ext
 specialize W0 (O7 ?_)
 refine⟨dl,rfl,⟨_,SqL.of hd⟩,fun L hL=>?_⟩
 obtain⟨Lb,Ld⟩:=hB.nb hL
 have ndl:dl≠b:=a0k hB hd
 refine c5v ds.length (fun i ys Hi=>∃(es:List Addr) (js:List (List Key)),ys=es.map V.ref/\es.length=js.length/\(∀(j:Nat) e k,es[j]? = some e->js[j]? = some k->Hi e=some (.tup (k.map kV)))/\js.Sublist (ks.take i)/\Hi L=some (.lst ys)/\Bag Hi b d/\A0 b H Hi) ⟨[],[],rfl,rfl,by simp,by simp,c9,hB.new hL,A0.new hL⟩ ?_ ?_ ?_ ?_
 ·rintro i ys Hi ⟨_,_,_,_,_,_,h,_⟩
  exact h
 ·rintro ys Hi ⟨es,js,rfl,lj,aj,sj,eL,Bi,ki⟩
  refine⟨⟨_,SqL.of (ki.1 _ _ hd ndl),by rw[a9];exact d3 _⟩,?_⟩
  rw[kd.1,F5]at sj
  exact k L es js Hi hL eL ⟨lj,aj⟩ (nd.sublist sj) sj.length_le Bi ki
 ·rintro i ys Hi hi ⟨es,js,rfl,lj,aj,sj,eL,Bi,ki⟩
  exact⟨_,V.ref (ds[i]'hi),SqL.of (ki.1 _ _ hd ndl),by rw[b7,c8 hi];rfl⟩
 ·rintro i ys Hi hi ⟨es,js,rfl,lj,aj,sj,eL,Bi,ki⟩ v H3 ⟨e3,gv⟩ R S hR hS
  subst e3
  have gv:=gv _ (SqL.of (ki.1 _ _ hd ndl))
  rw[b7]at gv
  obtain⟨q,hq,rfl⟩:=j4.mp gv
  have hi2:i<ks.length:=by rw[<-kd.1];exact hi
  have hu:ks[i]? = some (ks[i]'hi2):=c8 hi2
  have ljk:js.length<=ks.length:=A1 sj.length_le (by rw[C9];omega)
  ext
  exists M3 Bi (by decide) (by decide) fun m H4 m0 m1 B4 k4=>?_
  have ts4:=k4.ts Bi
  have eL4:=k4.1 _ _ eL Lb
  have tk:ks.take (i+1)=ks.take i++[ks[i]'hi2]:=by rw[G5,hu];rfl
  refine a1n (fun _=>?_) (fun _=>?_)
  ·ext
   have t5:G7 H4 (upd H4 L (.lst (es.map V.ref++[.ref q]))):=G7.put eL4
   refine hR _ _ eL4 (G9 (by rw[a9];omega)) ⟨es++[q],js++[ks[i]'hi2],by simp,by simp[lj],fun j e kk f1 f2=>?_,by rw[tk];exact sj.append (List.Sublist.refl _),c9,B4.put Lb Ld,(ki.trans k4).put hL⟩
   rcases Q0 f1 with ⟨h1,f1⟩ | ⟨h1,f1⟩
   ·rcases Q0 f2 with ⟨_,f2⟩ | ⟨h2,_⟩
    ·exact t5 _ _ (ts4 _ _ (aj j e kk f1 f2))
    ·omega
   ·rcases Q0 f2 with ⟨h2,_⟩ | ⟨h2,f2⟩
    ·omega
    ·subst f1 f2
     exact t5 _ _ ((ki.trans k4).ts hB _ _ (kd.2 i _ _ hq hu))
  ·exact hS _ ⟨es,js,rfl,lj,fun j e kk f1 f2=>ts4 _ _ (aj j e kk f1 f2),by rw[tk];exact sj.trans (List.sublist_append_left _ _),eL4,B4,ki.trans k4⟩
end
section
variable {K:Fg}{c:Cn}{x q:Addr}{E:XK}
theorem c0p(hB:Bag H b d)
  (k:∀p ra na N H',H' p=some (.tup [.ref ra,.ref na])->O8 H' ra N->D8 H' na N->a2Z N->N.length<=30->(∃rs:List Addr,H' ra=some (.lst (rs.map V.ref))/\∀x∈rs,RwM H' (.ref x))->Bag H' b d->A0 b H H'->Q (.ref p) H'):a6h K [.ref b] H Q E:=by
 refine⟨rfl,?_⟩
 unfold b5l
 nofun
 exists b5z hB fun sa H0 N0 M0 B0 k0 _=>?_
 nofun
 refine M3 B0 (by decide) (by decide) fun n1 H1 a0 a1 B1 k1=>?_
 obtain⟨m,hm⟩:∃m:Nat,12+n1=(m:Int):=⟨(12+n1).toNat,by omega⟩
 refine c3k ?_
 rw[hm]
 have m12:12<=m:=by omega
 have m30:m<=30:=by omega
 ext
 obtain⟨N1,nsa⟩:=N0.kept B0 k1
 have M1:=M0.kept nsa k1
 nofun
 exists C4 (by simp) fun L H2 hL e2 s2=>?_
 obtain⟨Lb,Ld⟩:=B1.nb hL
 exact_mod_cast X7 ?_
 specialize Z9 (a1s ?_)
 refine⟨(m:Int),rfl,by omega,by omega,?_⟩
 rw[i9]
 refine a0V (fun i σ Hi=>∃y4 y5 rs,σ=[some (.ref b),some (.ref sa),some (.int (m:Int)),some (.ref L),y4,y5]/\Hi L=some (.lst ((rs:List Addr).map V.ref))/\rs.length=i/\(∀x∈rs,a7C Hi (.ref x) false/\RwM Hi (.ref x))/\Bag Hi b d/\A0 b H1 Hi) ⟨_,_,[],rfl,e2,rfl,by simp,B1.same s2,A0.of_same s2⟩ ?_ ?_
 ·rintro i _ Hi hi ⟨y4,y5,rs,rfl,ei,lr,ar,Bi,ki⟩
  rw[X9]
  ext
  obtain⟨Ni,_⟩:=N1.kept B1 ki
  have Mi:=M1.kept nsa ki
  obtain⟨ss,s1,s2,s3,s4⟩:=Ni.ex
  nofun
  exists Q1 s1 ?_
  refine a7L Bi s1 nsa (by simpa using s2) (by rw[a9];omega) fun n v H3 f1 f2 a3 B3 k3=>?_
  refine O6 a3 f1 ?_
  obtain⟨u1,hu1,rfl⟩:=q9.mp f2
  ext
  exists C4 (by simp) fun q1 H4 hq1 e4 t4=>?_
  specialize a7x ?_
  have ei4:=t4 _ _ (k3.1 _ _ ei Lb)
  exists ⟨Z1 ei4,?_⟩
  have a4:=t4 _ _ a3
  exists Q1 a4 ?_
  refine a7L (B3.same t4) a4 nsa (by simpa using s2) (by rw[a9];omega) fun n' v' H5 f3 f4 a5 B5 k5=>?_
  refine O6 a5 f3 ?_
  obtain⟨u2,hu2,rfl⟩:=q9.mp f4
  ext
  exists C4 (by simp) fun q2 H6 hq2 e6 t6=>?_
  have q1b:=(B3.nb hq1).1
  have ei6:=t6 _ _ (k5.1 _ _ ei4 Lb)
  have e46:=t6 _ _ (k5.1 _ _ e4 q1b)
  refine a1m ei6 (G9 (by rw[a9];omega)) ?_
  have t7:G7 H6 (upd H6 L (.lst (rs.map V.ref++[.ref q2]))):=G7.put ei6
  have kk:A0 b Hi H6:=(k3.trans (A0.of_same t4)).trans (k5.trans (A0.of_same t6))
  have dn:a6z H6 q1:=⟨"plus",.str u1,.int (i:Int),e46,.inl ⟨u1,rfl,s4 u1 hu1⟩,.inr ⟨(i:Int),rfl,by omega,by omega⟩,by decide⟩
  have mm:=Mi.at s1
  have tx:TxM H6 q1:=⟨_,e46,fun j s hj=>by
   match j with
   | 0=>cases hj;exact mm u1 hu1
   | 1=>cases hj
   | j+2=>cases hj⟩
  ext
  refine⟨_,_,rs++[q2],rfl,by rw[t9];exact c9,by simp[lr],fun y hy=>?_,(B5.same t6).put Lb Ld,(ki.trans kk).put hL⟩
  rcases h9.mp hy with z | z
  ·obtain⟨g1,g2⟩:=ar y z
   exact⟨(g1.ts (kk.ts Bi)).ts t7,(g2.ts (kk.ts Bi)).ts t7⟩
  ·rw[c7.mp z]
   exact⟨a7C.ts ⟨q2,_,rfl,e6,.set _ q1 (s4 u2 hu2) dn,_,_,rfl,by decide⟩ t7,(rwS e6 (fun _ z=>by cases z;exact mm u2 hu2) tx).ts t7⟩
 rintro _ Hi ⟨y4,y5,rs,rfl,ei,lr,ar,Bi,ki⟩
 ext
 refine b7p (m:=m - 1) (by omega) (fun _ R H' h=>by
  ext
  rw[show(m:Int) - 1=((m - 1:Nat):Int) by omega]
  exact h) fun n2 H3 hn2 T3 s3=>?_
 ext
 refine C4 (by simp) fun p H4 hp e4 s4=>?_
 have s34:=s3.trans s4
 have cl:(a0W (m - 1)).length=m - 1+1:=a4K
 refine k p L n2 (a0W (m - 1)) H4 e4 ⟨rs,s34 _ _ ei,by rw[lr,cl];omega,fun i x l f1 f2=>?_⟩ (T3.same s4) (b3k (by omega)) (by omega) ⟨rs,s34 _ _ ei,fun x hx=>(ar x hx).2.ts (o6.ts s34)⟩ (Bi.same s34) ((k0.trans k1).trans (ki.trans (A0.of_same s34)))
 have hl:(l.length == 2)=false:=by rcases a2x f2 with ⟨_,rfl⟩ | ⟨_,rfl⟩ <;> rfl
 rw[hl]
 exact(ar x (mI f1)).1.ts (o6.ts s34)
end
theorem b9U{es:List Addr}{js:List (List Key)}(h:a1o H es js):a1o H es.tail js.tail:=by
 refine⟨by rw[a9v,a9v,h.1],fun i b k f1 f2=>h.2 (i+1) b k ?_ ?_⟩
 ·rw[c0G]at f1
  exact f1
 ·rw[c0G]at f2
  exact f2
theorem c0j(es:List Addr):a4N (es.map V.ref) (some 1) none=es.tail.map V.ref:=by
 cases es with
 | nil=>rfl
 | cons e r=>exact c2y _ _
theorem law_reading(K:Fg)(hl:ns.length<=63)(hO:c2G H)(hS:SqL K H a (ns.map V.int)):a8n K [.ref a] H (fun v _=>v=.bl true) (fun _ _ _=>False):=by
 refine⟨rfl,fun c ck=>?_⟩
 unfold b8z
 nofun
 exists c5x hS hl fun b d H1 B1 s1 _=>?_
 nofun
 refine b5A B1 fun p1 r1 n1 N1 H2 e2 R2 T2 v1 l1 ⟨rs1,hr1,hm1⟩ B2 k2=>?_
 obtain⟨RC1,W1,D1,A2⟩:=RwB.of hr1 R2 T2 v1 (by omega) hm1
 refine a3m (SqT.of e2) ?_
 nofun
 refine b5A B2 fun p2 r2 n2 N2 H3 e3 R3 T3 v2 l2 ⟨rs2,hr2,hm2⟩ B3 k3=>?_
 obtain⟨RC2,W2,D2,Z3⟩:=RwB.of hr2 R3 T3 v2 (by omega) hm2
 have A3:=A2.kept B2 k3
 refine a3m (SqT.of e3) ?_
 exact_mod_cast a1V (P:=fun σ Hi=>∃ra na N rs RC W D,σ=[some (.ref a),some (.ref b),some (.ref ra),some (.ref na),some (.ref r2),some (.ref n2),none,none,none,none]/\RwB Hi ra na N rs RC W D/\Bag Hi b d/\A0 b H3 Hi) ?_ ?_
 rotate_left
 ·intro nx hnx
  ext
  exists M3 B3 (by decide) (by decide) fun n4 H4 a0 a1 B4 k4=>?_
  refine a1n (fun _=>?_) (fun _=>?_)
  ·ext
   refine c0p B4 fun p5 r5 n5 N5 H5 e5 R5 T5 v5 l5 ⟨rs5,hr5,hm5⟩ B5 k5=>?_
   obtain⟨RC5,W5,D5,A5⟩:=RwB.of hr5 R5 T5 v5 l5 hm5
   refine a3m (SqT.of e5) ?_
   exact hnx _ _ ⟨r5,n5,N5,rs5,RC5,W5,D5,rfl,A5,B5,k4.trans k5⟩
  ·ext
   exact hnx _ _ ⟨r1,n1,N1,rs1,RC1,W1,D1,rfl,A3.kept B3 k4,B4,k4⟩
 rintro _ H4 ⟨ra,na,N,rs,RC,W,D,rfl,A4,B4,k4⟩
 have Z4:=Z3.kept B3 k4
 have lA:=A4.len
 have lZ:=Z4.len
 have lA30:=A4.l
 have lZ30:=Z4.l
 nofun
 exists b5H ck A4 fun x H5 P5 s5=>?_
 nofun
 exists b5H ck (Z4.same s5) fun y H6 Y6 s6=>?_
 have s46:=s5.trans s6
 have A6:=A4.same s46
 have Z6:=Z4.same s46
 have B6:=B4.same s46
 nofun
 exists a4p A6.hra (by omega) A6.dk fun dl1 bs1 H7 hdl1 e7 kb1 s7=>?_
 have nk1:=a8O D rs.length
 have lk1:=a4H D rs.length
 exists b5o (B6.same s7) e7 kb1 nk1 (by omega) fun sl es js H8 hsl e8 kb8 nj lj B8 k8=>?_
 have A8:=(A6.same s7).kept (B6.same s7) k8
 have Z8:=(Z6.same s7).kept (B6.same s7) k8
 nofun
 exists a4p Z8.hra (by omega) Z8.dk fun dl2 bs2 H9 hdl2 e9 kb2 s9=>?_
 have nk2:=a8O D2 rs2.length
 have lk2:=a4H D2 rs2.length
 exists b5o (B8.same s9) e9 kb2 nk2 (by omega) fun fl fs gs H10 hfl e10 kb10 ng lg B10 k10=>?_
 have t10:∀ {x:Addr} {N:Nt} {rs:List Addr} {RC:Nat->List V} {W:Nat->Rw},PlB c H6 x N rs RC W->a2Z N->PlB c H10 x N rs RC W:=fun P v=>(((P.same s7).kept (B6.same s7) v k8).same s9).kept (B8.same s9) v k10
 have P10:=t10 (P5.same s6) A4.v
 have Y10:=t10 Y6 Z4.v
 have A10:=(A8.same s9).kept (B8.same s9) k10
 have Z10:=(Z8.same s9).kept (B8.same s9) k10
 have e8':=k10.1 _ _ (s9 _ _ e8) (a0k (B8.same s9) (s9 _ _ e8))
 have kb8':a1o H10 es js:=a5F kb8 ((o6.ts s9).trans (k10.ts (B8.same s9)))
 clear e2 e3 R2 R3 T2 T3 hr1 hr2 hm1 hm2 e7 e8 e9 kb8 kb1 kb2
 have goX:∀ {Hi:Hp} {dl:Addr} {ds:List Addr} {ks:List (List Key)} {R:VK} {E:XK},o6 H10 Hi->Hi dl=some (.lst (ds.map V.ref))->a1o Hi ds ks->ks.Nodup->ks.length<64->(∀Hj,o6 H10 Hj->R (.bl true) Hj)->a0E K c [.ref x,.ref ra,.ref dl] Hi R E:=fun si e kb nd lk h=>b2V ck (P10.same si) (si _ _ A10.hra) (by omega) e kb nd lk fun Hj sj=>h Hj (si.trans sj)
 have goY:∀ {Hi:Hp} {dl:Addr} {ds:List Addr} {ks:List (List Key)} {R:VK} {E:XK},o6 H10 Hi->Hi dl=some (.lst (ds.map V.ref))->a1o Hi ds ks->ks.Nodup->ks.length<64->(∀Hj,o6 H10 Hj->R (.bl true) Hj)->a0E K c [.ref y,.ref r2,.ref dl] Hi R E:=fun si e kb nd lk h=>b2V ck (Y10.same si) (si _ _ Z10.hra) (by omega) e kb nd lk fun Hj sj=>h Hj (si.trans sj)
 nofun
 exists goX (o6.refl _) e8' kb8' nj (by omega) fun H11 s11=>?_
 exists y0 rfl ?_
 exists goY s11 (s11 _ _ e10) (a5F kb10 (o6.ts s11)) ng (by omega) fun H12 s12=>?_
 exists y0 rfl ?_
 nofun
 refine c3i (s12 _ _ e8') fun tl H13 htl e13 s13=>?_
 rw[c0j]at e13
 have s013:=s12.trans s13
 ext
 exists goX s013 e13 (b9U (a5F kb8' (o6.ts s013))) (nj.sublist (List.tail_sublist _)) (by rw[a9v];omega) fun H14 s14=>?_
 exists y0 rfl ?_
 exists a4p (s14 _ _ A10.hra) (by omega) (A10.dk.ts (o6.ts s14)) fun dl3 bs3 H15 hdl3 e15 kb3 s15=>?_
 exists goX (s14.trans s15) e15 kb3 nk1 (by omega) fun H16 s16=>?_
 exists y0 rfl ?_
 exists goX s16 (s16 _ _ e8') (a5F kb8' (o6.ts s16)) nj (by omega) fun H17 s17=>?_
 exists F4 rfl ?_
 exists C4 (by simp) fun el H18 hel e18 s18=>?_
 exact goY (ds:=[]) (ks:=[]) (s17.trans s18) e18 ⟨rfl,fun i b k h=>nomatch h⟩ a2K (by decide) fun H19 _=>rfl
end RD
set_option maxHeartbeats 0
namespace PR
open PySem L2 RD Y
abbrev c7R:Str:="__init__"
abbrev c7S:Str:="_law_script"
abbrev c7T:Str:="_law_bag"
abbrev c7U:Str:="_law_bag_here"
abbrev c7V:Str:="_law_many"
abbrev c7W:Str:="_law_take"
abbrev c7X:Str:="_law_some_here"
abbrev c7Y:Str:="_law_k"
abbrev c7Z:Str:="_law_pool"
abbrev c8a:Str:="_law_nexts"
abbrev c8b:Str:="_law_net"
abbrev c8c:Str:="_law_good_here"
abbrev c8d:Str:="_law_turn"
abbrev c8e:Str:="_law_reached"
abbrev c8f:Str:="_law_one"
abbrev c8g:Str:="_law_order"
abbrev c8h:Str:="_law_mended"
abbrev c8i:Str:="_law_pool_here"
abbrev c8j:Str:="_law_operand"
abbrev c8k:Str:="_law_kinds"
abbrev c8l:Str:="_law_deed"
abbrev c8m:Str:="_law_deeds"
abbrev c8n:Str:="_law_row"
abbrev c8o:Str:="_law_rows"
abbrev c8p:Str:="_law_plan"
abbrev c8q:Str:="_law_deed_here"
abbrev c8r:Str:="_law_broad"
abbrev c8s:Str:="check_length"
abbrev c8t:Str:="thing"
abbrev c8u:Str:="is_whole"
abbrev c8v:Str:="is_value"
abbrev c8w:Str:="is_operand"
abbrev c8x:Str:="check_each"
abbrev c8y:Str:="is_below"
abbrev c8z:Str:="following"
abbrev c8A:Str:="place"
abbrev c8B:Str:="are_nexts"
abbrev c8C:Str:="rows"
abbrev c8D:Str:="nexts"
abbrev c8E:Str:="check_nexts"
abbrev c8F:Str:="stops_of"
abbrev c8G:Str:="check_ways"
abbrev c8H:Str:="steps_of"
abbrev c8I:Str:="self"
abbrev c8J:Str:="_law_made"
abbrev c8K:Str:="_law_deeds_of"
abbrev c8L:Str:="_law_some"
abbrev c8M:Str:="operands_of"
abbrev c8N:Str:="reads_of"
abbrev c8O:Str:="shelves_for"
abbrev c8P:Str:="_law_names_of"
abbrev c8Q:Str:="_law_due"
abbrev c8R:Str:="_law_plan_here"
abbrev c8S:Str:="_law_good"
section
def top(i:Nat):Stmt:=PySem.Challenge.pw_oncedone_k61_shelves.main.body.getD i (.Pass ⟨0,0,0,0⟩)
abbrev b5v:Stmt:=top 42
abbrev b4i:Stmt:=top 43
abbrev b0V:Stmt:=top 46
abbrev b8P:Stmt:=top 44
abbrev a2X:Stmt:=top 45
abbrev a6N:Stmt:=top 47
abbrev b4l:Stmt:=top 48
abbrev b8N:Stmt:=top 49
abbrev a8x:Stmt:=top 50
abbrev a7J:Stmt:=top 59
abbrev a1W:Stmt:=top 24
abbrev a4E:Stmt:=top 17
abbrev a5r:Stmt:=top 15
abbrev a5s:Stmt:=top 16
abbrev a3l:Stmt:=top 18
abbrev a6O:Stmt:=top 19
abbrev a8y:Stmt:=top 20
abbrev a3o:Stmt:=top 25
abbrev a5t:Stmt:=top 23
abbrev a2s:Stmt:=top 33
abbrev a1c:Stmt:=top 34
abbrev a6M:Stmt:=top 37
abbrev a6j:Stmt:=top 36
abbrev a3j:Stmt:=top 35
abbrev a3n:Stmt:=top 38
abbrev a3k:Stmt:=top 39
abbrev a1t:Stmt:=S8 (top 40) 2
abbrev a0t:Stmt:=S8 (top 40) 0
abbrev b0W:Stmt:=top 51
abbrev a5u:Stmt:=top 53
abbrev b0U:Stmt:=top 57
abbrev a2E:Stmt:=top 29
abbrev a5p:Stmt:=top 30
abbrev a8w:Stmt:=top 28
abbrev a3p:Stmt:=S8 (top 40) 6
abbrev a1b:Stmt:=top 2
abbrev a5q:Stmt:=top 52
abbrev b8R:Stmt:=top 56
abbrev b0X:Stmt:=top 58
abbrev b5q:Stmt:=top 60
structure Txt(K:Fg)(mg:Str->Option Value)(c:Cn):Prop where
 c7k:mg "abs" = none
 c3r:mg "all" = none
 c7j:mg "any" = none
 c5O:mg "bool" = none
 c0B:mg "dict" = none
 a2z:mg "enumerate" = none
 c7i:mg "int" = none
 J5:mg "isinstance" = none
 P9:mg "len" = none
 a0Y:mg "list" = none
 c7h:mg "min" = none
 a0n:mg "range" = none
 c7g:mg "set" = none
 a4w:mg "sorted" = none
 b0B:mg "str" = none
 b6b:mg "tuple" = none
 c7f:mg "zip" = none
 c2P:∃u,mg "BOUND" = some u/\C7 (.int 1000000000000) u
 b1O:∃u,mg "DEED_KINDS" = some u/\C7 (.ref c.a3G) u
 b7L:∃u,mg "FIGURES" = some u/\C7 (.str "0123456789") u
 a6C:∃u,mg "FIRST_STEP" = some u/\C7 (.ref c.a0N) u
 b0A:∃u,mg "LETTERS" = some u/\C7 (.str "abcdefghijklmnopqrstuvwxyz") u
 a9s:∃u,mg "LONGEST_NAME" = some u/\C7 (.int 8) u
 c5N:∃u,mg "MOST" = some u/\C7 (.int 400) u
abbrev scF(ns:List (Str×a4X)):Scope:={ kind:=.function,names:=ns,isGenerator:=false,isCoroutine:=false,more:=[] }
local macro_rules | `(tactic| walk_at "c0") => `(tactic| exact ⟨rfl, by decide +kernel, by decide +kernel, rfl, by decide +kernel, by decide +kernel, rfl, by decide +kernel⟩)
local macro_rules | `(tactic| walk_at "c1") => `(tactic| exact ⟨rfl, by decide +kernel, by decide +kernel, rfl, b5M (by decide +kernel), by decide +kernel, rfl, by decide +kernel⟩)
local macro_rules | `(tactic| walk_at "c2") => `(tactic| exact ⟨rfl, by decide +kernel, by decide +kernel, rfl, rfl, by decide +kernel, by decide +kernel, rfl, rfl, by decide +kernel⟩)
local macro_rules | `(tactic| walk_at "c3") => `(tactic| exact ⟨rfl, by decide +kernel, by decide +kernel, rfl, rfl, b5M (by decide +kernel), by decide +kernel, rfl, rfl, by decide +kernel⟩)
def c0w(f:List Value->Prop):List Str->Prop
 | []=>f []
 | _::r=>∀u,c0w (fun us=>f (u::us)) r
theorem c0w.mp:∀ {ps:List Str} {f:List Value->Prop},c0w f ps->∀us,us.length=ps.length->f us
 | [],_,h,[],_=>h
 | _::_,_,h,u::us,e=>c0w.mp (h u) us (Nat.succ.inj e)
section
variable {P:u4}{w:World}{K:Fg}{mg:Str->Option Value}{base h:Heap}{c:Cn}{f C:Addr}{fd:Y1}{x q:Str}{st:Stmt}{N ps:List Str}{k:Nat}{t:TS}{pm cd:Value}{sp:Sp}
open PySem.Spec PyProof.Rows in
theorem fk(F:Fun K x q st f fd)(S:z4 N ps (g8 st))(b:∀cdv A outer s H E,O9 k (A.deeper (b1U q (g8 st) s.heap.objs.size f cdv))->N.Nodup->a8c (b3h CX0 P w K mg base N q (g8 st) f cdv A outer s H E).nox (a0G st) t):K6 P w K mg base CX0 (k+1) f fd ps (spD ps.length N.length t):=
 b2c F S (fun _ _ _ _ h=>h.1) fun cdv A outer s H _ _ E hr h=>⟨t,b cdv A outer s H E hr S.nd,h.2⟩
abbrev fdM(x q:Str)(st:Stmt)(pm cd:Value):Y1:=a0c x q (a2w st) (a0G st) (g8 st) .none .none .none pm none cd .none
structure FnI(K:Fg)(x q:Str)(st:Stmt)(f:Addr)(pm cd:Value):Prop where
 l:K.lookup f=some ⟨.type "function",none,.func (fdM x q st pm cd),#[]⟩
 c:a4R K cd q=true
 k:T0 K (.ref f)=true
structure FnG(K:Fg)(x:Str)(st:Stmt)(f:Addr)(pm cd:Value):Prop where
 i:FnI K x x st f pm cd
 a:u9 K o8 x=some (some (.ref f))
structure FnM(K:Fg)(C:Addr)(x q:Str)(st:Stmt)(f:Addr)(pm cd:Value):Prop where
 i:FnI K x q st f pm cd
 a:C0 K (.ref C) x=some (some (.ref f))
 n:a7j K (.ref f)=true
theorem FnI.F(h:FnI K x q st f pm cd):Fun K x q st f (fdM x q st pm cd):=c5u h.l h.c h.k
abbrev BdA(x q:Str)(st:Stmt)(ps:List Str):Prop:=∀(kV doc pm:Value) (an:Option Addr) (cdv ct:Value),c0w (fun us=>bindArgs (a0c x q (a2w st) (a0G st) (g8 st) .none kV doc pm an cdv ct) ⟨us,[]⟩=pure (ps.zip us)) ps
theorem mkC(X:K.In h)(G:h.Ns o8 mg)(g:FnG K x st f pm cd)(O:K6 P w K mg base CX0 k f (fdM x x st pm cd) ps sp)(B:BdA x x st ps):D9 P w K mg base k x ps sp:=b7w g.i.F O (R1 X G g.a) (g.i.F.binds fun _ _ _ _ _ _ us hl=>(B _ _ _ _ _ _).mp us hl)
theorem mkM(g:FnM K C x q st f pm cd)(cl:Cls K C)(O:K6 P w K mg base CX0 k f (fdM x q st pm cd) ps sp)(B:BdA x q st ps):a3E P w K mg base k x C ps sp:=⟨_,_,O,cl,⟨g.a,g.n,g.i.k⟩,g.i.F.binds fun _ _ _ _ _ _ us hl=>(B _ _ _ _ _ _).mp us hl⟩
theorem mkK{y:Str}(X:K.In h)(G:h.Ns o8 mg)(g:FnM K C c7R q st f pm cd)(y1:u9 K o8 y=some (some (.ref C)))(m:a3Q K C=true)(kc:T0 K (.ref C)=true)(O:K6 P w K mg base CX0 k f (fdM c7R q st pm cd) ps sp)(B:BdA c7R q st ps):b3z P w K mg base k y C ps sp:=⟨_,_,O,R1 X G y1,⟨m,g.a,g.n,kc⟩,g.i.F.binds fun _ _ _ _ _ _ us hl=>(B _ _ _ _ _ _).mp us hl⟩
end
section
variable {P:u4}{w:World}{K:Fg}{mg:Str->Option Value}{base:Heap}{c:Cn}{f:Addr}{fd:Y1}(T:Txt K mg c)
abbrev b9D:List Str:=[c7S]
theorem c3H:z4 [c7S] b9D (g8 b5v):=by walk_at "sc"
theorem c0n:N9 [c7S] (g8 b5v) (scF [ (".0",.local),("_law_cell",.local),("abs",.globalImplicit)]) "_law_cell" := by walk_at "c0"
include T in
theorem c4Z(F:Fun K c7T c7T b5v f fd):K6 P w K mg base CX0 1 f fd b9D (b0O K):=fk F c3H fun _ _ _ _ _ _ hr nd=>c5 (l9 (A7 (b8j b9 b9 b9 (J0 c0n rfl (C5 (a1O b6c (c6 0) a2S (a2R b9))) (fun _ _ _ _ _=>F8) (fun _ _ _ _ _=>g9 b2f rfl T.c7k PyProof.Rows.boot_abs (j9 (c6 0)))))))
variable(b5V:D9 P w K mg base 1 c7T b9D (b0O K))
abbrev b4x:List Str:=[c7U,c7V]
theorem c0Y:z4 [c7U,c7V,"_law_more","_law_cell","_law_value","_law_first","_law_second"] b4x (g8 b4i):=by walk_at "sc"
include T in
theorem c1X(F:Fun K c7W c7W b4i f fd):K6 P w K mg base CX0 1 f fd b4x (F3 K):=fk F c0Y fun _ _ _ _ _ _ hr nd=>b5 (v8 (D7 (C1 hr) (u6 (c6 0) b9) b9) (b5 (u5 2 nd b9) (b5 (v8 (D7 a1Q (u6 (c6 0) b9) (g9 p8 rfl T.P9 l7 (j9 (u6 (c6 0) b9)))) (b5 (u5 3 nd (u6 (u6 (c6 0) b9) (u6 (c6 0) b9))) (b5 (b6e (c6 0) b9 c0P b9 a8a a7E) (b5 (v8 (D7 b8k (c6 3) b9) (c5 (a2Q (c6 3) (a7W (c6 0) b9 a7E))) o0) (c5 (u5 2 nd (A9 G8 (A9 a0q (c6 3) b9) b9)))))) o0) (c5 (a2Q (A9 a0q (A9 G8 (A9 a2U (u6 (c6 0) b9) b9) (c6 2)) b9) (a7W (c6 0) b9 a7E))))) o0) (b5 (v8 (D7 a1S (u6 (c6 0) b9) b9) (b5 (u5 4 nd (A9 a0q (u6 (c6 0) b9) (c6 1))) (b5 (a2Q (A9 a9W (u6 (c6 0) b9) (c6 1)) (a7W (c6 0) b9 a7E)) (c5 (l9 (c6 4))))) o0) (b5 (u5 5 nd (A9 a0q (A9 a2U (u6 (c6 0) b9) b9) b9)) (b5 (u5 6 nd (A9 a0q (A9 a2U (c6 5) b9) b9)) (b5 (v8 (D7 a1S (c6 1) b9) (c5 (l9 (A9 a0q (A9 G8 (A9 a2U (c6 6) b9) (c6 5)) (c6 1)))) o0) (c5 (l9 (A9 a0q (A9 a9W (c6 6) b9) (c6 1))))))))
variable(C6:D9 P w K mg base 1 c7W b4x (F3 K))
abbrev b4z:List Str:=[c7U]
theorem c1a:z4 [c7U,c7X,"_law_at"] b4z (g8 b0V):=by walk_at "sc"
theorem b7r:N9 [c7U,c7X,"_law_at"] (g8 b0V) (scF [ (".0",.local),(c7Y,.local),("_law_at",.free),(c7X,.free)]) c7Y := by walk_at "c0"
include T C6 in
theorem c1Z(F:Fun K c7Z c7Z b0V f fd):K6 P w K mg base CX0 2 f fd b4z (a6e K):=fk F c1a fun _ _ _ _ _ _ hr nd=>b5 (u5 1 nd (A7 (F9 v7 (F9 v7 (F9 v7 (F9 v7 (F9 v7 (c2V v7 v7 v7 v7 v7)))))))) (b5 (u5 2 nd (o4 C6 hr (z6 (c6 0) b9))) (c5 (l9 (J0 b7r rfl (L7 rfl T.a0n (j9 (A9 G8 b9 (o4 C6 hr (z6 (c6 0) b9))))) (fun _ _ _ _ _=>F8) (fun _ _ _ _ _=>u6 (c6 2) (A9 a0q (A9 G8 (c6 3) (A9 a2U b9 (c6 0))) b9))))))
variable(a5I:D9 P w K mg base 2 c7Z b4z (a6e K))
abbrev b9B:List Str:=[c7U,c7V]
theorem c3F:z4 [c7U,c7V,c8a,c7Y,"_law_near",c7X,"_law_way"] b9B (g8 b8P):=by walk_at "sc"
include T C6 in
theorem c4W(F:Fun K c8b c8b b8P f fd):K6 P w K mg base CX0 2 f fd b9B (b0N K):=fk F c3F fun _ _ _ _ _ _ hr nd=>b5 (u5 2 nd (A7 M8)) (b5 (J1 PassesOwn.never rfl (L7 rfl T.a0n (j9 (c6 1))) (J2 3 nd) (b5 (u5 4 nd (g9 (b2d rfl) rfl T.c7h PyProof.Rows.boot_min (z6 (A9 G8 (c6 3) b9) (A9 a4y (c6 1) b9)))) (b5 (u5 5 nd (A7 (z6 (c6 4) (o4 C6 hr (z6 (c6 0) (c6 1)))))) (b5 (u5 6 nd (o4 C6 hr (z6 (c6 0) b9))) (b5 (v8 (D7 a1Q (c6 6) b9) (c5 (u5 5 nd (A7 (z6 (u6 (c6 5) b9) (c6 4))))) o0) (b5 (v8 (D7 (C1 hr) (c6 6) b9) (c5 (u5 5 nd (A7 (z6 (u6 (c6 5) b9) (o4 C6 hr (z6 (c6 0) (c6 1))))))) o0) (b5 (v8 (R9 (Z0 (R9 (a3V (D7 a1S (c6 6) b9) (a2O (D7 a1Q (c6 6) b9)))) (V7 (D7 (C1 hr) (c6 1) b9)))) (c5 (u5 5 nd (A7 (j9 (c6 4))))) o0) (b5 (v8 (R9 (a3V (D7 (C1 hr) (c6 6) b9) (a2O (D7 a1S (c6 1) b9)))) (c5 (u5 5 nd (A7 (j9 (u6 (c6 5) b9))))) o0) (b5 (v8 (R9 (Z0 (D7 (C1 hr) (c6 3) (A9 a4y (c6 1) b9)) (V7 (R9 (a3V (D7 (C1 hr) (c6 6) b9) (a2O (D7 (C1 hr) (o4 C6 hr (z6 (c6 0) b9)) b9))))))) (c5 (u5 5 nd (A7 M8))) o0) (c5 (K0 (a0i v9 F1 F0 U3 (c6 2) (j9 (c6 5)))))))))))))) (c5 (l9 (c6 2))))
variable(b5U:D9 P w K mg base 2 c8b b9B (b0N K))
abbrev a8G:List Str:=[c8a]
theorem b6C:z4 [c8a,c8c,c8d,c7Y,c8e,c8f,c8g] a8G (g8 a2X):=by walk_at "sc"
theorem b3q:N9 [c8a,c8c,c8d,c7Y,c8e,c8f,c8g] (g8 a2X) (scF [ (".0",.local),(c8f,.local),(c8c,.free)]) c8f := by walk_at "c0"
theorem b3p:N9 [c8a,c8c,c8d,c7Y,c8e,c8f,c8g] (g8 a2X) (scF [ (".0",.local),(c7Y,.local),("len",.globalImplicit),(c8c,.free),(c8a,.free)]) c7Y := by walk_at "c0"
theorem b3o:N9 [c8a,c8c,c8d,c7Y,c8e,c8f,c8g] (g8 a2X) (scF [ (".0",.local),(c7Y,.local),(c8a,.free),(c8g,.free)]) c7Y := by walk_at "c0"
theorem b3n(env:Env):N9 [c7Y,c8a,c8c,c8d,"._law_k",c8e,c8f,c8g] (a6F (scF [ (".0",.local),(c7Y,.local),(c8a,.free),(c8g,.free)]) env) (scF [ (".0",.local),(c8f,.local),(c8g,.free)]) c8f := by walk_at "c1"
include T in
theorem b6U(F:Fun K c8h c8h a2X f fd):K6 P w K mg base CX0 1 f fd a8G (a4B K):=fk F b6C fun _ _ _ _ _ _ hr nd=>b5 (u5 1 nd a5k) (b5 (J1 PassesOwn.never rfl (L7 rfl T.a0n (j9 (g9 p8 rfl T.P9 l7 (j9 (c6 0))))) (J2 2 nd) (c5 (J1 PassesOwn.never rfl (L7 rfl T.a0n (j9 (g9 p8 rfl T.P9 l7 (j9 (c6 0))))) (J2 3 nd) (c5 (v8 (R9 (Z0 (D7 (C1 hr) (u6 (c6 0) (c6 3)) (A7 M8)) (V7 (O5 (g9 (b2e rfl) rfl T.c7j PyProof.Rows.boot_any (j9 (J0 b3q rfl (C5 (u6 (c6 0) (c6 3))) (fun _ _ _ _ _=>F8) (fun _ _ _ _ _=>b8i hr (c6 0) (c6 2) rfl)))))))) (c5 (a2P hr (c6 1) (c6 3) S0)) o0))))) (b5 (u5 0 nd (J0 b3p rfl (L7 rfl T.a0n (j9 (g9 p8 rfl T.P9 l7 (j9 (c6 0))))) (fun _ _ _ _ _=>F8) (fun _ _ _ _ _=>a5j (a7U hr (c6 0) (c6 2) rfl) (u6 (c6 1) (c6 0)) (A9 G8 (A7 (j9 (A9 a4y (g9 p8 rfl T.P9 l7 (j9 (c6 1))) b9))) (a1O b0F (u6 (c6 1) (c6 0)) (a2R b9) a2S))))) (b5 (u5 4 nd (b6i (b3N b9 S0 b6f))) (b5 (J1 PassesOwn.never rfl (L7 rfl T.a0n (j9 (g9 p8 rfl T.P9 l7 (j9 (c6 0))))) (J2 2 nd) (c5 (J1 PassesOwn.never rfl (L7 rfl T.a0n (j9 (g9 p8 rfl T.P9 l7 (j9 (c6 0))))) (J2 3 nd) (c5 (v8 (a7U hr (c6 3) (c6 4) rfl) (c5 (J1 PassesOwn.never rfl (C5 (u6 (c6 0) (c6 3))) (J2 5 nd) (c5 (a2P hr (c6 4) (c6 5) S0)))) o0))))) (b5 (u5 6 nd (g9 a8b rfl T.a4w T8 (j9 (K5 (a4Z rfl) rfl T.a0Y w6 (j9 (c6 4)))))) (c5 (l9 (J0 b3o rfl (C5 (c6 6)) (fun _ _ _ _ _=>F8) (fun _ _ _ _ _=>J0 (b3n _) rfl (C5 (u6 (c6 1) (c6 0))) (fun _ _ _ _ _=>F8) (fun _ _ _ _ _=>a0i v9 b1P PySem.F.type_list_index b2b (c6 8) (j9 (c6 0))))))))))))
variable(a6s:D9 P w K mg base 1 c8h a8G (a4B K))
abbrev a6R:List Str:=[c7U,c8i]
theorem b4e:z4 [c7U,c8i,"_law_values"] a6R (g8 a6N):=by walk_at "sc"
include T C6 in
theorem b4G(F:Fun K c8j c8j a6N f fd):K6 P w K mg base CX0 2 f fd a6R (Y5 K):=fk F b4e fun _ _ _ _ _ _ hr nd=>b5 (v8 (D7 (C1 hr) (o4 C6 hr (z6 (c6 0) b9)) b9) (b5 (u5 2 nd (A7 (b8j b9 b9 b9 (o4 C6 hr (z6 (c6 0) b9))))) (c5 (l9 (u6 (c6 2) (o4 C6 hr (z6 (c6 0) b9)))))) o0) (c5 (l9 (u6 (c6 1) (o4 C6 hr (z6 (c6 0) (g9 p8 rfl T.P9 l7 (j9 (c6 1))))))))
variable(X5:D9 P w K mg base 2 c8j a6R (Y5 K))
abbrev b4D:List Str:=[c7U,c8i]
theorem c1e:z4 [c7U,c8i,c8k] b4D (g8 b4l):=by walk_at "sc"
include T C6 X5 in
theorem c2d(F:Fun K c8l c8l b4l f fd):K6 P w K mg base CX0 3 f fd b4D (a7G K):=fk F c1e fun _ _ _ _ _ _ hr nd=>b5 (u5 2 nd (A7 (c2V v7 v7 v7 v7 v7))) (c5 (l9 (L0 (a1P (u6 (c6 2) (o4 C6 hr (z6 (c6 0) b9))) (o4 X5 hr (z6 (c6 0) (c6 1))) (o4 X5 hr (z6 (c6 0) (c6 1)))))))
variable(b1E:D9 P w K mg base 3 c8l b4D (a7G K))
abbrev b9A:List Str:=[c7U,c8i,c8m,"_law_asks"]
theorem c3E:z4 [c7U,c8i,c8m,"_law_asks","_law_way","_law_name"] b9A (g8 b8N):=by walk_at "sc"
include T C6 X5 in
theorem c4V(F:Fun K c8n c8n b8N f fd):K6 P w K mg base CX0 3 f fd b9A (b0M K):=fk F c3E fun _ _ _ _ _ _ hr nd=>b5 (v8 (O5 (c6 3)) (c5 (l9 (L0 (z6 v7 (o4 X5 hr (z6 (c6 0) (c6 1))))))) o0) (b5 (u5 4 nd (o4 C6 hr (z6 (c6 0) b9))) (b5 (u5 5 nd (u6 (c6 1) (o4 C6 hr (z6 (c6 0) (g9 p8 rfl T.P9 l7 (j9 (c6 1))))))) (b5 (v8 (D7 a1Q (c6 4) b9) (c5 (l9 (L0 (a1P v7 (c6 5) (u6 (c6 2) (o4 C6 hr (z6 (c6 0) (g9 p8 rfl T.P9 l7 (j9 (c6 2)))))))))) o0) (b5 (v8 (D7 (C1 hr) (c6 4) b9) (c5 (l9 (L0 (a1P v7 (c6 5) (o4 X5 hr (z6 (c6 0) (c6 1))))))) o0) (b5 (v8 (D7 (C1 hr) (c6 4) b9) (c5 (l9 (u6 (A7 (z6 (L0 (z6 v7 (c6 5))) (L0 (z6 v7 (o4 X5 hr (z6 (c6 0) (c6 1))))))) (o4 C6 hr (z6 (c6 0) b9))))) o0) (c5 (l9 (L0 (j9 v7)))))))))
variable(b5T:D9 P w K mg base 3 c8n b9A (b0M K))
abbrev b4A:List Str:=[c7U]
theorem c1b:z4 [c7U,c8i,c7V,c8k,c8a,c8m,c8o] b4A (g8 a8x):=by walk_at "sc"
theorem b7t:N9 [c7U,c8i,c7V,c8k,c8a,c8m,c8o] (g8 a8x) (scF [ (".0",.local),(c7Y,.local),(c8l,.globalImplicit),(c7U,.free),(c8i,.free)]) c7Y := by walk_at "c0"
theorem b7s:N9 [c7U,c8i,c7V,c8k,c8a,c8m,c8o] (g8 a8x) (scF [ (".0",.local),(c7X,.local),(c8n,.globalImplicit),("len",.globalImplicit),(c7U,.free),(c8m,.free),(c8i,.free)]) c7X := by walk_at "c0"
include T C6 a5I b5U a6s b1E b5T in
theorem c2a(F:Fun K c8p c8p a8x f fd):K6 P w K mg base CX0 4 f fd b4A (a6f K):=fk F c1b fun _ _ _ _ _ _ hr nd=>b5 (u5 1 nd (o4 a5I hr (j9 (c6 0)))) (b5 (u5 2 nd (A9 G8 b9 (o4 C6 hr (z6 (c6 0) b9)))) (b5 (u5 3 nd (A9 G8 b9 (o4 C6 hr (z6 (c6 0) b9)))) (b5 (v8 (D7 (C1 hr) (o4 C6 hr (z6 (c6 0) b9)) b9) (b5 (u5 2 nd (A9 G8 b9 (o4 C6 hr (z6 (c6 0) b9)))) (c5 (u5 3 nd (A9 G8 b9 (o4 C6 hr (z6 (c6 0) b9)))))) o0) (b5 (u5 4 nd (o4 a6s hr (j9 (o4 b5U hr (z6 (c6 0) (c6 2)))))) (b5 (u5 5 nd (J0 b7t rfl (L7 rfl T.a0n (j9 (c6 3))) (fun _ _ _ _ _=>F8) (fun _ _ _ _ _=>o4 b1E hr (z6 (c6 1) (c6 2))))) (b5 (a5R (n:=6) nd rfl rfl b7s rfl (C5 (c6 4)) (fun _ _ _ _ _=>F8) (fun _ _ _ _ _=>o4 b5T hr (b8j (c6 1) (c6 2) (c6 6) (a5l (C1 hr) (g9 p8 rfl T.P9 l7 (j9 (c6 0))) b9)))) (c5 (l9 (L0 (z6 (c6 6) (c6 4)))))))))))
variable(a9j:D9 P w K mg base 4 c8p b4A (a6f K))
abbrev b1g:List Str:=[c7U]
theorem b8M:z4 [c7U,c8i,c7V,c8o,c7Y,c8q] b1g (g8 a7J):=by walk_at "sc"
theorem b5b:N9 [c7U,c8i,c7V,c8o,c7Y,c8q] (g8 a7J) (scF [(".0",.local),(c7Y,.local)]) c7Y := by walk_at "c0"
include T C6 a5I in
theorem b9G(F:Fun K c8r c8r a7J f fd):K6 P w K mg base CX0 3 f fd b1g (a6h K):=fk F b8M fun _ _ _ _ _ _ hr nd=>b5 (u5 1 nd (o4 a5I hr (j9 (c6 0)))) (b5 (u5 2 nd (A9 G8 b9 (o4 C6 hr (z6 (c6 0) b9)))) (b5 (u5 3 nd (A7 M8)) (b5 (J1 PassesOwn.never rfl (L7 rfl T.a0n (j9 (c6 2))) (J2 4 nd) (b5 (u5 5 nd (L0 (a1P v7 (u6 (c6 1) (o4 C6 hr (z6 (c6 0) (g9 p8 rfl T.P9 l7 (j9 (c6 1)))))) (c6 4)))) (c5 (K0 (a0i v9 F1 F0 U3 (c6 3) (j9 (L0 (a1P v7 (u6 (c6 1) (o4 C6 hr (z6 (c6 0) (g9 p8 rfl T.P9 l7 (j9 (c6 1)))))) (c6 5))))))))) (c5 (l9 (L0 (z6 (c6 3) (A9 G8 (J0 b5b rfl (L7 rfl T.a0n (j9 (A9 a4y (c6 2) b9))) (fun _ _ _ _ _=>F8) (fun _ _ _ _ _=>A7 (j9 (A9 G8 (c6 0) b9)))) (A7 (j9 (A7 M8)))))))))))
variable(a7Q:D9 P w K mg base 3 c8r b1g (a6h K))
abbrev a2a:List Str:=["things","at","least"]
theorem a7w:z4 ["things","at","least"] a2a (g8 a1W):=by walk_at "sc"
include T in
theorem a7y(F:Fun K c8s c8s a1W f fd):K6 P w K mg base CX0 1 f fd a2a (a0j K):=fk F a7w fun _ _ _ _ _ _ hr nd=>b5 (v8 (R9 (Z0 (U2 (O5 (g9 L8 rfl T.J5 p9 (z6 (c6 0) (T7 rfl T.a0Y w6 rfl))))) (V7 (D7 a1Q (g9 p8 rfl T.P9 l7 (j9 (c6 0))) (c6 2))))) (c5 a1M) o0) (c5 (v8 (D7 a1S (g9 p8 rfl T.P9 l7 (j9 (c6 0))) (W8 T.c5N rfl)) (c5 a1M) o0))
variable(a0H:D9 P w K mg base 1 c8s a2a (a0j K))
abbrev a6S:List Str:=[c8t]
theorem b4f:z4 [c8t] a6S (g8 a4E):=by walk_at "sc"
theorem b1y:N9 [c8t] (g8 a4E) (scF [ (".0",.local),("sign",.local),("LETTERS",.globalImplicit),("FIGURES",.globalImplicit)]) "sign" := by walk_at "c0"
include T in
theorem b4H(F:Fun K "is_name" "is_name" a4E f fd):K6 P w K mg base CX0 1 f fd a6S (X1 K):=fk F b4f fun _ _ _ _ _ _ hr nd=>b5 (v8 (R9 (Z0 (U2 (O5 (g9 L8 rfl T.J5 p9 (z6 (c6 0) (T7 rfl T.b0B R0 rfl))))) (V7 (U2 (b3M a5U a5U b9 (g9 p8 rfl T.P9 l7 (j9 (c6 0))) (W8 T.a9s rfl)))))) (c5 (l9 S0)) o0) (c5 (l9 (R6 (a2T a1R (u6 (c6 0) b9) (W8 T.b0A rfl) rfl) (V8 (g9 (a7k rfl) rfl T.c3r a9R (j9 (J0 b1y rfl (b8e (c6 0)) (fun _ _ _ _ _=>F8) (fun _ _ _ _ _=>a2T a1R (c6 0) (A9 G8 (W8 T.b0A rfl) (W8 T.b7L rfl)) rfl))))))))
variable(Z7:D9 P w K mg base 1 "is_name" a6S (X1 K))
abbrev a5A:List Str:=[c8t]
theorem b2z:z4 [c8t] a5A (g8 a5r):=by walk_at "sc"
include T in
theorem b2K(F:Fun K c8u c8u a5r f fd):K6 P w K mg base CX0 1 f fd a5A (a1l K):=fk F b2z fun _ _ _ _ _ _ hr nd=>c5 (l9 (R6 (g9 L8 rfl T.J5 p9 (z6 (c6 0) (T7 rfl T.c7i PyProof.Rows.boot_int rfl))) (V8 (b8g (g9 L8 rfl T.J5 p9 (z6 (c6 0) (T7 rfl T.c5O PyProof.Rows.boot_bool rfl)))))))
variable(a0o:D9 P w K mg base 1 c8u a5A (a1l K))
abbrev a5B:List Str:=[c8t]
theorem b2A:z4 [c8t] a5B (g8 a5s):=by walk_at "sc"
include T a0o in
theorem b2L(F:Fun K c8v c8v a5s f fd):K6 P w K mg base CX0 2 f fd a5B (a2q K):=fk F b2A fun _ _ _ _ _ _ hr nd=>c5 (l9 (R6 (o4 a0o hr (j9 (c6 0))) (V8 (a7Y a5U a1Q b9 (c6 0) (W8 T.c2P rfl)))))
variable(a3A:D9 P w K mg base 2 c8v a5B (a2q K))
abbrev a3r:List Str:=[c8t]
theorem a9C:z4 [c8t] a3r (g8 a3l):=by walk_at "sc"
include T Z7 a3A in
theorem a9H(F:Fun K c8w c8w a3l f fd):K6 P w K mg base CX0 3 f fd a3r (U8 K):=fk F a9C fun _ _ _ _ _ _ hr nd=>c5 (l9 (c0M (o4 Z7 hr (j9 (c6 0))) (V8 (o4 a3A hr (j9 (c6 0))))))
variable(Q5:D9 P w K mg base 3 c8w a3r (U8 K))
abbrev a6T:List Str:=[c8t]
theorem b4g:z4 [c8t] a6T (g8 a6O):=by walk_at "sc"
include T Q5 in
theorem b4I(F:Fun K "is_deed" "is_deed" a6O f fd):K6 P w K mg base CX0 4 f fd a6T (a3i K c):=fk F b4g fun _ _ _ _ _ _ hr nd=>b5 (v8 (R9 (Z0 (U2 (O5 (g9 L8 rfl T.J5 p9 (z6 (c6 0) (T7 rfl T.b6b a9p rfl))))) (V7 (D7 (a5T hr) (g9 p8 rfl T.P9 l7 (j9 (c6 0))) b9)))) (c5 (l9 S0)) o0) (c5 (l9 (R6 (a2T b6j (u6 (c6 0) b9) (W8 T.b1O rfl) rfl) (R6 (o4 Q5 hr (j9 (u6 (c6 0) b9))) (V8 (o4 Q5 hr (j9 (u6 (c6 0) b9))))))))
variable(a4L:D9 P w K mg base 4 "is_deed" a6T (a3i K c))
abbrev a8H:List Str:=[c8t]
theorem b6D:z4 [c8t,"kind","rest"] a8H (g8 a8y):=by walk_at "sc"
include T Z7 Q5 a4L in
theorem b6V(F:Fun K "is_row" "is_row" a8y f fd):K6 P w K mg base CX0 5 f fd a8H (a4C K c):=fk F b6D fun _ _ _ _ _ _ hr nd=>b5 (v8 (R9 (Z0 (U2 (O5 (g9 L8 rfl T.J5 p9 (z6 (c6 0) (T7 rfl T.b6b a9p rfl))))) (V7 (D7 (C1 hr) (g9 p8 rfl T.P9 l7 (j9 (c6 0))) b9)))) (c5 (l9 S0)) o0) (b5 (u5 1 nd (u6 (c6 0) b9)) (b5 (u5 2 nd (a1O b0F (c6 0) (a2R b9) a2S)) (b5 (v8 (D7 (C1 hr) (c6 1) v7) (c5 (l9 (R6 (a5l (C1 hr) (g9 p8 rfl T.P9 l7 (j9 (c6 2))) b9) (R6 (o4 Z7 hr (j9 (u6 (c6 2) b9))) (V8 (o4 a4L hr (j9 (u6 (c6 2) b9)))))))) o0) (b5 (v8 (D7 (C1 hr) (c6 1) v7) (c5 (l9 (R6 (a5l (C1 hr) (g9 p8 rfl T.P9 l7 (j9 (c6 2))) b9) (R6 (o4 Z7 hr (j9 (u6 (c6 2) b9))) (V8 (o4 Q5 hr (j9 (u6 (c6 2) b9)))))))) o0) (b5 (v8 (D7 (C1 hr) (c6 1) v7) (c5 (l9 (R6 (a5l (C1 hr) (g9 p8 rfl T.P9 l7 (j9 (c6 2))) b9) (V8 (o4 Z7 hr (j9 (u6 (c6 2) b9))))))) o0) (b5 (v8 (X4 a1R (c6 1) (L0 (z6 v7 v7)) rfl) (c5 (l9 (R6 (a5l (C1 hr) (g9 p8 rfl T.P9 l7 (j9 (c6 2))) b9) (V8 (o4 Q5 hr (j9 (u6 (c6 2) b9))))))) o0) (c5 (l9 (R6 (a5l (C1 hr) (c6 1) v7) (V8 (a5l (C1 hr) (g9 p8 rfl T.P9 l7 (j9 (c6 2))) b9)))))))))))
variable(a6t:D9 P w K mg base 5 "is_row" a8H (a4C K c))
abbrev a3t:List Str:=["rights"]
theorem a9E:z4 ["rights","k","right"] a3t (g8 a3o):=by walk_at "sc"
include T in
theorem a9J(F:Fun K c8x c8x a3o f fd):K6 P w K mg base CX0 1 f fd a3t (a0f K):=fk F a9E fun _ _ _ _ _ _ hr nd=>c5 (J1 PassesOwn.never rfl (a4x rfl T.a2z (j9 (c6 0))) (a1N rfl (K9 (J2 1 nd) (K9 (J2 2 nd) a0T))) (c5 (v8 (U2 (O5 (c6 2))) (c5 a1M) o0)))
variable(X2:D9 P w K mg base 1 c8x a3t (a0f K))
abbrev a5C:List Str:=[c8t,"many"]
theorem b2B:z4 [c8t,"many"] a5C (g8 a5t):=by walk_at "sc"
include T a0o in
theorem b2M(F:Fun K c8y c8y a5t f fd):K6 P w K mg base CX0 2 f fd a5C (a2r K):=fk F b2B fun _ _ _ _ _ _ hr nd=>c5 (l9 (R6 (o4 a0o hr (j9 (c6 0))) (V8 (a7Y a5U a1Q b9 (c6 0) (c6 1)))))
variable(a3B:D9 P w K mg base 2 c8y a5C (a2r K))
abbrev a4g:List Str:=["row",c8z,"many"]
theorem b0R:z4 ["row",c8z,"many","wanted"] a4g (g8 a2s):=by walk_at "sc"
theorem a9d:N9 ["row",c8z,"many","wanted"] (g8 a2s) (scF [ (".0",.local),(c8A,.local),(c8y,.globalImplicit),("many",.free)]) c8A := by walk_at "c0"
include T a3B in
theorem b1j(F:Fun K c8B c8B a2s f fd):K6 P w K mg base CX0 3 f fd a4g (a1A K):=fk F b0R fun _ _ _ _ _ _ hr nd=>b5 (v8 (U2 (O5 (g9 L8 rfl T.J5 p9 (z6 (c6 1) (T7 rfl T.a0Y w6 rfl))))) (c5 (l9 S0)) o0) (b5 (u5 3 nd (a5j (D7 (C1 hr) (u6 (c6 0) b9) v7) (L0 (j9 b9)) (L0 (z6 b9 b9)))) (c5 (l9 (R6 (a2T a1R (g9 p8 rfl T.P9 l7 (j9 (c6 1))) (c6 3) rfl) (V8 (g9 (a7k rfl) rfl T.c3r a9R (j9 (J0 a9d rfl (C5 (c6 1)) (fun _ _ _ _ _=>F8) (fun _ _ _ _ _=>o4 a3B hr (z6 (c6 0) (c6 3)))))))))))
variable(a2y:D9 P w K mg base 3 c8B a4g (a1A K))
abbrev a2H:List Str:=[c8C,c8D]
theorem a8v:z4 [c8C,c8D] a2H (g8 a1c):=by walk_at "sc"
theorem a7b:a3F [c8C,c8D] (g8 a1c) (scF [ (".0",.local),("row",.local),(c8z,.local),(c8B,.globalImplicit),("len",.globalImplicit),(c8C,.free)]) "row" c8z := by walk_at "c2"
include T X2 a2y in
theorem a8K(F:Fun K c8E c8E a1c f fd):K6 P w K mg base CX0 4 f fd a2H (a0F K):=fk F a8v fun _ _ _ _ _ _ hr nd=>b5 (v8 (R9 (Z0 (U2 (O5 (g9 L8 rfl T.J5 p9 (z6 (c6 1) (T7 rfl T.a0Y w6 rfl))))) (V7 (D7 (a5T hr) (g9 p8 rfl T.P9 l7 (j9 (c6 1))) (g9 p8 rfl T.P9 l7 (j9 (c6 0))))))) (c5 a1M) o0) (c5 (K0 (o4 X2 hr (j9 (a7X a7b rfl (b8d rfl T.c7f (z6 (c6 0) (c6 1))) (fun _ _ _ _ _=>F8) (fun _ _ _ _ _=>o4 a2y hr (a1P (c6 0) (c6 1) (g9 p8 rfl T.P9 l7 (j9 (c6 2))))))))))
variable(a1f:D9 P w K mg base 4 c8E a2H (a0F K))
abbrev a6Q:List Str:=["begins","leads"]
theorem b4d:z4 ["begins","leads","seen","waiting",c8A] a6Q (g8 a6M):=by walk_at "sc"
include T in
theorem b4F(F:Fun K "reached" "reached" a6M f fd):K6 P w K mg base CX0 1 f fd a6Q (a1U K):=fk F b4d fun _ _ _ _ _ _ hr nd=>b5 (u5 2 nd a5k) (b5 (u5 3 nd (K5 W9 rfl T.a0Y w6 (j9 (c6 0)))) (b5 (a5i PassesOwn.never (D7 a1S (g9 p8 rfl T.P9 l7 (j9 (c6 3))) b9) (b5 (u5 4 nd (a7Z v9 PySem.F.slot_list_pop PySem.F.type_list_pop b6l (c6 3))) (c5 (v8 (a2i hr (c6 4) (c6 2) rfl) (b5 (a2P hr (c6 2) (c6 4) S0) (c5 (K0 (a0i v9 a3d a3c a3f (c6 3) (j9 (u6 (c6 1) (c6 4))))))) o0)))) (c5 (l9 (c6 2)))))
variable(a2Y:D9 P w K mg base 1 "reached" a6Q (a1U K))
abbrev a8E:List Str:=[c8D]
theorem b6A:z4 [c8D,"sources",c8A,c8z,"target"] a8E (g8 a6j):=by walk_at "sc"
theorem b3m:N9 [c8D,"sources",c8A,c8z,"target"] (g8 a6j) (scF [(".0",.local),(c8z,.local)]) c8z := by walk_at "c0"
include T in
theorem b6S(F:Fun K "turned" "turned" a6j f fd):K6 P w K mg base CX0 1 f fd a8E (a4A K):=fk F b6A fun _ _ _ _ _ _ hr nd=>b5 (a5R (n:=1) nd rfl rfl b3m rfl (C5 (c6 0)) (fun _ _ _ _ _=>F8) (fun _ _ _ _ _=>A7 M8)) (b5 (J1 PassesOwn.never rfl (a4x rfl T.a2z (j9 (c6 0))) (a1N rfl (K9 (J2 2 nd) (K9 (J2 3 nd) a0T))) (c5 (J1 PassesOwn.never rfl (C5 (c6 3)) (J2 4 nd) (c5 (K0 (a0i v9 F1 F0 U3 (u6 (c6 1) (c6 4)) (j9 (c6 2)))))))) (c5 (l9 (c6 1))))
variable(a6r:D9 P w K mg base 1 "turned" a8E (a4A K))
abbrev a5w:List Str:=[c8D]
theorem b2v:z4 [c8D] a5w (g8 a3j):=by walk_at "sc"
theorem a9N:a3F [c8D] (g8 a3j) (scF [ (".0",.local),(c8A,.local),(c8z,.local),("len",.globalImplicit)]) c8A c8z := by walk_at "c2"
include T in
theorem b2G(F:Fun K c8F c8F a3j f fd):K6 P w K mg base CX0 1 f fd a5w (a2m K):=fk F b2v fun _ _ _ _ _ _ hr nd=>c5 (l9 (a7X a9N rfl (a4x rfl T.a2z (j9 (c6 0))) (fun _ _ _ _ _=>a9T (D7 (C1 hr) (g9 p8 rfl T.P9 l7 (j9 (c6 1))) b9)) (fun _ _ _ _ _=>c6 0)))
variable(a3w:D9 P w K mg base 1 c8F a5w (a2m K))
abbrev a3s:List Str:=[c8D]
theorem a9D:z4 [c8D,"begun","ending",c8A] a3s (g8 a3n):=by walk_at "sc"
include T a2Y a6r a3w in
theorem a9I(F:Fun K c8G c8G a3n f fd):K6 P w K mg base CX0 2 f fd a3s (a0Z K):=fk F a9D fun _ _ _ _ _ _ hr nd=>b5 (u5 1 nd (o4 a2Y hr (z6 (A7 (j9 b9)) (c6 0)))) (b5 (u5 2 nd (o4 a2Y hr (z6 (o4 a3w hr (j9 (c6 0))) (o4 a6r hr (j9 (c6 0)))))) (c5 (J1 PassesOwn.never rfl (L7 rfl T.a0n (j9 (g9 p8 rfl T.P9 l7 (j9 (c6 0))))) (J2 3 nd) (c5 (v8 (R9 (Z0 (a2i hr (c6 3) (c6 1) rfl) (V7 (a2i hr (c6 3) (c6 2) rfl)))) (c5 a1M) o0)))))
variable(a1C:D9 P w K mg base 2 c8G a3s (a0Z K))
abbrev a5x:List Str:=[c8D]
theorem b2w:z4 [c8D,"steps",c8A,c8z] a5x (g8 a3k):=by walk_at "sc"
theorem a9O:N9 [c8D,"steps",c8A,c8z] (g8 a3k) (scF [ (".0",.local),("at",.local),(c8A,.free)]) "at" := by walk_at "c0"
include T in
theorem b2H(F:Fun K c8H c8H a3k f fd):K6 P w K mg base CX0 1 f fd a5x (a2n K c):=fk F b2w fun _ _ _ _ _ _ hr nd=>b5 (u5 1 nd (A7 (j9 (W8 T.a6C rfl)))) (b5 (J1 PassesOwn.never rfl (a4x rfl T.a2z (j9 (c6 0))) (a1N rfl (K9 (J2 2 nd) (K9 (J2 3 nd) a0T))) (c5 (K0 (a0i v9 a3d a3c a3f (c6 1) (j9 (J0 a9O rfl (L7 rfl T.a0n (j9 (g9 p8 rfl T.P9 l7 (j9 (c6 3))))) (fun _ _ _ _ _=>F8) (fun _ _ _ _ _=>L0 (z6 (c6 3) (c6 0))))))))) (c5 (l9 (c6 1))))
variable(a3x:D9 P w K mg base 1 c8H a5x (a2n K c))
abbrev a1v:List Str:=[c8I,"step"]
theorem a6L:z4 [c8I,"step"] a1v (g8 a1t):=by walk_at "sc"
include T in
theorem a6U(F:Fun K "leads_to" "Plan.leads_to" a1t f fd):K6 P w K mg base CX0 1 f fd a1v (Z2 K c):=fk F a6L fun _ _ _ _ _ _ hr nd=>b5 (v8 (X4 (b6k hr) (c6 1) (W8 T.a6C rfl) (a8M _)) (c5 (l9 b9)) o0) (c5 (l9 (u6 (u6 (a5S (c6 0)) (u6 (c6 1) b9)) (u6 (c6 1) b9))))
variable(a0l:a3E P w K mg base 1 "leads_to" c.P0 a1v (Z2 K c))
abbrev a4h:List Str:=[c8I,c8C,c8D]
theorem b0S:z4 [c8I,c8C,c8D,"step"] a4h (g8 a0t):=by walk_at "sc"
theorem a9g:N9 [c8I,c8C,c8D,"step"] (g8 a0t) (scF [ (".0",.local),("row",.local),("is_row",.globalImplicit)]) "row" := by walk_at "c0"
theorem a9f:N9 [c8I,c8C,c8D,"step"] (g8 a0t) (scF [ (".0",.local),(c8z,.local),("list",.globalImplicit)]) c8z := by walk_at "c0"
theorem a9e:N9 [c8I,c8C,c8D,"step"] (g8 a0t) (scF [(".0",.local),("row",.local)]) "row" := by walk_at "c0"
include T a0H a6t X2 a1f a1C a3x a0l in
theorem b1k(F:Fun K c7R "Plan.__init__" a0t f fd):K6 P w K mg base CX0 6 f fd a4h (a1B K c):=fk F b0S fun _ _ _ _ _ _ hr nd=>b5 (K0 (o4 a0H hr (a1P (c6 1) b9 b9))) (b5 (K0 (o4 X2 hr (j9 (J0 a9g rfl (C5 (c6 1)) (fun _ _ _ _ _=>F8) (fun _ _ _ _ _=>o4 a6t hr (j9 (c6 0))))))) (b5 (K0 (o4 a1f hr (z6 (c6 1) (c6 2)))) (b5 (K0 (o4 a1C hr (j9 (c6 2)))) (b5 (a7V (c6 0) (K5 W9 rfl T.a0Y w6 (j9 (c6 1)))) (b5 (a7V (c6 0) (J0 a9f rfl (C5 (c6 2)) (fun _ _ _ _ _=>F8) (fun _ _ _ _ _=>K5 W9 rfl T.a0Y w6 (j9 (c6 0))))) (b5 (a7V (c6 0) (J0 a9e rfl (C5 (c6 1)) (fun _ _ _ _ _=>F8) (fun _ _ _ _ _=>A7 M8))) (c5 (J1 PassesOwn.never rfl (C5 (o4 a3x hr (j9 (a5S (c6 0))))) (J2 3 nd) (c5 (K0 (a0i v9 F1 F0 U3 (u6 (a5S (c6 0)) (b8h a0l hr (by decide) (c6 0) (j9 (c6 3)))) (j9 (c6 3)))))))))))))
variable(b1o:b3z P w K mg base 6 "Plan" c.P0 a4h (a1B K c))
abbrev b4B:List Str:=[c8o,c8a]
theorem c1c:z4 [c8o,c8a] b4B (g8 b0W):=by walk_at "sc"
theorem b7u:N9 [c8o,c8a] (g8 b0W) (scF [ (".0",.local),(c7X,.local),("list",.globalImplicit)]) c7X := by walk_at "c0"
include T b1o in
theorem c2b(F:Fun K c8J c8J b0W f fd):K6 P w K mg base CX0 8 f fd b4B (a6g K c):=fk F c1c fun _ _ _ _ _ _ hr nd=>c5 (l9 (c3x b1o hr (z6 (K5 W9 rfl T.a0Y w6 (j9 (c6 0))) (J0 b7u rfl (C5 (c6 1)) (fun _ _ _ _ _=>F8) (fun _ _ _ _ _=>K5 W9 rfl T.a0Y w6 (j9 (c6 0)))))))
variable(a9k:D9 P w K mg base 8 c8J b4B (a6g K c))
abbrev a5D:List Str:=[c8o]
theorem b2C:z4 [c8o,c8m,"_law_row_here"] a5D (g8 a5u):=by walk_at "sc"
include T in
theorem b2N(F:Fun K c8K c8K a5u f fd):K6 P w K mg base CX0 1 f fd a5D (a0s K):=fk F b2C fun _ _ _ _ _ _ hr nd=>b5 (u5 1 nd (A7 M8)) (b5 (J1 PassesOwn.never rfl (C5 (c6 0)) (J2 2 nd) (c5 (v8 (R9 (a3V (D7 (C1 hr) (u6 (c6 2) b9) v7) (a2O (X4 (b3P hr) (u6 (c6 2) b9) (c6 1) rfl)))) (c5 (K0 (a0i v9 F1 F0 U3 (c6 1) (j9 (u6 (c6 2) b9))))) o0))) (c5 (l9 (c6 1))))
variable(a0X:D9 P w K mg base 1 c8K a5D (a0s K))
abbrev b4y:List Str:=[c7U,c8m]
theorem c0Z:z4 [c7U,c8m] b4y (g8 b0U):=by walk_at "sc"
theorem b7q:N9 [c7U,c8m] (g8 b0U) (scF [ (".0",.local),(c8q,.local),(c7W,.globalImplicit),(c7U,.free)]) c8q := by walk_at "c0"
include T C6 in
theorem c1Y(F:Fun K c8L c8L b0U f fd):K6 P w K mg base CX0 2 f fd b4y (a6d K):=fk F c0Z fun _ _ _ _ _ _ hr nd=>c5 (l9 (J0 b7q rfl (C5 (c6 1)) (fun _ _ _ _ _=>a9T (D7 a1S (o4 C6 hr (z6 (c6 1) b9)) b9)) (fun _ _ _ _ _=>c6 0)))
variable(a9i:D9 P w K mg base 2 c8L b4y (a6d K))
abbrev a2G:List Str:=["row"]
theorem a8u:z4 ["row","kind"] a2G (g8 a2E):=by walk_at "sc"
include T in
theorem a8J(F:Fun K c8M c8M a2E f fd):K6 P w K mg base CX0 1 f fd a2G (a0D K):=fk F a8u fun _ _ _ _ _ _ hr nd=>b5 (u5 1 nd (u6 (c6 0) b9)) (b5 (v8 (D7 (C1 hr) (c6 1) v7) (c5 (l9 (A7 (z6 (u6 (u6 (c6 0) b9) b9) (u6 (u6 (c6 0) b9) b9))))) o0) (b5 (v8 (D7 (C1 hr) (c6 1) v7) (c5 (l9 (A7 (j9 (u6 (c6 0) b9))))) o0) (b5 (v8 (X4 a1R (c6 1) (L0 (z6 v7 v7)) rfl) (c5 (l9 (A7 (j9 (u6 (c6 0) b9))))) o0) (c5 (l9 (A7 M8))))))
variable(a1e:D9 P w K mg base 1 c8M a2G (a0D K))
abbrev a5y:List Str:=["row"]
theorem b2x:z4 ["row","names","operand"] a5y (g8 a5p):=by walk_at "sc"
include T a1e in
theorem b2I(F:Fun K c8N c8N a5p f fd):K6 P w K mg base CX0 2 f fd a5y (a2o K):=fk F b2x fun _ _ _ _ _ _ hr nd=>b5 (u5 1 nd (A7 M8)) (b5 (J1 PassesOwn.never rfl (C5 (o4 a1e hr (j9 (c6 0)))) (J2 2 nd) (c5 (v8 (R9 (a3V (O5 (g9 L8 rfl T.J5 p9 (z6 (c6 2) (T7 rfl T.b0B R0 rfl)))) (a2O (X4 b1Z (c6 2) (c6 1) rfl)))) (c5 (K0 (a0i v9 F1 F0 U3 (c6 1) (j9 (c6 2))))) o0))) (c5 (l9 (c6 1))))
variable(a3y:D9 P w K mg base 2 c8N a5y (a2o K))
abbrev a8F:List Str:=["row"]
theorem b6B:z4 ["row"] a8F (g8 a8w):=by walk_at "sc"
include T in
theorem b6T(F:Fun K "set_by" "set_by" a8w f fd):K6 P w K mg base CX0 1 f fd a8F (a2W K):=fk F b6B fun _ _ _ _ _ _ hr nd=>c5 (l9 (a5j (X4 a1R (u6 (c6 0) b9) (L0 (a1P v7 v7 v7)) rfl) (u6 (c6 0) b9) b1Y))
variable(a4r:D9 P w K mg base 1 "set_by" a8F (a2W K))
abbrev a3u:List Str:=[c8I]
theorem a9F:z4 [c8I,"found","row"] a3u (g8 a3p):=by walk_at "sc"
include T a3y a4r in
theorem a9K(F:Fun K "names" "Plan.names" a3p f fd):K6 P w K mg base CX0 3 f fd a3u (a1a K):=fk F a9F fun _ _ _ _ _ _ hr nd=>b5 (u5 1 nd (A7 M8)) (b5 (J1 PassesOwn.never rfl (C5 (a5S (c6 0))) (J2 2 nd) (b5 (K0 (a0i v9 a3d a3c a3f (c6 1) (j9 (o4 a3y hr (j9 (c6 2)))))) (c5 (v8 (D7 b2a (o4 a4r hr (j9 (c6 2))) b1Y) (c5 (K0 (a0i v9 F1 F0 U3 (c6 1) (j9 (o4 a4r hr (j9 (c6 2))))))) o0)))) (c5 (l9 (c0L rfl rfl T.a4w T8 rfl T.c7g PyProof.Rows.boot_set (c6 1)))))
variable(a1D:a3E P w K mg base 3 "names" c.P0 a3u (a1a K))
abbrev a2F:List Str:=["plan","deeds"]
theorem a8t:z4 ["plan","deeds","taken","shelves","number","deed"] a2F (g8 a1b):=by walk_at "sc"
theorem a7a:N9 ["plan","deeds","taken","shelves","number","deed"] (g8 a1b) (scF [(".0",.local),("name",.local)]) "name" := by walk_at "c0"
include T a1D in
theorem a8I(F:Fun K c8O c8O a1b f fd):K6 P w K mg base CX0 4 f fd a2F (a0C K c):=fk F a8t fun _ _ _ _ _ _ hr nd=>b5 (u5 2 nd (K5 (a9z rfl) rfl T.c0B a9u (j9 (J0 a7a rfl (C5 (b6h a1D hr (by decide) (c6 0))) (fun _ _ _ _ _=>F8) (fun _ _ _ _ _=>L0 (z6 (c6 0) S0)))))) (b5 (u5 3 nd b3O) (b5 (u5 4 nd b9) (b5 (J1 PassesOwn.never rfl (C5 (c6 1)) (J2 5 nd) (b5 (a5i PassesOwn.never (a7U hr (b5j (c6 4)) (c6 2) rfl) (c5 (b1X (n:=4) nd rfl (Or.inl rfl) b9 a8a))) (b5 (a2P hr (c6 3) (c6 5) (b5j (c6 4))) (c5 (b1X (n:=4) nd rfl (Or.inl rfl) b9 a8a))))) (c5 (l9 (c6 3))))))
variable(a1d:D9 P w K mg base 4 c8O a2F (a0C K c))
abbrev a5z:List Str:=[c8o]
theorem b2y:z4 [c8o,"_law_found","_law_row_here","_law_words","_law_word"] a5z (g8 a5q):=by walk_at "sc"
include T in
theorem b2J(F:Fun K c8P c8P a5q f fd):K6 P w K mg base CX0 1 f fd a5z (a2p K):=fk F b2y fun _ _ _ _ _ _ hr nd=>b5 (u5 1 nd a5k) (b5 (J1 PassesOwn.never rfl (C5 (c6 0)) (J2 2 nd) (b5 (u5 3 nd (K5 W9 rfl T.a0Y w6 (j9 (a1O b0F (c6 2) (a2R b9) a2S)))) (b5 (v8 (D7 (C1 hr) (u6 (c6 2) b9) v7) (c5 (u5 3 nd (A7 (a1P (u6 (c6 2) b9) (u6 (u6 (c6 2) b9) b9) (u6 (u6 (c6 2) b9) b9))))) o0) (c5 (J1 PassesOwn.never rfl (C5 (c6 3)) (J2 4 nd) (c5 (v8 (O5 (g9 L8 rfl T.J5 p9 (z6 (c6 4) (T7 rfl T.b0B R0 rfl)))) (c5 (a2P hr (c6 1) (c6 4) S0)) o0))))))) (c5 (l9 (g9 a9x rfl T.a4w T8 (j9 (K5 (a4Z rfl) rfl T.a0Y w6 (j9 (c6 1))))))))
variable(a3z:D9 P w K mg base 1 c8P a5z (a2p K))
abbrev b9C:List Str:=[c8o,c8m]
theorem c3G:z4 [c8o,c8m,"_law_taken","_law_due_here","_law_number",c8q] b9C (g8 b8R):=by walk_at "sc"
include T a3z in
theorem c4Y(F:Fun K c8Q c8Q b8R f fd):K6 P w K mg base CX0 2 f fd b9C (a8o K):=fk F c3G fun _ _ _ _ _ _ hr nd=>b5 (u5 2 nd (o4 a3z hr (j9 (c6 0)))) (b5 (u5 3 nd (A7 M8)) (b5 (u5 4 nd b9) (b5 (J1 PassesOwn.never rfl (C5 (c6 1)) (J2 5 nd) (b5 (a5i PassesOwn.never (X4 a1R (A9 G8 v7 (K5 a5V rfl T.b0B R0 (j9 (c6 4)))) (c6 2) rfl) (c5 (u5 4 nd (A9 G8 (c6 4) b9)))) (b5 (K0 (a0i v9 F1 F0 U3 (c6 3) (j9 (L0 (z6 (c6 5) (A9 G8 v7 (K5 a5V rfl T.b0B R0 (j9 (c6 4))))))))) (c5 (u5 4 nd (A9 G8 (c6 4) b9)))))) (c5 (l9 (c6 3))))))
variable(b3w:D9 P w K mg base 2 c8Q b9C (a8o K))
abbrev b4C:List Str:=[c8R,c8o,c8m]
theorem c1d:z4 [c8R,c8o,c8m,"_law_handed","_law_found",c8q,"_law_name"] b4C (g8 b0X):=by walk_at "sc"
theorem b7v:N9 [c8R,c8o,c8m,"_law_handed","_law_found",c8q,"_law_name"] (g8 b0X) (scF [(".0",.local),(c8f,.local)]) c8f := by walk_at "c0"
include T a1d b3w in
theorem c2c(F:Fun K c8S c8S b0X f fd):K6 P w K mg base CX0 5 f fd b4C (a0E K c):=fk F c1d fun _ _ _ _ _ _ hr nd=>b5 (u5 3 nd (K5 W9 rfl T.a0Y w6 (j9 (c6 2)))) (b5 (u5 4 nd (o4 a1d hr (z6 (c6 0) (c6 3)))) (b5 (v8 (R9 (Z0 (U2 (O5 (g9 L8 rfl T.J5 p9 (z6 (c6 4) (T7 rfl T.c0B a9u rfl))))) (V7 (X4 (a9V hr) (c6 3) (c6 2) (a8M _))))) (c5 (l9 S0)) o0) (b5 (b6d PassesOwn.never rfl (c6 4) (J2 5 nd) (c5 (v8 (U2 (O5 (g9 L8 rfl T.J5 p9 (z6 (a9U hr (c6 4) (c6 5) (fun _ _=>rfl)) (T7 rfl T.b0B R0 rfl))))) (c5 (l9 S0)) o0))) (b5 (v8 (X4 (a9V hr) (g9 a4Y rfl T.a4w T8 (j9 (K5 (a9y rfl) rfl T.a0Y w6 (j9 (a7Z b1S b1M PySem.F.type_dict_values b3Q (c6 4)))))) (g9 a4Y rfl T.a4w T8 (j9 (J0 b7v rfl (C5 (o4 b3w hr (z6 (c6 1) (c6 2)))) (fun _ _ _ _ _=>F8) (fun _ _ _ _ _=>u6 (c6 0) b9)))) (a8M _)) (c5 (l9 S0)) o0) (b5 (v8 (D7 (a5T hr) (g9 b0H rfl T.P9 l7 (j9 (c6 4))) (g9 p8 rfl T.P9 l7 (j9 (c6 2)))) (c5 (l9 S0)) o0) (b5 (J1 PassesOwn.never rfl (C5 (o4 b3w hr (z6 (c6 1) (c6 2)))) (a1N rfl (K9 (J2 5 nd) (K9 (J2 6 nd) a0T))) (c5 (v8 (R9 (Z0 (a2i hr (c6 5) (c6 4) rfl) (V7 (D7 (a5T hr) (a9U hr (c6 4) (c6 5) (fun _ _=>rfl)) (c6 6))))) (c5 (l9 S0)) o0))) (b5 (K0 (a7Z b1S b1Q PySem.F.type_dict_clear b0G (c6 4))) (c5 (l9 S0)))))))))
variable(a3C:D9 P w K mg base 5 c8S b4C (a0E K c))
abbrev c3m:List Str:=[c7S]
theorem b8L:z4 [c7S,c7U,c8o,c8a,"_law_others","_law_ways",c8R,"_law_other",c7X,"_law_few"] c3m (g8 b5q):=by walk_at "sc"
include T b5V C6 a9j a7Q a9k a0X a9i a3C in
theorem c4X(ck:a7D K c)(F:Fun K "law" "law" b5q f fd):K6 P w K mg base CX0 9 f fd c3m (a8n K):=by
 refine b2c F b8L (fun vs H Q E h=>h.1) (fun cdv A outer s H vs Q E hr h=>⟨b8z K c,?_,h.2 c ck⟩)
 have nd:=b8L.nd
 exact b5 (u5 1 nd (o4 b5V hr (j9 (c6 0)))) (b5 (a2Q (o4 a9j hr (j9 (c6 1))) (a1N rfl (K9 (J2 2 nd) (K9 (J2 3 nd) a0T)))) (b5 (a2Q (o4 a9j hr (j9 (c6 1))) (a1N rfl (K9 (J2 4 nd) (K9 (J2 5 nd) a0T)))) (b5 (v8 (D7 (C1 hr) (o4 C6 hr (z6 (c6 1) b9)) b9) (c5 (a2Q (o4 a7Q hr (j9 (c6 1))) (a1N rfl (K9 (J2 2 nd) (K9 (J2 3 nd) a0T))))) o0) (b5 (u5 6 nd (o4 a9k hr (z6 (c6 2) (c6 3)))) (b5 (u5 7 nd (o4 a9k hr (z6 (c6 4) (c6 5)))) (b5 (u5 8 nd (o4 a9i hr (z6 (c6 1) (o4 a0X hr (j9 (c6 2)))))) (b5 (u5 9 nd (o4 a9i hr (z6 (c6 1) (o4 a0X hr (j9 (c6 4)))))) (b5 (v8 (R9 (Z0 (U2 (O5 (o4 a3C hr (a1P (c6 6) (c6 2) (c6 8))))) (V7 (U2 (O5 (o4 a3C hr (a1P (c6 7) (c6 4) (c6 9)))))))) (c5 (l9 S0)) o0) (b5 (v8 (R9 (Z0 (U2 (O5 (o4 a3C hr (a1P (c6 6) (c6 2) (a1O b0F (c6 8) (a2R b9) a2S))))) (V7 (U2 (O5 (o4 a3C hr (a1P (c6 6) (c6 2) (o4 a0X hr (j9 (c6 2)))))))))) (c5 (l9 S0)) o0) (c5 (l9 (R6 (o4 a3C hr (a1P (c6 6) (c6 2) (c6 8))) (V8 (o4 a3C hr (a1P (c6 7) (c6 4) (A7 M8))))))))))))))))
end
end
structure ClF(K:Fg)(y:Str)(C:Addr):Prop where
 y:u9 K o8 y=some (some (.ref C))
 pg:a1p K C Str.empty=true
 hd:a2J K C=true
 po:a7h K C=true
 sa:C0 K (.ref C) "__setattr__" = some (some (.builtin "object.__setattr__"))
 mm:a3Q K C=true
 kc:T0 K (.ref C)=true
abbrev pm0:Value:=(.str "law_oncedone_k61_shelves" 579)
abbrev pm1:Value:=(.str "oncedone.checks" 381)
abbrev pm2:Value:=(.str "oncedone.words" 322)
abbrev pm3:Value:=(.str "oncedone.plans" 444)
abbrev pm4:Value:=(.str "oncedone.deeds" 411)
abbrev pm5:Value:=(.str "oncedone.shelves" 194)
theorem c5C{l:PySem.W.OpenLaw}{w:World}{K:Fg}{h:Heap}{mg:Str->Option Value}{fa:Addr}(X:K.In h)(G:h.Ns o8 mg)(hfa:mg "law" = some (.ref fa))
  (y_Plan:ClF K "Plan" 302)
  (a0m:C0 K (.ref 302) "entries" = some none)
  (a0h:C0 K (.ref 302) c8D = some none)
  (a1F:C0 K (.ref 302) c8C = some none)
  (y_DEED_KINDS:u9 K o8 "DEED_KINDS" = some (some (.ref 116))) (l_DEED_KINDS:K.lookup 116=some ⟨.type "tuple",none,.seq (([(.str "plus" 332),(.str "minus" 333),(.str "times" 334),(.str "less" 335),(.str "same" 336)]:List Value).toArray) 0,#[]⟩)
  (y_FIRST_STEP:u9 K o8 "FIRST_STEP" = some (some (.ref 206))) (l_FIRST_STEP:K.lookup 206=some ⟨.type "tuple",none,.seq (([(.int (-1) 447),(.int (0) 448)]:List Value).toArray) 0,#[]⟩)
  (x0:FnG K c7T b5v 311 pm0 (.ref 310))
  (x1:FnG K c7W b4i 318 pm0 (.ref 317))
  (x2:FnG K c7Z b0V 335 pm0 (.ref 334))
  (x3:FnG K c8b b8P 325 pm0 (.ref 324))
  (x4:FnG K c8h a2X 330 pm0 (.ref 329))
  (x5:FnG K c8j a6N 342 pm0 (.ref 341))
  (x6:FnG K c8l b4l 349 pm0 (.ref 348))
  (x7:FnG K c8n b8N 356 pm0 (.ref 355))
  (x8:FnG K c8p a8x 361 pm0 (.ref 360))
  (x9:FnG K c8r a7J 416 pm0 (.ref 415))
  (x10:FnG K c8s a1W 170 pm1 (.ref 169))
  (x11:FnG K "is_name" a4E 135 pm2 (.ref 134))
  (x12:FnG K c8u a5r 123 pm2 (.ref 122))
  (x13:FnG K c8v a5s 130 pm2 (.ref 129))
  (x14:FnG K c8w a3l 142 pm2 (.ref 141))
  (x15:FnG K "is_deed" a6O 149 pm2 (.ref 148))
  (x16:FnG K "is_row" a8y 156 pm2 (.ref 155))
  (x17:FnG K c8x a3o 177 pm1 (.ref 176))
  (x18:FnG K c8y a5t 163 pm1 (.ref 162))
  (x19:FnG K c8B a2s 211 pm3 (.ref 210))
  (x20:FnG K c8E a1c 216 pm3 (.ref 215))
  (x21:FnG K "reached" a6M 233 pm3 (.ref 232))
  (x22:FnG K "turned" a6j 226 pm3 (.ref 225))
  (x23:FnG K c8F a3j 221 pm3 (.ref 220))
  (x24:FnG K c8G a3n 240 pm3 (.ref 239))
  (x25:FnG K c8H a3k 245 pm3 (.ref 244))
  (x26:FnM K 302 "leads_to" "Plan.leads_to" a1t 271 pm3 (.ref 270))
  (x27:FnM K 302 c7R "Plan.__init__" a0t 257 pm3 (.ref 256))
  (x28:FnG K c8J b0W 366 pm0 (.ref 365))
  (x29:FnG K c8K a5u 380 pm0 (.ref 379))
  (x30:FnG K c8L b0U 406 pm0 (.ref 405))
  (x31:FnG K c8M a2E 198 pm4 (.ref 197))
  (x32:FnG K c8N a5p 205 pm4 (.ref 204))
  (x33:FnG K "set_by" a8w 191 pm4 (.ref 190))
  (x34:FnM K 302 "names" "Plan.names" a3p 299 pm3 (.ref 298))
  (x35:FnG K c8O a1b 26 pm5 (.ref 25))
  (x36:FnG K c8P a5q 373 pm0 (.ref 372))
  (x37:FnG K c8Q b8R 401 pm0 (.ref 400))
  (x38:FnG K c8S b0X 411 pm0 (.ref 410))
  (x39:FnG K "law" b5q 423 pm0 (.ref 422))
  (z_abs:u9 K o8 "abs" = some none)
  (z_all:u9 K o8 "all" = some none)
  (z_any:u9 K o8 "any" = some none)
  (z_bool:u9 K o8 "bool" = some none)
  (z_dict:u9 K o8 "dict" = some none)
  (z_enumerate:u9 K o8 "enumerate" = some none)
  (z_int:u9 K o8 "int" = some none)
  (z_isinstance:u9 K o8 "isinstance" = some none)
  (z_len:u9 K o8 "len" = some none)
  (z_list:u9 K o8 "list" = some none)
  (z_min:u9 K o8 "min" = some none)
  (z_range:u9 K o8 "range" = some none)
  (z_set:u9 K o8 "set" = some none)
  (z_sorted:u9 K o8 "sorted" = some none)
  (z_str:u9 K o8 "str" = some none)
  (z_tuple:u9 K o8 "tuple" = some none)
  (z_zip:u9 K o8 "zip" = some none)
  (y_BOUND:u9 K o8 "BOUND" = some (some (.int (1000000000000) 324)))
  (y_FIGURES:u9 K o8 "FIGURES" = some (some (.str "0123456789" 328)))
  (y_LETTERS:u9 K o8 "LETTERS" = some (some (.str "abcdefghijklmnopqrstuvwxyz" 326)))
  (y_LONGEST_NAME:u9 K o8 "LONGEST_NAME" = some (some (.int (8) 330)))
  (y_MOST:u9 K o8 "MOST" = some (some (.int (400) 383)))
  : ∃fd:Y1,(∀(s:d4) (v:Value),b8b s fd ⟨[v],[]⟩ [(c7S,v)])/\∀base:Heap,K.In base->base.Ns o8 mg->K6 l.prog w K mg base CX0 9 fa fd [c7S] (a8n K):=by
 have e:=hfa.symm.trans (R1 X G x39.a)
 cases e
 let c:Cn:=⟨302,116,206⟩
 have ck:a7D K c:=⟨⟨y_Plan.pg,y_Plan.hd,y_Plan.po,y_Plan.sa⟩,a0m,a0h,a1F,fun H=>.inr ⟨_,([(.str "plus" 332),(.str "minus" 333),(.str "times" 334),(.str "less" 335),(.str "same" 336)]:List Value).toArray,0,l_DEED_KINDS,rfl,rfl,by decide,.cons ⟨_,rfl⟩ ( .cons ⟨_,rfl⟩ ( .cons ⟨_,rfl⟩ ( .cons ⟨_,rfl⟩ ( .cons ⟨_,rfl⟩ ( .nil)))))⟩,fun H=>.inr ⟨_,([(.int (-1) 447),(.int (0) 448)]:List Value).toArray,0,l_FIRST_STEP,rfl,rfl,by decide,.cons ⟨_,rfl⟩ ( .cons ⟨_,rfl⟩ ( .nil))⟩⟩
 have T:Txt K mg c:=⟨v6 X G z_abs,v6 X G z_all,v6 X G z_any,v6 X G z_bool,v6 X G z_dict,v6 X G z_enumerate,v6 X G z_int,v6 X G z_isinstance,v6 X G z_len,v6 X G z_list,v6 X G z_min,v6 X G z_range,v6 X G z_set,v6 X G z_sorted,v6 X G z_str,v6 X G z_tuple,v6 X G z_zip,⟨_,R1 X G y_BOUND,⟨_,rfl⟩⟩,⟨_,R1 X G y_DEED_KINDS,rfl⟩,⟨_,R1 X G y_FIGURES,⟨_,rfl⟩⟩,⟨_,R1 X G y_FIRST_STEP,rfl⟩,⟨_,R1 X G y_LETTERS,⟨_,rfl⟩⟩,⟨_,R1 X G y_LONGEST_NAME,⟨_,rfl⟩⟩,⟨_,R1 X G y_MOST,⟨_,rfl⟩⟩⟩
 refine⟨fdM "law" "law" b5q pm0 (.ref 422),fun s v=>.of_eq rfl,fun base _ _=>?_⟩
 have b5V:=mkC X G x0 (c4Z (P:=l.prog) (w:=w) (base:=base) T x0.i.F) fun _ _ _ _ _ _ _=>rfl
 have C6:=mkC X G x1 (c1X (P:=l.prog) (w:=w) (base:=base) T x1.i.F) fun _ _ _ _ _ _ _ _=>rfl
 have a5I:=mkC X G x2 (c1Z T C6 x2.i.F) fun _ _ _ _ _ _ _=>rfl
 have b5U:=mkC X G x3 (c4W T C6 x3.i.F) fun _ _ _ _ _ _ _ _=>rfl
 have a6s:=mkC X G x4 (b6U (P:=l.prog) (w:=w) (base:=base) T x4.i.F) fun _ _ _ _ _ _ _=>rfl
 have X5:=mkC X G x5 (b4G T C6 x5.i.F) fun _ _ _ _ _ _ _ _=>rfl
 have b1E:=mkC X G x6 (c2d T C6 X5 x6.i.F) fun _ _ _ _ _ _ _ _=>rfl
 have b5T:=mkC X G x7 (c4V T C6 X5 x7.i.F) fun _ _ _ _ _ _ _ _ _ _=>rfl
 have a9j:=mkC X G x8 (c2a T C6 a5I b5U a6s b1E b5T x8.i.F) fun _ _ _ _ _ _ _=>rfl
 have a7Q:=mkC X G x9 (b9G T C6 a5I x9.i.F) fun _ _ _ _ _ _ _=>rfl
 have a0H:=mkC X G x10 (a7y (P:=l.prog) (w:=w) (base:=base) T x10.i.F) fun _ _ _ _ _ _ _ _ _=>rfl
 have Z7:=mkC X G x11 (b4H (P:=l.prog) (w:=w) (base:=base) T x11.i.F) fun _ _ _ _ _ _ _=>rfl
 have a0o:=mkC X G x12 (b2K (P:=l.prog) (w:=w) (base:=base) T x12.i.F) fun _ _ _ _ _ _ _=>rfl
 have a3A:=mkC X G x13 (b2L T a0o x13.i.F) fun _ _ _ _ _ _ _=>rfl
 have Q5:=mkC X G x14 (a9H T Z7 a3A x14.i.F) fun _ _ _ _ _ _ _=>rfl
 have a4L:=mkC X G x15 (b4I T Q5 x15.i.F) fun _ _ _ _ _ _ _=>rfl
 have a6t:=mkC X G x16 (b6V T Z7 Q5 a4L x16.i.F) fun _ _ _ _ _ _ _=>rfl
 have X2:=mkC X G x17 (a9J (P:=l.prog) (w:=w) (base:=base) T x17.i.F) fun _ _ _ _ _ _ _=>rfl
 have a3B:=mkC X G x18 (b2M T a0o x18.i.F) fun _ _ _ _ _ _ _ _=>rfl
 have a2y:=mkC X G x19 (b1j T a3B x19.i.F) fun _ _ _ _ _ _ _ _ _=>rfl
 have a1f:=mkC X G x20 (a8K T X2 a2y x20.i.F) fun _ _ _ _ _ _ _ _=>rfl
 have a2Y:=mkC X G x21 (b4F (P:=l.prog) (w:=w) (base:=base) T x21.i.F) fun _ _ _ _ _ _ _ _=>rfl
 have a6r:=mkC X G x22 (b6S (P:=l.prog) (w:=w) (base:=base) T x22.i.F) fun _ _ _ _ _ _ _=>rfl
 have a3w:=mkC X G x23 (b2G (P:=l.prog) (w:=w) (base:=base) T x23.i.F) fun _ _ _ _ _ _ _=>rfl
 have a1C:=mkC X G x24 (a9I T a2Y a6r a3w x24.i.F) fun _ _ _ _ _ _ _=>rfl
 have a3x:=mkC X G x25 (b2H (P:=l.prog) (w:=w) (base:=base) T x25.i.F) fun _ _ _ _ _ _ _=>rfl
 have a0l:=mkM x26 ck.a0O (a6U (P:=l.prog) (w:=w) (base:=base) T x26.i.F) fun _ _ _ _ _ _ _ _=>rfl
 have b1o:=mkK X G x27 y_Plan.y y_Plan.mm y_Plan.kc (b1k T a0H a6t X2 a1f a1C a3x a0l x27.i.F) fun _ _ _ _ _ _ _ _ _=>rfl
 have a9k:=mkC X G x28 (c2b T b1o x28.i.F) fun _ _ _ _ _ _ _ _=>rfl
 have a0X:=mkC X G x29 (b2N (P:=l.prog) (w:=w) (base:=base) T x29.i.F) fun _ _ _ _ _ _ _=>rfl
 have a9i:=mkC X G x30 (c1Y T C6 x30.i.F) fun _ _ _ _ _ _ _ _=>rfl
 have a1e:=mkC X G x31 (a8J (P:=l.prog) (w:=w) (base:=base) T x31.i.F) fun _ _ _ _ _ _ _=>rfl
 have a3y:=mkC X G x32 (b2I T a1e x32.i.F) fun _ _ _ _ _ _ _=>rfl
 have a4r:=mkC X G x33 (b6T (P:=l.prog) (w:=w) (base:=base) T x33.i.F) fun _ _ _ _ _ _ _=>rfl
 have a1D:=mkM x34 ck.a0O (a9K T a3y a4r x34.i.F) fun _ _ _ _ _ _ _=>rfl
 have a1d:=mkC X G x35 (a8I T a1D x35.i.F) fun _ _ _ _ _ _ _ _=>rfl
 have a3z:=mkC X G x36 (b2J (P:=l.prog) (w:=w) (base:=base) T x36.i.F) fun _ _ _ _ _ _ _=>rfl
 have b3w:=mkC X G x37 (c4Y T a3z x37.i.F) fun _ _ _ _ _ _ _ _=>rfl
 have a3C:=mkC X G x38 (c2c T a1d b3w x38.i.F) fun _ _ _ _ _ _ _ _ _=>rfl
 exact c4X T b5V C6 a9j a7Q a9k a0X a9i a3C ck x39.i.F
theorem walk{l:PySem.W.OpenLaw}{q:u4}{loose:List Str}{XP:(Str->Option Value)->Heap->Prop}{YP:World->Heap->Prop}{d:DefRec}{K:Params->Fg}(hn:l.most=some 63)(hdf:d.params.defaults=[])
  (hY:∀(w:World) (h:Heap),YP w h->(K w.params).In h)
  (F:∀(w:World) (mg:Str->Option Value) (fa:Addr) (h:Heap),(K w.params).In h->h.Ns o8 mg->mg d.name=some (.ref fa) ->
   ∃fd:Y1,(∀(s:d4) (u:Value),b8b s fd ⟨[u],[]⟩ [(c7S,u)])/\∀base:Heap,(K w.params).In base->base.Ns o8 mg->K6 l.prog w (K w.params) mg base CX0 9 fa fd [c7S] (a8n (K w.params))) :
  PySem.W.WalkO q loose XP YP l.row.toRowW d [] (fun f vs=>b1L f vs):=
 L2.c0S (n:=63) (k:=9) (x := c7S) (CX:=fun _=>CX0) (sp:=fun w=>a8n (K w.params)) hn (by decide) hdf ⟨rfl,by decide,by decide⟩ hY F (fun _ _ a ns hl hO hS=>RD.law_reading _ hl hO hS) fun _ _ _ _ _ z=>z
end PR
open PySem PySem.W PyProof.Rows
set_option maxRecDepth 100000 in
set_option maxHeartbeats 0 in
theorem PySem.Challenge.cw_oncedone_k61_shelves_holds : PySem.Challenge.rw_oncedone_k61_shelves.Holds := by
 refine HD.fin fun d hd hdf=>PR.walk (l:=HD.row) (K:=HD.K) rfl hdf (fun w h Y=>PySem.W.kIn_of Y) ?F
 intro w mg fa h KX G hmg
 rw[hd]at hmg
 apply PR.c5C KX G hmg <;> first | kernel_rfl | exact⟨⟨by kernel_rfl,by kernel_rfl,by kernel_rfl⟩,by kernel_rfl⟩ | exact⟨⟨by kernel_rfl,by kernel_rfl,by kernel_rfl⟩,by kernel_rfl,by kernel_rfl⟩ | exact⟨by kernel_rfl,by kernel_rfl,by kernel_rfl,by kernel_rfl,by kernel_rfl,by kernel_rfl,by kernel_rfl⟩
