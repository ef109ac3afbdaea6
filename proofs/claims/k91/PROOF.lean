import PyProof.Rows.All
import KE.KEqDict
import KE.KDictList
import KE.KIsAll
import KE.KDictOf
import KE.KItem
import KE.KIntText
import PyProof.ReprReads
import PyProof.CallFns
import Lean
import PySem.Challenge.RW_oncedone_k91_texts_read_again
open Array renaming length_toList->u5,getElem?_toList->P5,toList_append->a1n,toList->c4Z
open Bool renaming false_ne_true->j7,and_eq_true->O8,eq_iff_iff->a1m,and_eq_true_iff->b6u,eq_false_iff->c1e,and_false->c3P,true_and->c4X,and_true->c4Y
open Int renaming toNat_natCast->A3,emod_lt_of_pos->Q4,emod_nonneg->R7,zero_add->S0,eq_ofNat_of_zero_le->U3,toNat->b4U,toNat_of_nonneg->b9e
open List renaming length_map->a9,getElem?_map->b7,getElem?_eq_getElem->c6,mem_cons->c7,size_toArray->d6,not_mem_nil->g7,getElem?_eq_some_iff->i9,mem_singleton->j3,length_append->j4,mem_append_right->l4,mem_append->l7,length_cons->q9,mem_cons_of_mem->t8,getElem?_append_left->u9,replicate->v5,all_eq_true->v7,mem_cons_self->y0,take_of_length_le->z9,mem_map->A0,getElem?_append_right->A5,getElem_mem->C0,map_cons->C4,length_replicate->C5,lookup_cons->C7,length_take->C8,take_add_one->D5,mem_append_left->D7,range->D9,getElem?_set_self->F2,length_singleton->G8,map_append->I0,getElem?_set_ne->J3,getElem?_replicate->J4,mem_iff_getElem?->L5,getD->N4,map_map->R5,nodup_cons->V3,any_cons->W3,mem_range->X2,mem_of_getElem?->X3,getElem?_range->Y9,all_cons->Z3,length_set->a0j,find?_cons->a0k,append_nil->a0l,take_length->a0S,length_drop->a0T,lookup->a0Y,all_nil->a1I,mem_filter->a3R,length_nil->a3S,length_filter_le->a4g,replicate_succ'->a4G,length_pos_iff->a5B,filterMap_cons->a5C,map_inj_right->a6F,filter_append->a6G,length_range->a7k,range_succ->a9v,of_mem_zip->a9w,drop_zero->b0P,getElem?_eq_none_iff->b2v,sum_cons->b2w,length_erase_of_mem->b2x,idxOf_lt_length_iff->b2y,length_eq_zero_iff->b4c,getElem?_cons_zero->b4d,map_nil->b4Q,length_pos_of_mem->b4R,drop_eq_nil_of_le->b4S,all_map->b4T,take_append_drop->b6o,length->b6t,map_congr_left->b8X,mem_filterMap->b9c,getElem?_drop->b9d,nodup_append->c1c,append_assoc->c1d,any_eq_true->c1w,idxOf_cons->c3E,forIn_cons->c3F,take_left->c3L,drop_left->c3M,drop_drop->c3N
open Nat renaming le_refl->d5,lt_of_lt_of_le->p9,ne_of_lt->t5,le_trans->v9,lt_irrefl->E4,zero_le->J8,le_add_right->a3t,le_of_lt->a8B,ne_of_gt->b6m,lt_trans->b6n,log2_lt->b8V,le_succ->b8W,lt_succ_self->c3C,le_max_right->c3D,le_max_left->c3K
open Option renaming map_eq_some_iff->v8,isSome_iff_exists->R4,getD_some->a2P,map_some->a3s,isSome_map->a6E,getD_none->b9b
open PyProof.Rows renaming boot_isinstance->l5,boot_str->A1,boot_list->J2,boot_tuple->R0,callWith_type1->U2,slot_tuple_getitem->Z2,boot_all->a2f,boot_bool->a8D,boot_int->a8X,AllBare->a9A,envOfC->b0T,IntsAre->c1C,subscriptTail_builtinR->c3I
open PySem renaming starEach->d4,Shared->d7,sizeLine->g9,boot_len->i8,wpAny_bind->l6,mainGlobals->o3,compareOp->o4,mem_of_lookup->u4,Program->v0,wpAny_pure->z7,Around->F7,wpAny_truthy_bool->G5,foldedSetIterable->K8,behindInMarks->L6,binaryOp->Q6,FuncData->V2,wpAny_mono->V4,backTo->V5,attributeBase->W8,wpAny_passesOwn->Z4,swapsWith->Z5,bootBuiltins->Z6,wpAny_newObj_type->a0n,assignEach->a0o,lookup_relabel_local->a0u,wpAny_comprehension_free->a0R,importedModules->a0Z,sysModules->a1K,strIterType->a1L,call_meets->a1M,sizeLine_eq->a2e,wpAny_execs_nil->a2T,sliceBounds->a2U,letOwnedTupleGo->a2V,keywordEach->a2W,holding->a2X,wpAny_Call_Name_kw->a3T,assign->a3U,NameKind->a3V,wpAny_assign_Name->a4H,relabel->a5D,codeAny->a5E,Keyword->a9z,call->b0J,wpAny_standAt->b0Q,wpAny_holding->b0R,tupleKind_room_in1->b0S,backToKw->b0U,wpAny_pyIter_list->b2z,codeAny_mono->b4e,compEnvC->b6p,Operator->b6q,tupleKind->b6v,standAt->b6w,getMethod->b6x,callerA->b6y,BindsTo->b6z,PlainAttrs->c1g,IsPart->c1h,valueAt->c1z,setItem->c1A,getItem->c1B,intText?->c3B,codeAny_compStart_list->c3J,wpAny_isTrue_Compare1->c3Q,seqIndex_neg->c3R,lastMarks->c3S,exec_Assign_Name_used->c3T,Result->c3U,PassesOwn->c3V,wpAny_newFunctionEnv->c5d,wpAny_field->c5e,seqIndex_of->c5f
open PySem.F renaming plainAttrs_list->o8,type_list_append->F5,slot_list_append->F6,plainAttrs_str->K5,slot_list_extend->R1,slot_str_split->U1,type_str_join->V0,slot_str_join->V1,type_list_extend->Y7,slot_list_index->Z1,args_str_split_2->a2d,entry_str_split->a2J,args_list_index_2->a9u,entry_list_index->b0L,type_list_index->b0O,type_str_split->b2u
open PySem.Heap renaming get?_push_of_some->d8,lt_size->g6,get?_push_size->u6,get?_update_other->b4V,size_push->c3O
open PySem.SeqAt renaming list_indexAt->a8A
open PySem.StrLaws renaming found_one->X1,glued_eq_join->a0N,join_length_le->a5x
open PySem.W renaming nsIn->t9,mg_none_of->v6,findIn->z6,kia_one->G7,emptyDict->K0,mg_of->L8,keepIn->O6,instObj->Q5,fnOf->X0,plainGet->a0M,specialIn->a1R,hasDictIn->a1S,makesIn->a2S,lookIn->a3O,kitOne->a3P,codeIn->a3Q,plainGet_of->a4E,callWith_K->a5w,plainOver->a6n,methodObj->a6o,isFn->a6p,takesIn->a8y,takerIn->a8z,mroIn->b0K,cellsFrom_some->b2t,kitx_list->b6r,kitx_dict->b6s,handedIn->b8U
open PySem.W.KIN renaming signs_num->a2I
set_option Elab.async false
set_option linter.all false
set_option maxRecDepth 100000
set_option maxHeartbeats 0
abbrev Fg:=PySem.W.Frag
abbrev Nt:=List (List Nat)
theorem gI{α:Type}{l:List α}{i:Nat}{a:α}(h:l[i]?=some a):i<l.length:=(i9.mp h).1
theorem mI{α:Type}{l:List α}{i:Nat}{a:α}(h:l[i]?=some a):a∈l:=X3 h
theorem c6F{p:Prop}[Decidable p](h:¬p):decide p=false:=decide_eq_false h
theorem c6G{p:Prop}[Decidable p](h:p):decide p=true:=decide_eq_true h
namespace L2
open PySem
def Q2(s:Stmt)(j:Nat):Stmt:=match s with
 | .ClassDef _ _ _ body _ _ _ _ _ _ _=>body.getD j (.Pass ⟨0,0,0,0⟩)
 | _=>.Pass ⟨0,0,0,0⟩
def a1E(s:Stmt):Arguments:=match s with
 | .FunctionDef _ a _ _ _ _ _ _ _ _=>a
 | _=>{ posonlyargs:=[],args:=[],vararg:=none,kwonlyargs:=[],kw_defaults:=[],kwarg:=none,defaults:=[] }
def a0d(s:Stmt):List Stmt:=match s with
 | .FunctionDef _ _ b _ _ _ _ _ _ _=>b
 | _=>[]
def d3(s:Stmt):Scope:=match s with
 | .FunctionDef _ _ _ _ _ _ sc _ _ _=>sc
 | _=>{ kind:=.function,names:=[],isGenerator:=false,isCoroutine:=false }
end L2
namespace HD
open PySem PySem.W L2
abbrev P:v0:=PySem.Challenge.pw_oncedone_k91_texts_read_again
def top(i:Nat):Stmt:=P.main.body.getD i (.Pass ⟨0,0,0,0⟩)
def kE(Q:Params)(n:Str)(t:Nat)(v:Value):DictEntry:=⟨PyData.keyHash Q n,.str n t,v⟩
def kD(es:List DictEntry)(n:Nat):Obj:=⟨.type "dict",none,.dict es.toArray n,#[]⟩
def kF(x qual:Str)(st:Stmt)(pm cd:Value):Obj:=⟨.type "function",none,.func (fnOf x qual (a1E st) (a0d st) (d3 st) .none .none .none pm none cd .none),#[]⟩
def kC(n q:Str)(a b c:Nat)(i3 i4 i5 i6 i7:Int)(r8:Nat)(i10:Int)(r11 r13 r14 r15:Nat)(i16 i17:Int)(d:Nat):Obj:=⟨.type "code",none,.fields ([.str n a,.str q b,.str "/claim/cut.py" c,.int i3 0,.int i4 0,.int i5 0,.int i6 0,.int i7 0,.ref r8,.bool true,.int i10 0,.ref r11,.none,.ref r13,.ref r14,.ref r15,.int i16 0,.int i17 0,.str "/claim/cut.py" d]:List Value).toArray,([]:List (Option Value)).toArray⟩
def kN(n q:Str)(a b c:Nat)(i3 i4 i5 i6 i7:Int)(r8:Nat)(i10:Int)(r11 r15:Nat)(i16 i17:Int)(d:Nat):Obj:=⟨.type "code",none,.fields ([.str n a,.str q b,.str "/claim/cut.py" c,.int i3 0,.int i4 0,.int i5 0,.int i6 0,.int i7 0,.ref r8,.bool true,.int i10 0,.ref r11,.none,.none,.none,.ref r15,.int i16 0,.int i17 0,.str "/claim/cut.py" d]:List Value).toArray,([]:List (Option Value)).toArray⟩
abbrev m0:Value:=(.str "__main__" 164)
abbrev m1:Value:=(.str "oncedone.errors" 194)
abbrev m2:Value:=(.str "oncedone.words" 330)
abbrev m3:Value:=(.str "oncedone.checks" 389)
abbrev m4:Value:=(.str "oncedone.plans" 419)
abbrev m5:Value:=(.str "oncedone.texts" 549)
abbrev m6:Value:=(.str "law_oncedone_k91_texts_read_again" 599)
def K1(Q:Params):Frag:=[
 (3,kD [kE Q "__name__" 165 (.str "law_oncedone_k91_texts_read_again" 599),kE Q "__doc__" 166 .none,kE Q "__package__" 167 .none,kE Q "__loader__" 168 (.builtin "__main__.__loader__#opaque"),kE Q "__spec__" 169 .none,kE Q "__annotations__" 170 (.ref 6),kE Q "__builtins__" 171 (.ref 4),kE Q "__file__" 173 (.str "/claim/cut.py" 172),kE Q "__cached__" 174 .none,kE Q "_wall" 193 (.ref 21),kE Q "OnceError" 213 (.ref 31),kE Q "Wrong" 238 (.ref 51),kE Q "NoThing" 263 (.ref 70),kE Q "TooMany" 288 (.ref 89),kE Q "NoWay" 313 (.ref 108),kE Q "NoText" 329 (.ref 120),kE Q "BOUND" 333 (.int (1000000000000) 332),kE Q "LETTERS" 335 (.str "abcdefghijklmnopqrstuvwxyz" 334),kE Q "FIGURES" 337 (.str "0123456789" 336),kE Q "LONGEST_NAME" 339 (.int (8) 338),kE Q "DEED_KINDS" 345 (.ref 123),kE Q "is_whole" 352 (.ref 130),kE Q "is_value" 359 (.ref 137),kE Q "is_name" 365 (.ref 142),kE Q "is_operand" 372 (.ref 149),kE Q "is_deed" 379 (.ref 156),kE Q "is_row" 388 (.ref 163),kE Q "MOST" 392 (.int (400) 391),kE Q "is_below" 400 (.ref 170),kE Q "check_length" 409 (.ref 177),kE Q "check_each" 418 (.ref 184),kE Q "FIRST_STEP" 424 (.ref 185),kE Q "are_nexts" 430 (.ref 190),kE Q "check_nexts" 436 (.ref 195),kE Q "stops_of" 442 (.ref 200),kE Q "turned" 448 (.ref 205),kE Q "reached" 459 (.ref 212),kE Q "check_ways" 469 (.ref 219),kE Q "steps_of" 475 (.ref 224),kE Q "Plan" 548 (.ref 281),kE Q "words_of" 559 (.ref 292),kE Q "shown_place" 565 (.ref 297),kE Q "shown" 571 (.ref 302),kE Q "thing_of" 577 (.ref 307),kE Q "row_of" 584 (.ref 314),kE Q "plan_of" 590 (.ref 319),kE Q "read" 598 (.ref 326),kE Q "_law_bag" 606 (.ref 331),kE Q "_law_take" 619 (.ref 338),kE Q "_law_name" 625 (.ref 343),kE Q "_law_names" 638 (.ref 350),kE Q "_law_value" 645 (.ref 357),kE Q "_law_operand" 653 (.ref 364),kE Q "_law_deed" 664 (.ref 371),kE Q "_law_row" 676 (.ref 378),kE Q "_law_net" 689 (.ref 385),kE Q "_law_mended" 695 (.ref 390),kE Q "_law_drawn" 701 (.ref 395),kE Q "_law_line" 707 (.ref 400),kE Q "_law_text" 713 (.ref 405),kE Q "_law_chain" 719 (.ref 410),kE Q "_law_alike" 730 (.ref 417),kE Q "law" 736 (.ref 422)] 63),
 (20,kC "_wall" "_wall" 187 188 189 1 1 0 0 3 15 181 16 17 18 19 191 1 192),
 (21,kF "_wall" "_wall" (top 0) m0 (.ref 20)),
 (30,kD [kE Q "__module__" 203 (.str "oncedone.errors" 194),kE Q "__firstlineno__" 207 (.int (5) 206),kE Q "__static_attributes__" 208 (.ref 29),kE Q "__weakref__" 210 (.ref 32),kE Q "__doc__" 211 .none] 3),
 (31,⟨(.type "type"),none,.cls { name := "OnceError",bases:=[(.type "ValueError")],mro:=[(.ref 31),(.type "ValueError"),(.type "Exception"),(.type "BaseException"),(.type "object")],ns:=30,qualname := "OnceError",hasDict:=true,subclasses:=[(.ref 51),(.ref 70),(.ref 89),(.ref 108),(.ref 120)] },([some (.ref 22),none,some (.str "OnceError" 196),some (.str "OnceError" 204),some (.builtin "ValueError.__new__"),some (.bool true)]:List (Option Value)).toArray⟩),
 (47,kC "__init__" "Wrong.__init__" 226 227 228 9 2 0 0 3 42 181 43 44 45 46 231 9 232),
 (48,kF "__init__" "Wrong.__init__" (Q2 (top 3) 0) m1 (.ref 47)),
 (50,kD [kE Q "__module__" 221 (.str "oncedone.errors" 194),kE Q "__firstlineno__" 225 (.int (7) 224),kE Q "__init__" 233 (.ref 48),kE Q "__static_attributes__" 235 (.ref 49),kE Q "__doc__" 236 .none] 2),
 (51,⟨(.type "type"),none,.cls { name := "Wrong",bases:=[(.ref 31)],mro:=[(.ref 51),(.ref 31),(.type "ValueError"),(.type "Exception"),(.type "BaseException"),(.type "object")],ns:=50,qualname := "Wrong",hasDict:=true,subclasses:=[] },([some (.ref 35),none,some (.str "Wrong" 214),some (.str "Wrong" 222),some (.builtin "ValueError.__new__"),some (.bool true)]:List (Option Value)).toArray⟩),
 (66,kC "__init__" "NoThing.__init__" 251 252 253 13 2 0 0 3 61 181 62 63 64 65 256 13 257),
 (67,kF "__init__" "NoThing.__init__" (Q2 (top 4) 0) m1 (.ref 66)),
 (69,kD [kE Q "__module__" 246 (.str "oncedone.errors" 194),kE Q "__firstlineno__" 250 (.int (11) 249),kE Q "__init__" 258 (.ref 67),kE Q "__static_attributes__" 260 (.ref 68),kE Q "__doc__" 261 .none] 2),
 (70,⟨(.type "type"),none,.cls { name := "NoThing",bases:=[(.ref 31)],mro:=[(.ref 70),(.ref 31),(.type "ValueError"),(.type "Exception"),(.type "BaseException"),(.type "object")],ns:=69,qualname := "NoThing",hasDict:=true,subclasses:=[] },([some (.ref 54),none,some (.str "NoThing" 239),some (.str "NoThing" 247),some (.builtin "ValueError.__new__"),some (.bool true)]:List (Option Value)).toArray⟩),
 (85,kC "__init__" "TooMany.__init__" 276 277 278 17 2 0 0 3 80 181 81 82 83 84 281 17 282),
 (86,kF "__init__" "TooMany.__init__" (Q2 (top 5) 0) m1 (.ref 85)),
 (88,kD [kE Q "__module__" 271 (.str "oncedone.errors" 194),kE Q "__firstlineno__" 275 (.int (15) 274),kE Q "__init__" 283 (.ref 86),kE Q "__static_attributes__" 285 (.ref 87),kE Q "__doc__" 286 .none] 2),
 (89,⟨(.type "type"),none,.cls { name := "TooMany",bases:=[(.ref 31)],mro:=[(.ref 89),(.ref 31),(.type "ValueError"),(.type "Exception"),(.type "BaseException"),(.type "object")],ns:=88,qualname := "TooMany",hasDict:=true,subclasses:=[] },([some (.ref 73),none,some (.str "TooMany" 264),some (.str "TooMany" 272),some (.builtin "ValueError.__new__"),some (.bool true)]:List (Option Value)).toArray⟩),
 (104,kC "__init__" "NoWay.__init__" 301 302 303 21 2 0 0 3 99 181 100 101 102 103 306 21 307),
 (105,kF "__init__" "NoWay.__init__" (Q2 (top 6) 0) m1 (.ref 104)),
 (107,kD [kE Q "__module__" 296 (.str "oncedone.errors" 194),kE Q "__firstlineno__" 300 (.int (19) 299),kE Q "__init__" 308 (.ref 105),kE Q "__static_attributes__" 310 (.ref 106),kE Q "__doc__" 311 .none] 2),
 (108,⟨(.type "type"),none,.cls { name := "NoWay",bases:=[(.ref 31)],mro:=[(.ref 108),(.ref 31),(.type "ValueError"),(.type "Exception"),(.type "BaseException"),(.type "object")],ns:=107,qualname := "NoWay",hasDict:=true,subclasses:=[] },([some (.ref 92),none,some (.str "NoWay" 289),some (.str "NoWay" 297),some (.builtin "ValueError.__new__"),some (.bool true)]:List (Option Value)).toArray⟩),
 (119,kD [kE Q "__module__" 321 (.str "oncedone.errors" 194),kE Q "__firstlineno__" 325 (.int (23) 324),kE Q "__static_attributes__" 326 (.ref 118),kE Q "__doc__" 327 .none] 2),
 (120,⟨(.type "type"),none,.cls { name := "NoText",bases:=[(.ref 31)],mro:=[(.ref 120),(.ref 31),(.type "ValueError"),(.type "Exception"),(.type "BaseException"),(.type "object")],ns:=119,qualname := "NoText",hasDict:=true,subclasses:=[] },([some (.ref 111),none,some (.str "NoText" 314),some (.str "NoText" 322),some (.builtin "ValueError.__new__"),some (.bool true)]:List (Option Value)).toArray⟩),
 (123,⟨(.type "tuple"),none,.seq ([(.str "plus" 340),(.str "minus" 341),(.str "times" 342),(.str "less" 343),(.str "same" 344)]:List Value).toArray 0,([]:List (Option Value)).toArray⟩),
 (129,kC "is_whole" "is_whole" 346 347 348 31 1 0 0 3 124 181 125 126 127 128 350 31 351),
 (130,kF "is_whole" "is_whole" (top 14) m2 (.ref 129)),
 (136,kC "is_value" "is_value" 353 354 355 33 1 0 0 3 131 181 132 133 134 135 357 33 358),
 (137,kF "is_value" "is_value" (top 15) m2 (.ref 136)),
 (141,kN "is_name" "is_name" 360 361 362 35 1 0 0 3 138 181 139 140 363 35 364),
 (142,kF "is_name" "is_name" (top 16) m2 (.ref 141))]
def c3v:List Addr:=[3,20,21,30,31,47,48,50,51,66,67,69,70,85,86,88,89,104,105,107,108,119,120,123,129,130,136,137,141,142]
def K2(Q:Params):Frag:=[
 (148,kC "is_operand" "is_operand" 366 367 368 39 1 0 0 3 143 181 144 145 146 147 370 39 371),
 (149,kF "is_operand" "is_operand" (top 17) m2 (.ref 148)),
 (155,kC "is_deed" "is_deed" 373 374 375 41 1 0 0 3 150 181 151 152 153 154 377 41 378),
 (156,kF "is_deed" "is_deed" (top 18) m2 (.ref 155)),
 (162,kC "is_row" "is_row" 380 381 382 45 1 0 0 3 157 181 158 159 160 161 386 45 387),
 (163,kF "is_row" "is_row" (top 19) m2 (.ref 162)),
 (169,kC "is_below" "is_below" 393 394 395 61 2 0 0 3 164 181 165 166 167 168 398 61 399),
 (170,kF "is_below" "is_below" (top 22) m3 (.ref 169)),
 (176,kC "check_length" "check_length" 401 402 403 63 3 0 0 3 171 181 172 173 174 175 407 63 408),
 (177,kF "check_length" "check_length" (top 23) m3 (.ref 176)),
 (183,kC "check_each" "check_each" 410 411 412 68 1 0 0 3 178 181 179 180 181 182 416 68 417),
 (184,kF "check_each" "check_each" (top 24) m3 (.ref 183)),
 (185,⟨(.type "tuple"),none,.seq ([(.int (-1) 422),(.int (0) 423)]:List Value).toArray 0,([]:List (Option Value)).toArray⟩),
 (189,kN "are_nexts" "are_nexts" 425 426 427 74 3 0 0 3 186 181 187 188 428 74 429),
 (190,kF "are_nexts" "are_nexts" (top 27) m4 (.ref 189)),
 (194,kN "check_nexts" "check_nexts" 431 432 433 79 2 0 0 3 191 181 192 193 434 79 435),
 (195,kF "check_nexts" "check_nexts" (top 28) m4 (.ref 194)),
 (199,kN "stops_of" "stops_of" 437 438 439 83 1 0 0 3 196 181 197 198 440 83 441),
 (200,kF "stops_of" "stops_of" (top 29) m4 (.ref 199)),
 (204,kN "turned" "turned" 443 444 445 85 1 0 0 3 201 181 202 203 446 85 447),
 (205,kF "turned" "turned" (top 30) m4 (.ref 204)),
 (211,kC "reached" "reached" 449 450 451 91 2 0 0 3 206 181 207 208 209 210 457 91 458),
 (212,kF "reached" "reached" (top 31) m4 (.ref 211)),
 (218,kC "check_ways" "check_ways" 460 461 462 100 1 0 0 3 213 181 214 215 216 217 467 100 468),
 (219,kF "check_ways" "check_ways" (top 32) m4 (.ref 218)),
 (223,kN "steps_of" "steps_of" 470 471 472 106 1 0 0 3 220 181 221 222 473 106 474),
 (224,kF "steps_of" "steps_of" (top 33) m4 (.ref 223)),
 (235,kN "__init__" "Plan.__init__" 488 489 490 113 3 0 0 3 232 181 233 234 491 113 492),
 (236,kF "__init__" "Plan.__init__" (Q2 (top 34) 0) m4 (.ref 235)),
 (242,kC "steps" "Plan.steps" 494 495 496 124 1 0 0 3 237 181 238 239 240 241 498 124 499)]
def c0X:List Addr:=[148,149,155,156,162,163,169,170,176,177,183,184,185,189,190,194,195,199,200,204,205,211,212,218,219,223,224,235,236,242]
def K3(Q:Params):Frag:=[
 (243,kF "steps" "Plan.steps" (Q2 (top 34) 1) m4 (.ref 242)),
 (249,kC "leads_to" "Plan.leads_to" 501 502 503 127 2 0 0 3 244 181 245 246 247 248 506 127 507),
 (250,kF "leads_to" "Plan.leads_to" (Q2 (top 34) 2) m4 (.ref 249)),
 (256,kC "steps_into" "Plan.steps_into" 509 510 511 132 2 0 0 3 251 181 252 253 254 255 514 132 515),
 (257,kF "steps_into" "Plan.steps_into" (Q2 (top 34) 3) m4 (.ref 256)),
 (263,kC "stops" "Plan.stops" 517 518 519 135 1 0 0 3 258 181 259 260 261 262 521 135 522),
 (264,kF "stops" "Plan.stops" (Q2 (top 34) 4) m4 (.ref 263)),
 (270,kC "deeds" "Plan.deeds" 524 525 526 138 1 0 0 3 265 181 266 267 268 269 528 138 529),
 (271,kF "deeds" "Plan.deeds" (Q2 (top 34) 5) m4 (.ref 270)),
 (277,kC "names" "Plan.names" 531 532 533 141 1 0 0 3 272 181 273 274 275 276 535 141 536),
 (278,kF "names" "Plan.names" (Q2 (top 34) 6) m4 (.ref 277)),
 (280,kD [kE Q "__module__" 483 (.str "oncedone.plans" 419),kE Q "__firstlineno__" 487 (.int (111) 486),kE Q "__init__" 493 (.ref 236),kE Q "steps" 500 (.ref 243),kE Q "leads_to" 508 (.ref 250),kE Q "steps_into" 516 (.ref 257),kE Q "stops" 523 (.ref 264),kE Q "deeds" 530 (.ref 271),kE Q "names" 537 (.ref 278),kE Q "__static_attributes__" 541 (.ref 279),kE Q "__dict__" 543 (.ref 282),kE Q "__weakref__" 545 (.ref 283),kE Q "__doc__" 546 .none] 4),
 (281,⟨(.type "type"),none,.cls { name := "Plan",bases:=[(.type "object")],mro:=[(.ref 281),(.type "object")],ns:=280,qualname := "Plan",hasDict:=true,subclasses:=[] },([none,none,some (.str "Plan" 476),some (.str "Plan" 484),some (.builtin "object.__new__"),some (.bool true)]:List (Option Value)).toArray⟩),
 (291,kC "words_of" "words_of" 551 552 553 144 1 0 0 3 286 181 287 288 289 290 557 144 558),
 (292,kF "words_of" "words_of" (top 36) m5 (.ref 291)),
 (296,kN "shown_place" "shown_place" 560 561 562 149 2 0 0 3 293 181 294 295 563 149 564),
 (297,kF "shown_place" "shown_place" (top 37) m5 (.ref 296)),
 (301,kN "shown" "shown" 566 567 568 155 1 0 0 3 298 181 299 300 569 155 570),
 (302,kF "shown" "shown" (top 38) m5 (.ref 301)),
 (306,kN "thing_of" "thing_of" 572 573 574 157 1 0 0 3 303 181 304 305 575 157 576),
 (307,kF "thing_of" "thing_of" (top 39) m5 (.ref 306)),
 (313,kC "row_of" "row_of" 578 579 580 161 1 0 0 3 308 181 309 310 311 312 582 161 583),
 (314,kF "row_of" "row_of" (top 40) m5 (.ref 313)),
 (318,kN "plan_of" "plan_of" 585 586 587 165 1 0 0 3 315 181 316 317 588 165 589),
 (319,kF "plan_of" "plan_of" (top 41) m5 (.ref 318)),
 (325,kC "read" "read" 591 592 593 177 1 0 0 3 320 181 321 322 323 324 596 177 597),
 (326,kF "read" "read" (top 42) m5 (.ref 325)),
 (330,kN "_law_bag" "_law_bag" 601 602 603 185 1 0 0 3 327 181 328 329 604 185 605),
 (331,kF "_law_bag" "_law_bag" (top 44) m6 (.ref 330)),
 (337,kC "_law_take" "_law_take" 607 608 609 187 2 0 0 3 332 181 333 334 335 336 617 187 618)]
def c0W:List Addr:=[243,249,250,256,257,263,264,270,271,277,278,280,281,291,292,296,297,301,302,306,307,313,314,318,319,325,326,330,331,337]
def K4(Q:Params):Frag:=[
 (338,kF "_law_take" "_law_take" (top 45) m6 (.ref 337)),
 (342,kN "_law_name" "_law_name" 620 621 622 206 1 0 0 3 339 181 340 341 623 206 624),
 (343,kF "_law_name" "_law_name" (top 46) m6 (.ref 342)),
 (349,kC "_law_names" "_law_names" 626 627 628 210 1 0 0 3 344 181 345 346 347 348 636 210 637),
 (350,kF "_law_names" "_law_names" (top 47) m6 (.ref 349)),
 (356,kC "_law_value" "_law_value" 639 640 641 223 1 0 0 3 351 181 352 353 354 355 643 223 644),
 (357,kF "_law_value" "_law_value" (top 48) m6 (.ref 356)),
 (363,kC "_law_operand" "_law_operand" 646 647 648 225 2 0 0 3 358 181 359 360 361 362 651 225 652),
 (364,kF "_law_operand" "_law_operand" (top 49) m6 (.ref 363)),
 (370,kC "_law_deed" "_law_deed" 654 655 656 229 2 0 0 3 365 181 366 367 368 369 662 229 663),
 (371,kF "_law_deed" "_law_deed" (top 50) m6 (.ref 370)),
 (377,kC "_law_row" "_law_row" 665 666 667 236 4 0 0 3 372 181 373 374 375 376 674 236 675),
 (378,kF "_law_row" "_law_row" (top 51) m6 (.ref 377)),
 (384,kC "_law_net" "_law_net" 677 678 679 248 2 0 0 3 379 181 380 381 382 383 687 248 688),
 (385,kF "_law_net" "_law_net" (top 52) m6 (.ref 384)),
 (389,kN "_law_mended" "_law_mended" 690 691 692 266 1 0 0 3 386 181 387 388 693 266 694),
 (390,kF "_law_mended" "_law_mended" (top 53) m6 (.ref 389)),
 (394,kN "_law_drawn" "_law_drawn" 696 697 698 281 1 0 0 3 391 181 392 393 699 281 700),
 (395,kF "_law_drawn" "_law_drawn" (top 54) m6 (.ref 394)),
 (399,kN "_law_line" "_law_line" 702 703 704 289 2 0 0 3 396 181 397 398 705 289 706),
 (400,kF "_law_line" "_law_line" (top 55) m6 (.ref 399)),
 (404,kN "_law_text" "_law_text" 708 709 710 298 2 0 0 3 401 181 402 403 711 298 712),
 (405,kF "_law_text" "_law_text" (top 56) m6 (.ref 404)),
 (409,kN "_law_chain" "_law_chain" 714 715 716 300 1 0 0 3 406 181 407 408 717 300 718),
 (410,kF "_law_chain" "_law_chain" (top 57) m6 (.ref 409)),
 (416,kC "_law_alike" "_law_alike" 720 721 722 305 3 0 0 3 411 181 412 413 414 415 728 305 729),
 (417,kF "_law_alike" "_law_alike" (top 58) m6 (.ref 416)),
 (421,kN "law" "law" 731 732 733 313 1 0 0 3 418 181 419 420 734 313 735),
 (422,kF "law" "law" (top 59) m6 (.ref 421))]
def c0V:List Addr:=[338,342,343,349,350,356,357,363,364,370,371,377,378,384,385,389,390,394,395,399,400,404,405,409,410,416,417,421,422]
def K(Q:Params):Frag:=K1 Q++(K2 Q++(K3 Q++K4 Q))
def adr:List Addr:=c3v++(c0X++(c0W++c0V))
def q:v0:=view P [59]
def loose:List Str:=(["_wall","OnceError","Wrong","NoThing","TooMany","NoWay","NoText","BOUND","LETTERS","FIGURES","LONGEST_NAME","DEED_KINDS","is_whole","is_value","is_name","is_operand","is_deed","is_row","MOST","is_below","check_length","check_each","FIRST_STEP","are_nexts","check_nexts","stops_of","turned","reached","check_ways","steps_of","Plan","words_of","shown_place","shown","thing_of","row_of","plan_of","read","_law_bag","_law_take","_law_name","_law_names","_law_value","_law_operand","_law_deed","_law_row","_law_net","_law_mended","_law_drawn","_law_line","_law_text","_law_chain","_law_alike"]:List String).map Str.ofString
theorem b8q{p q:v0}{loose:List Str}{Xt:d7->Bool}{α:Type}{Yf:d7->α}{Ya:World->α}{N m₀:Nat}{ann:Option Value}(e:opening p=plainProg p.main.scope.names)(hN:Nat.ble 600 N=true)(f:∀s,fenceModules? p s=some s)
  (size:∀w:World,((boot_heap w.params).isNs o3,(boot_heap w.params).objs.size,(boot_heap w.params).nsMap o3 "__annotations__")=(true,m₀,ann))
  {r:World->OsState->Option d7} (hr:∀w os x,r w os=some x->topRun treeTable p w m₀ ann N ⟨boot_heap w.params,Array.mk [],boot_drawn,boot_toks,os⟩ (topStub p)=some x)
  (ra:∀w os,(r w os).map (fun s₁=>staticsOk (a0Z p.main.body) (boot_heap w.params) s₁.heap&&namesBound p s₁.heap&&gensDone s₁&&laidKept (boot_heap w.params) s₁.heap)=some true)
  (rb:∀w os,(r w os).map (openSeen q loose (a0Z p.main.body) Xt true)=some (openGood q loose))
  (rc:∀w os,(r w os).map Yf=some (Ya w)) :
  LeftO p q loose Xt Yf Ya N:=fun w=>by
 obtain⟨⟨h,gs,d,k,os⟩,e1,e2⟩:=v8.mp (boot_open e hN f w)
 obtain⟨rfl,rfl,rfl,rfl⟩:h=boot_heap w.params/\gs=Array.mk []/\d=boot_drawn/\k=boot_toks:=by simpa using e2
 obtain⟨z1,z2,z3⟩:_/\_/\_:=by simpa only[Prod.mk.injEq]using size w
 obtain⟨s₁,r1,r3⟩:=v8.mp (ra w os)
 have rb:=rb w os
 have rc:=rc w os
 rw[r1]at rb rc
 have r1:=hr w os _ r1
 have r4:(openSeen q loose (a0Z p.main.body) Xt true s₁,Yf s₁)=(openGood q loose,Ya w):=Prod.ext (Option.some.inj rb) (Option.some.inj rc)
 have t:topFrom treeTable p w N ⟨boot_heap w.params,Array.mk [],boot_drawn,boot_toks,os⟩=some s₁:=by
  unfold topFrom
  dsimp only
  rw[z1,z2,z3,r1]
  show(match staticsOk (a0Z p.main.body) (boot_heap w.params) s₁.heap&&namesBound p s₁.heap&&gensDone s₁&&laidKept (boot_heap w.params) s₁.heap with | true=>some s₁ | false=>none)=_
  rw[r3]
 unfold openEnds
 rw[e1]
 show(topFrom treeTable p w N _).map _=_
 rw[t]
 exact congrArg some r4
abbrev a8N:Hook:=kHook K adr (fun _=>by kernel_rfl)
abbrev row:OpenLaw:=PySem.Challenge.rw_oncedone_k91_texts_read_again
def kZ(x q:Str)(st:Stmt):Obj:=⟨.none,none,.func { fnOf x q (a1E st) (a0d st) (d3 st) .none .none .none .none none .none .none with globals:=0 },#[]⟩
def kS(xs:List Value)(n:Nat):Obj:=⟨.type "tuple",none,.seq xs.toArray n,([]:List (Option Value)).toArray⟩
noncomputable section
def kk(a:Addr)(Q:Params):Obj:=((K Q).lookup a).getD (boot_o_4 Q)
def h1(Q:Params):List Obj:=[
boot_o_0 Q,
boot_o_1 Q,
boot_o_2 Q,
kD [kE Q "__name__" 165 (.str "oncedone.words" 330),kE Q "__doc__" 166 .none,kE Q "__package__" 167 .none,kE Q "__loader__" 168 (.builtin "__main__.__loader__#opaque"),kE Q "__spec__" 169 .none,kE Q "__annotations__" 170 (.ref 6),kE Q "__builtins__" 171 (.ref 4),kE Q "__file__" 173 (.str "/claim/cut.py" 172),kE Q "__cached__" 174 .none,kE Q "_wall" 193 (.ref 21),kE Q "OnceError" 213 (.ref 31),kE Q "Wrong" 238 (.ref 51),kE Q "NoThing" 263 (.ref 70),kE Q "TooMany" 288 (.ref 89),kE Q "NoWay" 313 (.ref 108),kE Q "NoText" 329 (.ref 120),kE Q "BOUND" 333 (.int (1000000000000) 332),kE Q "LETTERS" 335 (.str "abcdefghijklmnopqrstuvwxyz" 334),kE Q "FIGURES" 337 (.str "0123456789" 336),kE Q "LONGEST_NAME" 339 (.int (8) 338),kE Q "DEED_KINDS" 345 (.ref 123),kE Q "is_whole" 352 (.ref 130)] 22,
boot_o_4 Q,
boot_o_5 Q,
boot_o_6 Q,
boot_o_7 Q,
boot_o_8 Q,
boot_o_9 Q,
boot_o_10 Q,
kS [] 0,
⟨.none,none,.fields ([(.int (1) 0),(.int (0) 0),(.ref 20),(.int (5) 0),(.int (0) 0),(.ref 27),(.int (7) 0),(.int (0) 0),(.ref 40),(.int (11) 0),(.int (0) 0),(.ref 59),(.int (15) 0),(.int (0) 0),(.ref 78),(.int (19) 0),(.int (0) 0),(.ref 97),(.int (23) 0),(.int (0) 0),(.ref 116),(.int (31) 0),(.int (0) 0),(.ref 129)]:List Value).toArray,([]:List (Option Value)).toArray⟩,
⟨(.type "code"),none,.fields ([(.str "<module>" 182),(.str "<module>" 183),(.str "/claim/cut.py" 184),(.int (1) 0),(.int (0) 0),(.int (0) 0),(.int (0) 0),(.int (0) 0),(.ref 11),(.bool false),(.int (181) 0),(.ref 12),.none,.none,.none,.none,(.int (185) 0),(.int (1) 0),(.str "/claim/cut.py" 186)]:List Value).toArray,([]:List (Option Value)).toArray⟩,
⟨(.type "frame"),none,.plain,([some (.ref 13),some (.ref 3),some (.ref 3),none,some (.str "__main__" 164),none,some (.ref 0)]:List (Option Value)).toArray⟩,
kS [] 0,
⟨.none,none,.fields ([]:List Value).toArray,([]:List (Option Value)).toArray⟩,
kS [(.str "k" 190)] 0,
kS [] 0,
kZ "_wall" "_wall" (top 0),
kk 20 Q,
kk 21 Q,
kS [(.type "ValueError")] 0,
⟨(.type "builtin_function_or_method"),none,.fields ([(.builtin "type.__prepare__"),(.type "type")]:List Value).toArray,([]:List (Option Value)).toArray⟩,
kD [kE Q "__module__" 203 (.str "oncedone.errors" 194),kE Q "__qualname__" 205 (.str "OnceError" 204),kE Q "__firstlineno__" 207 (.int (5) 206),kE Q "__static_attributes__" 208 (.ref 29)] 4,
kS [] 0,
⟨.none,none,.fields ([]:List Value).toArray,([]:List (Option Value)).toArray⟩,
⟨(.type "code"),none,.fields ([(.str "OnceError" 198),(.str "OnceError" 199),(.str "/claim/cut.py" 200),(.int (5) 0),(.int (0) 0),(.int (0) 0),(.int (0) 0),(.int (0) 0),(.ref 25),(.bool false),(.int (181) 0),(.ref 26),.none,.none,.none,.none,(.int (201) 0),(.int (5) 0),(.str "/claim/cut.py" 202)]:List Value).toArray,([]:List (Option Value)).toArray⟩,
⟨(.type "frame"),none,.plain,([some (.ref 27),some (.ref 3),some (.ref 24),none,some (.str "oncedone.errors" 194),none,some (.ref 0)]:List (Option Value)).toArray⟩,
kS [] 0,
kk 30 Q,
kk 31 Q,
⟨(.type "getset_descriptor"),none,.fields ([(.str "__weakref__" 209),(.ref 31),(.builtin "ExceptionGroup.__weakref__"),.none]:List Value).toArray,([]:List (Option Value)).toArray⟩,
⟨(.type "super"),none,.fields ([(.ref 31),(.ref 31),(.ref 31)]:List Value).toArray,([]:List (Option Value)).toArray⟩,
⟨(.type "builtin_function_or_method"),none,.fields ([(.builtin "object.__init_subclass__"),(.ref 31)]:List Value).toArray,([]:List (Option Value)).toArray⟩,
kS [(.ref 31)] 0,
⟨(.type "builtin_function_or_method"),none,.fields ([(.builtin "type.__prepare__"),(.type "type")]:List Value).toArray,([]:List (Option Value)).toArray⟩,
kD [kE Q "__module__" 221 (.str "oncedone.errors" 194),kE Q "__qualname__" 223 (.str "Wrong" 222),kE Q "__firstlineno__" 225 (.int (7) 224),kE Q "__init__" 233 (.ref 48),kE Q "__static_attributes__" 235 (.ref 49)] 5,
kS [] 0,
⟨.none,none,.fields ([(.int (9) 0),(.int (4) 0),(.ref 47)]:List Value).toArray,([]:List (Option Value)).toArray⟩,
⟨(.type "code"),none,.fields ([(.str "Wrong" 216),(.str "Wrong" 217),(.str "/claim/cut.py" 218),(.int (7) 0),(.int (0) 0),(.int (0) 0),(.int (0) 0),(.int (0) 0),(.ref 38),(.bool false),(.int (181) 0),(.ref 39),.none,.none,.none,.none,(.int (219) 0),(.int (7) 0),(.str "/claim/cut.py" 220)]:List Value).toArray,([]:List (Option Value)).toArray⟩,
⟨(.type "frame"),none,.plain,([some (.ref 40),some (.ref 3),some (.ref 37),none,some (.str "oncedone.errors" 194),none,some (.ref 0)]:List (Option Value)).toArray⟩,
kS [] 0,
⟨.none,none,.fields ([]:List Value).toArray,([]:List (Option Value)).toArray⟩,
kS [(.str "self" 229),(.str "at" 230)] 0,
kS [] 0,
kZ "__init__" "Wrong.__init__" (Q2 (top 3) 0),
kk 47 Q,
kk 48 Q,
kS [(.str "at" 234)] 0,
kk 50 Q,
kk 51 Q,
⟨(.type "super"),none,.fields ([(.ref 51),(.ref 51),(.ref 51)]:List Value).toArray,([]:List (Option Value)).toArray⟩,
⟨(.type "builtin_function_or_method"),none,.fields ([(.builtin "object.__init_subclass__"),(.ref 51)]:List Value).toArray,([]:List (Option Value)).toArray⟩,
kS [(.ref 31)] 0,
⟨(.type "builtin_function_or_method"),none,.fields ([(.builtin "type.__prepare__"),(.type "type")]:List Value).toArray,([]:List (Option Value)).toArray⟩,
kD [kE Q "__module__" 246 (.str "oncedone.errors" 194),kE Q "__qualname__" 248 (.str "NoThing" 247),kE Q "__firstlineno__" 250 (.int (11) 249),kE Q "__init__" 258 (.ref 67),kE Q "__static_attributes__" 260 (.ref 68)] 5,
kS [] 0,
⟨.none,none,.fields ([(.int (13) 0),(.int (4) 0),(.ref 66)]:List Value).toArray,([]:List (Option Value)).toArray⟩,
⟨(.type "code"),none,.fields ([(.str "NoThing" 241),(.str "NoThing" 242),(.str "/claim/cut.py" 243),(.int (11) 0),(.int (0) 0),(.int (0) 0),(.int (0) 0),(.int (0) 0),(.ref 57),(.bool false),(.int (181) 0),(.ref 58),.none,.none,.none,.none,(.int (244) 0),(.int (11) 0),(.str "/claim/cut.py" 245)]:List Value).toArray,([]:List (Option Value)).toArray⟩,
⟨(.type "frame"),none,.plain,([some (.ref 59),some (.ref 3),some (.ref 56),none,some (.str "oncedone.errors" 194),none,some (.ref 0)]:List (Option Value)).toArray⟩,
kS [] 0,
⟨.none,none,.fields ([]:List Value).toArray,([]:List (Option Value)).toArray⟩,
kS [(.str "self" 254),(.str "at" 255)] 0,
kS [] 0,
kZ "__init__" "NoThing.__init__" (Q2 (top 4) 0),
kk 66 Q,
kk 67 Q,
kS [(.str "at" 259)] 0,
kk 69 Q,
kk 70 Q,
⟨(.type "super"),none,.fields ([(.ref 70),(.ref 70),(.ref 70)]:List Value).toArray,([]:List (Option Value)).toArray⟩,
⟨(.type "builtin_function_or_method"),none,.fields ([(.builtin "object.__init_subclass__"),(.ref 70)]:List Value).toArray,([]:List (Option Value)).toArray⟩,
kS [(.ref 31)] 0,
⟨(.type "builtin_function_or_method"),none,.fields ([(.builtin "type.__prepare__"),(.type "type")]:List Value).toArray,([]:List (Option Value)).toArray⟩,
kD [kE Q "__module__" 271 (.str "oncedone.errors" 194),kE Q "__qualname__" 273 (.str "TooMany" 272),kE Q "__firstlineno__" 275 (.int (15) 274),kE Q "__init__" 283 (.ref 86),kE Q "__static_attributes__" 285 (.ref 87)] 5,
kS [] 0,
⟨.none,none,.fields ([(.int (17) 0),(.int (4) 0),(.ref 85)]:List Value).toArray,([]:List (Option Value)).toArray⟩,
⟨(.type "code"),none,.fields ([(.str "TooMany" 266),(.str "TooMany" 267),(.str "/claim/cut.py" 268),(.int (15) 0),(.int (0) 0),(.int (0) 0),(.int (0) 0),(.int (0) 0),(.ref 76),(.bool false),(.int (181) 0),(.ref 77),.none,.none,.none,.none,(.int (269) 0),(.int (15) 0),(.str "/claim/cut.py" 270)]:List Value).toArray,([]:List (Option Value)).toArray⟩,
⟨(.type "frame"),none,.plain,([some (.ref 78),some (.ref 3),some (.ref 75),none,some (.str "oncedone.errors" 194),none,some (.ref 0)]:List (Option Value)).toArray⟩,
kS [] 0,
⟨.none,none,.fields ([]:List Value).toArray,([]:List (Option Value)).toArray⟩,
kS [(.str "self" 279),(.str "most" 280)] 0,
kS [] 0,
kZ "__init__" "TooMany.__init__" (Q2 (top 5) 0),
kk 85 Q,
kk 86 Q,
kS [(.str "most" 284)] 0,
kk 88 Q,
kk 89 Q,
⟨(.type "super"),none,.fields ([(.ref 89),(.ref 89),(.ref 89)]:List Value).toArray,([]:List (Option Value)).toArray⟩,
⟨(.type "builtin_function_or_method"),none,.fields ([(.builtin "object.__init_subclass__"),(.ref 89)]:List Value).toArray,([]:List (Option Value)).toArray⟩,
kS [(.ref 31)] 0,
⟨(.type "builtin_function_or_method"),none,.fields ([(.builtin "type.__prepare__"),(.type "type")]:List Value).toArray,([]:List (Option Value)).toArray⟩,
kD [kE Q "__module__" 296 (.str "oncedone.errors" 194),kE Q "__qualname__" 298 (.str "NoWay" 297),kE Q "__firstlineno__" 300 (.int (19) 299),kE Q "__init__" 308 (.ref 105),kE Q "__static_attributes__" 310 (.ref 106)] 5,
kS [] 0,
⟨.none,none,.fields ([(.int (21) 0),(.int (4) 0),(.ref 104)]:List Value).toArray,([]:List (Option Value)).toArray⟩,
⟨(.type "code"),none,.fields ([(.str "NoWay" 291),(.str "NoWay" 292),(.str "/claim/cut.py" 293),(.int (19) 0),(.int (0) 0),(.int (0) 0),(.int (0) 0),(.int (0) 0),(.ref 95),(.bool false),(.int (181) 0),(.ref 96),.none,.none,.none,.none,(.int (294) 0),(.int (19) 0),(.str "/claim/cut.py" 295)]:List Value).toArray,([]:List (Option Value)).toArray⟩,
⟨(.type "frame"),none,.plain,([some (.ref 97),some (.ref 3),some (.ref 94),none,some (.str "oncedone.errors" 194),none,some (.ref 0)]:List (Option Value)).toArray⟩,
kS [] 0,
⟨.none,none,.fields ([]:List Value).toArray,([]:List (Option Value)).toArray⟩,
kS [(.str "self" 304),(.str "at" 305)] 0,
kS [] 0,
kZ "__init__" "NoWay.__init__" (Q2 (top 6) 0),
kk 104 Q,
kk 105 Q,
kS [(.str "at" 309)] 0,
kk 107 Q,
kk 108 Q,
⟨(.type "super"),none,.fields ([(.ref 108),(.ref 108),(.ref 108)]:List Value).toArray,([]:List (Option Value)).toArray⟩,
⟨(.type "builtin_function_or_method"),none,.fields ([(.builtin "object.__init_subclass__"),(.ref 108)]:List Value).toArray,([]:List (Option Value)).toArray⟩,
kS [(.ref 31)] 0,
⟨(.type "builtin_function_or_method"),none,.fields ([(.builtin "type.__prepare__"),(.type "type")]:List Value).toArray,([]:List (Option Value)).toArray⟩,
kD [kE Q "__module__" 321 (.str "oncedone.errors" 194),kE Q "__qualname__" 323 (.str "NoText" 322),kE Q "__firstlineno__" 325 (.int (23) 324),kE Q "__static_attributes__" 326 (.ref 118)] 4,
kS [] 0,
⟨.none,none,.fields ([]:List Value).toArray,([]:List (Option Value)).toArray⟩,
⟨(.type "code"),none,.fields ([(.str "NoText" 316),(.str "NoText" 317),(.str "/claim/cut.py" 318),(.int (23) 0),(.int (0) 0),(.int (0) 0),(.int (0) 0),(.int (0) 0),(.ref 114),(.bool false),(.int (181) 0),(.ref 115),.none,.none,.none,.none,(.int (319) 0),(.int (23) 0),(.str "/claim/cut.py" 320)]:List Value).toArray,([]:List (Option Value)).toArray⟩,
⟨(.type "frame"),none,.plain,([some (.ref 116),some (.ref 3),some (.ref 113),none,some (.str "oncedone.errors" 194),none,some (.ref 0)]:List (Option Value)).toArray⟩,
kS [] 0,
kk 119 Q,
kk 120 Q,
⟨(.type "super"),none,.fields ([(.ref 120),(.ref 120),(.ref 120)]:List Value).toArray,([]:List (Option Value)).toArray⟩,
⟨(.type "builtin_function_or_method"),none,.fields ([(.builtin "object.__init_subclass__"),(.ref 120)]:List Value).toArray,([]:List (Option Value)).toArray⟩,
kk 123 Q,
kS [] 0,
⟨.none,none,.fields ([]:List Value).toArray,([]:List (Option Value)).toArray⟩,
kS [(.str "thing" 349)] 0,
kS [] 0,
kZ "is_whole" "is_whole" (top 14),
kk 129 Q,
kk 130 Q]
abbrev bd:List Stmt:=behindTheImports P
abbrev en:Env:={ scope:=P.main.scope,locals:=mainNs,globals:=mainNs,cells:=[],code:=(.ref 13),frame:=some 14 }
abbrev cE:Code:=.body bd en
abbrev fB:List Frame:=[topFrame ⟨0,0,0,0⟩]
abbrev s0(w:World)(os:OsState):d7:=⟨boot_heap w.params,Array.mk [],boot_drawn,boot_toks,os⟩
def sa(w:World)(os:OsState):d7:=((topGo treeTable P w 11 (some (.ref 6)) 12 (s0 w os) (topStub P)).map (·.1)).getD (s0 w os)
abbrev s1(w:World)(os:OsState):d7:=⟨⟨Array.mk (h1 w.params),(boot_heap w.params).life⟩,Array.mk [],boot_drawn,353,os⟩
abbrev rn(w:World)(os:OsState):Option d7:=PySem.W.Fast.tw14082659384304107361 PySem.W.Fast.tw14364793385576792824 P w 11 (some (.ref 6)) 5352 (s1 w os) (restOf (bd.drop 15) en cE ⟨31,0,32,67⟩ fB)
end
theorem c5y(w:World)(os:OsState):topGo treeTable P w 11 (some (.ref 6)) 12 (s0 w os) (topStub P)=some (sa w os,⟨denote treeTable cE,cE,⟨0,0,0,0⟩,fB⟩):=by kernel_rfl
theorem c5x(w:World)(os:OsState):segRun treeTable P w 11 (some (.ref 6)) 1 1 (sa w os) (blockOf bd en cE ⟨0,0,0,0⟩ fB)=some (.next,sa w os,cE,⟨0,0,0,0⟩):=by kernel_rfl
theorem c5w(w:World)(os:OsState):segRun treeTable P w 11 (some (.ref 6)) 1 1507 (sa w os) (piecesOf (bd.take 15) en cE ⟨0,0,0,0⟩ fB)=some (.next,s1 w os,cE,⟨31,0,32,67⟩):=by kernel_rfl
theorem c5v(w:World)(os:OsState)(x:d7)(h:rn w os=some x):topRun treeTable P w 11 (some (.ref 6)) 6872 (s0 w os) (topStub P)=some x:=by
 have h:topRun treeTable P w 11 (some (.ref 6)) 5352 (s1 w os) (restOf (bd.drop 15) en cE ⟨31,0,32,67⟩ fB)=some x:=by rw[PySem.W.Fast.te14082659384304107361,PySem.W.Fast.te14364793385576792824];exact h
 have h:=piece_app (c5w w os) h
 rw[b6o]at h
 exact go_top (c5y w os) (piece_block (c5x w os) h)
theorem c3c(w:World)(os:OsState):(rn w os).map (fun s₁=>staticsOk (a0Z P.main.body) (boot_heap w.params) s₁.heap&&namesBound P s₁.heap&&gensDone s₁&&laidKept (boot_heap w.params) s₁.heap)=some true:=by kernel_rfl
theorem c3b(w:World)(os:OsState):(rn w os).map (PySem.W.Fast.tw4187177175401517315 q loose (a0Z P.main.body) (fun s=>xlAt q [] s&&recOk (RowW.records row.row.toRowW) s) true)=some (openGood q loose):=by kernel_rfl
theorem c0G(w:World)(os:OsState):(rn w os).map (fun s=>c3v.map s.heap.get?)=some ((K1 w.params).map fun p=>some p.2):=by kernel_rfl
theorem c0F(w:World)(os:OsState):(rn w os).map (fun s=>c0X.map s.heap.get?)=some ((K2 w.params).map fun p=>some p.2):=by kernel_rfl
theorem c0E(w:World)(os:OsState):(rn w os).map (fun s=>c0W.map s.heap.get?)=some ((K3 w.params).map fun p=>some p.2):=by kernel_rfl
theorem c0D(w:World)(os:OsState):(rn w os).map (fun s=>c0V.map s.heap.get?)=some ((K4 w.params).map fun p=>some p.2):=by kernel_rfl
theorem c3a(w:World)(os:OsState):(rn w os).map (Hook.obs a8N)=some (Hook.val a8N w):=by
 obtain⟨s,h1,h2⟩:=v8.mp (c0G w os)
 have h3:=c0F w os
 have h4:=c0E w os
 have h5:=c0D w os
 rw[h1]at h3 h4 h5 ⊢
 have h3:c0X.map s.heap.get? = _:=Option.some.inj h3
 have h4:c0W.map s.heap.get? = _:=Option.some.inj h4
 have h5:c0V.map s.heap.get? = _:=Option.some.inj h5
 show some ((c3v++(c0X++(c0W++c0V))).map s.heap.get?)=some ((K1 w.params++(K2 w.params++(K3 w.params++K4 w.params))).map fun p=>some p.2)
 rw[I0,I0,I0,I0,I0,I0,h2,h3,h4,h5]
theorem left:LeftO P q loose (fun s=>xlAt q [] s&&recOk (RowW.records row.row.toRowW) s) (Hook.obs a8N) (Hook.val a8N) 6872:=
 b8q (m₀:=11) (ann:=(some (.ref 6))) (r:=rn) (by kernel_rfl) (by kernel_rfl) (fun s=>by kernel_rfl) (fun w=>by kernel_rfl) c5v c3c (by rw[PySem.W.Fast.te4187177175401517315];exact c3b) c3a
theorem c3Y:row.wellSaid=true:=by
 rw[PySem.W.Fast.te9446332074065402090]
 kernel_rfl
theorem fin(hc:∀d:DefRec,d.name = "law" -> d.params.defaults=[]->WalkO q loose (XL q []) (Hook.says a8N) row.row.toRowW d [] (fun f vs=>b0J f vs)):row.Holds:=by
 refine holds_law (l:=row) c3Y fun said=>?_
 refine holds_open (q:=q) (loose:=loose) (Xt:=fun s=>xlAt q [] s&&recOk (RowW.records row.row.toRowW) s) (XP:=XL q []) (Yf:=Hook.obs a8N) (Ya:=Hook.val a8N) (YP:=Hook.says a8N) (N:=6872) left (Hook.of a8N) (Hook.keeps a8N) (fun s e=>xl_of s (b6u.mp e).1) XL.keeps (by rfl) (by rfl) (by rfl) (fun s e=>recFacts_of (b6u.mp e).2) (by rfl) said (by decide +kernel) ⟨rfl,rfl,rfl,rfl,rfl,by decide +kernel⟩ ?hw (hc _ rfl rfl)
 case hw=>w_witness2
end HD
set_option Elab.async false
set_option linter.all false
set_option maxRecDepth 100000
namespace L2
open PySem PySem.Spec PyProof.Rows
variable{us:List Value}{i t':Nat}{x:Str}{u:Value}{C a b dx f:Addr}{w:World}{h h':Heap}{pins:List (Addr×Obj)}{s:d7}{c e tg:Expr}{p pos:Pos}{Q:Value->d7->Prop}{es:List Expr}{kw:List (Str×Value)}{ps:List Str}{m:Str->Option Value}
abbrev Key:=Sum Int Str
def a8j:Key->Value->Bool
 | .inl k,v=>Value.isInt k v
 | .inr x,v=>Value.isStrOf x v
def c5t(w:World):Key->Int
 | .inl k=>hashInt k
 | .inr x=>hashStr w x
theorem N9:∀ {k:Key} {v:Value},a8j k v=true->(∃i t,k=Sum.inl i/\v=Value.int i t)\/(∃x t,k=Sum.inr x/\v=Value.str x t)
 | .inl i,v,h=>by
  obtain⟨t,e⟩:=Value.isInt_shape (k:=i) (v:=v) h
  exact .inl ⟨i,t,rfl,e⟩
 | .inr x,v,h=>by
  obtain⟨t,e⟩:=Value.isStrOf_shape (x:=x) (v:=v) h
  exact .inr ⟨x,t,rfl,e⟩
theorem b5Q(i:Int)(t:Tok):a8j (.inl i) (.int i t)=true:=by simp[a8j,Value.isInt]
theorem b5P(x:Str)(t:Tok):a8j (.inr x) (.str x t)=true:=by simp[a8j,Value.isStrOf]
theorem c3h(a b:Int):decide ((Sum.inl a:Key)=Sum.inl b)=(a == b):=by
 by_cases e:a=b
 ·subst e;simp
 ·have h:¬(Sum.inl a:Key)=Sum.inl b:=fun q=>e (Sum.inl.inj q)
  rw[c6F h]
  exact(beq_eq_false_iff_ne.mpr e).symm
theorem c3e(a b:Str):decide ((Sum.inr a:Key)=Sum.inr b)=decide (a=b):=by
 by_cases e:a=b
 ·subst e;simp
 ·have h:¬(Sum.inr a:Key)=Sum.inr b:=fun q=>e (Sum.inr.inj q)
  rw[c6F h,c6F e]
theorem c3g(a:Int)(b:Str):decide ((Sum.inl a:Key)=Sum.inr b)=false:=c6F (fun q=>nomatch q)
theorem c3f(a:Str)(b:Int):decide ((Sum.inr a:Key)=Sum.inl b)=false:=c6F (fun q=>nomatch q)
def Q1(prog:v0)(w:World):PySem.KeyKind prog w Key where
 is:=a8j
 hash:=c5t w
 inj:=fun v a b ha hb=>by
  rcases N9 ha with ⟨i,t,rfl,rfl⟩ | ⟨x,t,rfl,rfl⟩
  ·rcases N9 hb with ⟨j,u,rfl,e⟩ | ⟨y,u,rfl,e⟩
   ·injection e with e1 _;rw[e1]
   ·exact nomatch e
  ·rcases N9 hb with ⟨j,u,rfl,e⟩ | ⟨y,u,rfl,e⟩
   ·exact nomatch e
   ·injection e with e1 _;rw[e1]
 byValue:=fun k v h=>by
  rcases N9 h with ⟨i,t,rfl,rfl⟩ | ⟨x,t,rfl,rfl⟩ <;> rfl
 pyHash:=fun hv h=>by
  rcases N9 hv with ⟨i,t,rfl,rfl⟩ | ⟨x,t,rfl,rfl⟩
  ·exact wpAny_pyHash_int h
  ·exact wpAny_pyHash_str h
 eqBool:=fun hu hv h=>by
  rcases N9 hu with ⟨i,t,rfl,rfl⟩ | ⟨x,t,rfl,rfl⟩
  ·rcases N9 hv with ⟨j,u,rfl,rfl⟩ | ⟨y,u,rfl,rfl⟩
   ·rw[c3h]at h;exact wpAny_eqBool_int h
   ·rw[c3g]at h;exact SeqAt.EqAt.int_str i t y u _ _ _ _ h
  ·rcases N9 hv with ⟨j,u,rfl,rfl⟩ | ⟨y,u,rfl,rfl⟩
   ·rw[c3f]at h;exact SeqAt.EqAt.str_int x t j u _ _ _ _ h
   ·rw[c3e]at h;exact wpAny_eqBool_str h
 «strs» := fun k x t v h=>by
  rcases N9 h with ⟨i,u,rfl,e⟩ | ⟨y,u,rfl,e⟩
  ·exact nomatch e
  ·injection e with e1 _
   subst e1
   cases v <;> rfl
theorem b1S(prog:v0)(w:World)(i:Int)(t:Tok):(Q1 prog w).is (.inl i) (.int i t)=true:=b5Q i t
theorem b1R(prog:v0)(w:World)(x:Str)(t:Tok):(Q1 prog w).is (.inr x) (.str x t)=true:=b5P x t
inductive V where
 | non | bl (b:Bool) | int (i:Int) | str (x:Str) | byt (b:Array UInt8) | flt (b:UInt64) | ref (a:Addr) | ty (n:String)
 deriving DecidableEq
variable{v y:V}{xs:List V}{kvs:List (Key×V)}
def C1:V->Value->Prop
 | .non,u=>u=Value.none
 | .bl b,u=>u=Value.bool b
 | .int i,u=>∃t,u=Value.int i t
 | .str x,u=>∃t,u=Value.str x t
 | .byt b,u=>∃t,u=Value.bytes b t
 | .flt b,u=>∃t,u=Value.float b t
 | .ref a,u=>u=Value.ref a
 | .ty n,u=>u=Value.type n
abbrev D0:List V->List Value->Prop:=Paired C1
theorem D0.length(r:D0 xs us):xs.length=us.length:=Paired.length r
theorem D0.get:∀ {xs:List V} {us:List Value} {i:Nat} {x:V},D0 xs us->xs[i]? = some x->∃u,us[i]? = some u/\C1 x u
 | _,_,_,_,.nil,e=>by simp at e
 | _,_,0,_,.cons r _,e=>by simp at e;subst e;exact⟨_,rfl,r⟩
 | _,_,i+1,x,.cons _ t,e=>by
  obtain⟨u,h1,h2⟩:=D0.get (i:=i) (x:=x) t (by simpa using e)
  exact⟨u,by simpa using h1,h2⟩
theorem D0.set{x:V}(r:C1 x u):∀ {xs:List V} {us:List Value} (i:Nat),D0 xs us->D0 (xs.set i x) (us.set i u)
 | _,_,_,.nil=>.nil
 | _,_,0,.cons _ t=>.cons r t
 | _,_,i+1,.cons q t=>.cons q (D0.set r i t)
theorem D0.append:∀ {xs ys:List V} {us ws:List Value},D0 xs us->D0 ys ws->D0 (xs++ys) (us++ws)
 | _,_,_,_,.nil,s=>s
 | _,_,_,_,.cons r t,s=>.cons r (D0.append t s)
theorem D0.take:∀ {xs:List V} {us:List Value} (n:Nat),D0 xs us->D0 (xs.take n) (us.take n)
 | _,_,0,_=>.nil
 | _,_,_+1,.nil=>.nil
 | _,_,n+1,.cons r t=>.cons r (D0.take n t)
theorem D0.drop:∀ {xs:List V} {us:List Value} (n:Nat),D0 xs us->D0 (xs.drop n) (us.drop n)
 | _,_,0,r=>r
 | _,_,_+1,.nil=>.nil
 | _,_,n+1,.cons _ t=>D0.drop n t
def a5v:Option V->Option Value->Prop
 | some v,some u=>C1 v u
 | none,none=>True
 | _,_=>False
def KV{κ:Type}:List (κ×V)->List (κ×Value)->Prop:=Paired fun(p:κ×V) (q:κ×Value)=>p.1=q.1/\C1 p.2 q.2
def kV:Key->V
 | .inl i=>.int i
 | .inr x=>.str x
inductive HO where
 /-- a list -/
 | lst (xs:List V)
 /-- a tuple (never changes) -/
 | tup (xs:List V)
 /-- a dict whose keys are ints and texts;one whose keys are tuples of ints and texts (the empty one is both) -/
 | dK (kvs:List (Key×V)) | dT (kvs:List (List Key×V))
 /-- a set of ints: its members,its size -/
 | set (S:Int->Bool) (n:Nat)
 /-- an instance of the class at C,its dict at dx,its attributes -/
 | ins (C dx:Addr) (fs:List (Str×V))
 /-- the dict of the instance at x -/
 | own (x:Addr)
 /-- the dict of an exception -/
 | xd (fs:List (Str×V))
 /-- a bound method,f of x -/
 | met (f x:Addr)
 /-- a range object lo,lo+1,.. below hi -/
 | rng (lo hi:Int)
 /-- a thing that is known to the object (the script;a dict while a loop walks it): read,never written while it is so -/
 | frz (o:Obj) (u:HO)
 /-- a code object's table -/
 | tbl (ps:Array Value)
 /-- any other thing,by what is true of its one object (a def of one's own: SetO a S n:=HO.ext fun h=>..) -/
 | ext (φ:Heap->Prop)
variable{o:HO}
abbrev Hp:=Addr->Option HO
variable{H H':Hp}
def upd(H:Hp)(a:Addr)(o:HO):Hp:=fun b=>if b=a then some o else H b
theorem c5:upd H a o a=some o:=by unfold upd;rw[if_pos rfl]
theorem c9(h:b≠a):upd H a o b=H b:=by unfold upd;rw[if_neg h]
theorem a3y{u:HO}:upd (upd H a o) a u=upd H a u:=by
 funext b;unfold upd;split <;> rfl
theorem L3{u:HO}(h:H a=some o)(h':H b=some u)(d:o≠u):a≠b:=by
 intro e;subst e;rw[h]at h';exact d (Option.some.inj h')
theorem c4(h:H a=some o)(h':H b=none):a≠b:=by
 intro e;subst e;rw[h]at h';cases h'
section
variable (P:v0)(w:World)
def Q3(H:Hp)(h:Heap)(a:Addr):HO->Prop
 | .lst xs=>xs.length<=g9/\∃(its:List Value) (n:Nat),D0 xs its/\h.get? a=some { cls:=.type "list",data:=.seq its.toArray n }
 | .tup xs=>xs.length<=g9/\∃its:List Value,D0 xs its/\IsTup h a its.toArray
 | .dK kvs=>kvs.length<=g9/\(a == a1K)=false/\∃vs,KV kvs vs/\h.DictOf (Q1 P w) a vs
 | .dT kvs=>kvs.length<=g9/\(a == a1K)=false/\∃xs:List (List Key×Addr×Value),
   Paired (fun(p:List Key×V) (q:List Key×Addr×Value)=>p.1=q.1/\H q.2.1=some (.tup (p.1.map kV))/\C1 p.2 q.2.2) kvs xs /\
   ∃o es ep,h.get? a=some o/\o.ExactDict/\o.data=.dict es ep/\es.toList=xs.map (entryOfKey (b6v (Q1 P w)))/\(xs.map (·.1)).Nodup
 | .set S n=>h.SetOf (intKind P w) a S n
 | .ins C dx fs=>H dx=some (.own a)/\fs.length<=1000/\dx≠a/\h.get? a=some (Q5 C dx) /\
   ∃mA,h.Ns1 dx mA/\(∀f,a5v (fs.lookup f) (mA f))/\PySem.Within mA (fs.map (·.1))
 | .own _=>∃o,h.get? a=some o
 | .xd fs=>∃mA,h.Ns1 a mA/\∀f,a5v (fs.lookup f) (mA f)
 | .rng lo hi=>∃t u v,h.get? a=some { cls:=.type "range",data:=.fields #[.int lo t,.int hi u,.int 1 v] }
 | .frz o u=>h.get? a=some o/\Q3 H h a u
 | .tbl ps=>h.get? a=some { cls:=.none,data:=.fields ps }
 | .met f x=>h.get? a=some (a6o (.ref f) (.ref x))
 | .ext φ=>φ h/\(∃o,h.get? a=some o)/\∀h1 h2:Heap,φ h1->(∀o,h1.get? a=some o->h2.get? a=some o)->φ h2
def HOk(H:Hp)(h:Heap):Prop:=∀a o,H a=some o->Q3 P w H h a o
end
section
variable {P:v0}
theorem Q3.lt(x:Q3 P w H h a o):a<h.objs.size:=by
 cases o with
 | lst xs=>obtain⟨_,_,_,_,e⟩:=x;exact g6 e
 | tup xs=>obtain⟨_,_,_,p⟩:=x;exact p.lt
 | dK kvs=>obtain⟨_,_,_,_,o,_,_,e,_⟩:=x;exact g6 e
 | dT kvs=>obtain⟨_,_,_,_,o,_,_,e,_⟩:=x;exact g6 e
 | set S n=>obtain⟨o,_,_,_,e,_⟩:=x;exact g6 e
 | ins C dx fs=>obtain⟨_,_,_,e,_⟩:=x;exact g6 e
 | own y=>obtain⟨_,e⟩:=x;exact g6 e
 | xd fs=>obtain⟨_,⟨_,_,_,e,_⟩,_⟩:=x;exact g6 e
 | rng lo hi=>obtain⟨_,_,_,e⟩:=x;exact g6 e
 | frz ob u=>obtain⟨e,_⟩:=x;exact g6 e
 | tbl ps=>exact g6 (show h.get? a=some _ from x)
 | met f y=>exact g6 (show h.get? a=some _ from x)
 | ext φ=>obtain⟨_,⟨_,e⟩,_⟩:=x;exact g6 e
theorem Paired.mapP{α β:Type}{F G:α->β->Prop}:∀ {l₁:List α} {l₂:List β},Paired F l₁ l₂->(∀a b,F a b->G a b)->Paired G l₁ l₂
 | _,_,.nil,_=>.nil
 | _,_,.cons r t,f=>.cons (f _ _ r) (Paired.mapP t f)
theorem Q3.stay(x:Q3 P w H h a o)(k:∀b u,(b=a\/H b=some (.own a))->h.get? b=some u->h'.get? b=some u)
  (ho:∀b,H b=some (.own a)->H' b=some (.own a)) (ht:∀b xs,H b=some (.tup xs)->H' b=some (.tup xs)):Q3 P w H' h' a o:=by
 induction o with
 | lst xs=>obtain⟨z,its,n,r,e⟩:=x;exact⟨z,its,n,r,k _ _ (.inl rfl) e⟩
 | tup xs=>obtain⟨z,its,r,ob,e,c⟩:=x;exact⟨z,its,r,ob,k _ _ (.inl rfl) e,c⟩
 | dK kvs=>obtain⟨z,y,vs,r,ob,es,ep,e,c⟩:=x;exact⟨z,y,vs,r,ob,es,ep,k _ _ (.inl rfl) e,c⟩
 | dT kvs=>
  obtain⟨z,y,xs,r,ob,es,ep,e,c⟩:=x
  exact⟨z,y,xs,Paired.mapP r fun p q z=>⟨z.1,ht _ _ z.2.1,z.2.2⟩,ob,es,ep,k _ _ (.inl rfl) e,c⟩
 | set S n=>obtain⟨ob,es,ep,t,e,c⟩:=x;exact⟨ob,es,ep,t,k _ _ (.inl rfl) e,c⟩
 | ins C dx fs=>
  obtain⟨d,z,ne,e,mA,⟨od,es,ep,e2,c⟩,r⟩:=x
  exact⟨ho _ d,z,ne,k _ _ (.inl rfl) e,mA,⟨od,es,ep,k _ _ (.inr d) e2,c⟩,r⟩
 | own y=>obtain⟨ob,e⟩:=x;exact⟨ob,k _ _ (.inl rfl) e⟩
 | xd fs=>obtain⟨mA,⟨od,es,ep,e,c⟩,r⟩:=x;exact⟨mA,⟨od,es,ep,k _ _ (.inl rfl) e,c⟩,r⟩
 | rng lo hi=>obtain⟨t,u,v,e⟩:=x;exact⟨t,u,v,k _ _ (.inl rfl) e⟩
 | frz ob u ih=>obtain⟨e,q⟩:=x;exact⟨k _ _ (.inl rfl) e,ih q⟩
 | tbl ps=>
  have e:h.get? a=some { cls:=.none,data:=.fields ps }:=x
  show h'.get? a=some { cls:=.none,data:=.fields ps }
  exact k a _ (.inl rfl) e
 | met f y=>
  have e:h.get? a=some (a6o (.ref f) (.ref y)):=x
  show h'.get? a=some (a6o (.ref f) (.ref y))
  exact k a _ (.inl rfl) e
 | ext φ=>obtain⟨p,⟨o,e⟩,st⟩:=x;exact⟨st _ _ p fun o q=>k _ _ (.inl rfl) q,⟨o,k _ _ (.inl rfl) e⟩,st⟩
theorem HOk.lt(x:HOk P w H h)(e:H a=some o):a<h.objs.size:=(x a o e).lt
theorem HOk.fresh(x:HOk P w H h)(e:h.objs.size<=a):H a=none:=by
 cases q:H a with
 | none=>rfl
 | some u=>exact absurd (p9 (x.lt q) e) (E4 _)
theorem HOk.kept(x:HOk P w H h)(k:∀b u,h.get? b=some u->h'.get? b=some u):HOk P w H h':=fun a o e=>
 (x a o e).stay (fun b u _ q=>k b u q) (fun _ q=>q) fun _ _ q=>q
theorem HOk.laid(x:HOk P w H h)(k:∀b u,h.get? b=some u->h'.get? b=some u)(hp:h.objs.size<=a)(new:Q3 P w (upd H a o) h' a o):HOk P w (upd H a o) h':=fun b u e=>by
 have hn:=x.fresh hp
 by_cases hb:b=a
 ·subst hb;rw[c5]at e;cases e;exact new
 ·rw[c9 hb]at e
  exact(x b u e).stay (fun c v _ q=>k c v q) (fun c q=>by rw[c9 (c4 q hn)];exact q) fun c xs q=>by rw[c9 (c4 q hn)];exact q
end
def Rd(H:Hp)(a:Addr)(u:HO):Prop:=H a=some u\/∃o,H a=some (.frz o u)
theorem Rd.ok{P:v0}{u:HO}(r:Rd H a u)(x:HOk P w H h):Q3 P w H h a u:=by
 rcases r with r | ⟨o,r⟩
 ·exact x a u r
 ·obtain⟨_,q⟩:=x a _ r
  exact q
def Mut:Option HO->Prop
 | some (.lst _)=>True
 | some (.dK _)=>True
 | some (.dT _)=>True
 | some (.set _ _)=>True
 | some (.ins _ _ _)=>True
 | some (.ext _)=>True
 | _=>False
section
variable {P:v0}{x e:Addr}{o':HO}
theorem HOk.write(ok:HOk P w H h)(mu:Mut (H x))(he:e=x\/H e=some (.own x))(k:∀b u,b≠e->h.get? b=some u->h'.get? b=some u)(heo:∃u,h'.get? e=some u)
  (new:Q3 P w (upd H x o') h' x o'):HOk P w (upd H x o') h':=fun b u q=>by
 have nown:∀c y,H c=some (.own y)->c≠x:=fun c y r z=>by subst z;rw[r]at mu;exact mu
 have ntup:∀c xs,H c=some (.tup xs)->c≠x:=fun c xs r z=>by subst z;rw[r]at mu;exact mu
 by_cases hb:b=x
 ·subst hb;rw[c5]at q;cases q;exact new
 ·rw[c9 hb]at q
  by_cases hbe:b=e
  ·have q':H b=some (.own x):=by
    rcases he with z | z
    ·exact absurd (hbe.trans z) hb
    ·rw[hbe];exact z
   rw[q]at q';cases q'
   obtain⟨v,hv⟩:=heo
   exact⟨v,by rw[hbe];exact hv⟩
  ·refine(ok b u q).stay (fun c v hc r=>k c v ?_ r) (fun c r=>by rw[c9 (nown c b r)];exact r) fun c xs r=>by rw[c9 (ntup c xs r)];exact r
   rcases hc with rfl | hc
   ·exact hbe
   ·rintro rfl
    rcases he with z | z
    ·exact nown c b hc z
    ·rw[hc]at z;cases z;exact hb rfl
end
structure Un(fs ex:List Addr)(H H':Hp)(h h':Heap):Prop where
 keep:∀b o,h.get? b=some o->H b=none->b∉fs->b∉ex->h'.get? b=some o
 slot:∀b o,h.get? b=some o->H b=none->b∈fs->b∉ex->∃sl,h'.get? b=some { o with slots:=sl }
 free:∀b o,h.get? b=some o->H b=none->b∉ex->H' b=none
 there:∀b o,h.get? b=some o->b∉ex->∃o',h'.get? b=some o'
 tups:∀b xs,H b=some (.tup xs)->H' b=some (.tup xs)
 frzs:∀b o u,H b=some (.frz o u)->H' b=some (.frz o u)
 tbls:∀b ps,H b=some (.tbl ps)->∃more,H' b=some (.tbl (ps++more))
section
variable {fs fs' ex ex':List Addr}{H1 H2:Hp}{h1 h2:Heap}{x e:Addr}
theorem Un.any(u:Un fs ex H H1 h h1){ob:Obj}(q:h.get? b=some ob)(n:H b=none)(hx:b∉ex):∃sl,h1.get? b=some { ob with slots:=sl }:=by
 by_cases hb:b∈fs
 ·exact u.slot b ob q n hb hx
 ·exact⟨ob.slots,u.keep b ob q n hb hx⟩
theorem Un.kept(k:∀b u,h.get? b=some u->h'.get? b=some u):Un fs ex H H h h':=
 ⟨fun b ob q _ _ _=>k b ob q,fun b ob q _ _ _=>⟨ob.slots,k b ob q⟩,fun _ _ _ n _=>n,fun b ob q _=>⟨ob,k b ob q⟩,fun _ _ q=>q,fun _ _ _ q=>q,fun _ ps q=>⟨#[],by rw[q];simp⟩⟩
theorem Un.refl:Un fs ex H H h h:=Un.kept fun _ _ q=>q
theorem Un.laid(k:∀b u,h.get? b=some u->h'.get? b=some u)(hp:h.objs.size<=a)(hn:H a=none):Un fs ex H (upd H a o) h h' where
 keep:=fun b u q _ _ _=>k b u q
 slot:=fun b u q _ _ _=>⟨u.slots,k b u q⟩
 free:=fun b u q n _=>by rw[c9 (t5 (p9 (g6 q) hp))];exact n
 there:=fun b u q _=>⟨u,k b u q⟩
 tups:=fun b xs q=>by rw[c9 (c4 q hn)];exact q
 frzs:=fun b u xs q=>by rw[c9 (c4 q hn)];exact q
 tbls:=fun b ps q=>⟨#[],by rw[c9 (c4 q hn),q];simp⟩
theorem Un.write(mu:Mut (H x))(he:e=x\/H e=some (.own x))(k:∀b u,b≠e->h.get? b=some u->h'.get? b=some u)(heo:∃u,h'.get? e=some u):Un fs ex H (upd H x o) h h':=by
 have hx:∀b,H b=none->b≠x:=fun b n z=>by subst z;rw[n]at mu;exact mu
 have hb:∀b,H b=none->b≠e:=fun b n z=>by
  subst z
  rcases he with r | r
  ·exact hx b n r
  ·rw[n]at r;cases r
 have hm:∀b u,H b=some u->¬Mut (some u)->b≠x:=fun b u q nm z=>by subst z;rw[q]at mu;exact nm mu
 refine⟨fun b u q n _ _=>k b u (hb b n) q,fun b u q n _ _=>⟨u.slots,k b u (hb b n) q⟩,fun b u q n _=>by rw[c9 (hx b n)];exact n,fun b u q _=>?_,
  fun b xs q=>by rw[c9 (hm b _ q fun z=>z)];exact q,fun b u xs q=>by rw[c9 (hm b _ q fun z=>z)];exact q,fun b ps q=>⟨#[],by rw[c9 (hm b _ q fun z=>z),q];simp⟩⟩
 by_cases hbe:b=e
 ·subst hbe;exact heo
 ·exact⟨u,k b u hbe q⟩
end
def trk(h:Heap)(H:Hp):List Addr:=(D9 h.objs.size).filter fun a=>(H a).isSome
def b0m(h:Heap)(H:Hp):Heap:=PySem.W.hideAll h (trk h H)
theorem b5U(h:Heap)(H:Hp):(b0m h H).objs.size=h.objs.size:=PySem.W.hideAll_size _ _
theorem b8y{o:Obj}(e:h.get? b=some o)(n:H b=none):(b0m h H).get? b=some o:=
 PySem.W.hideAll_get _ e fun hm=>by
  have q:(H b).isSome=true:=(a3R.mp hm).2
  rw[n]at q;simp at q
theorem c0x{o:Obj}(e:(b0m h H).get? b=some o):h.get? b=some o/\H b=none:=by
 have e':h.get? b=some o:=PySem.W.of_hideAll (trk h H) e
 refine⟨e',?_⟩
 cases q:H b with
 | none=>rfl
 | some x=>
  have hm:b∈trk h H:=a3R.mpr ⟨X2.mpr (g6 e'),by simp[q]⟩
  have z:(b0m h H).get? b=none:=PySem.W.hideAll_none (trk h H) hm
  rw[z]at e;cases e
def c0U(g h:Heap)(L:Addr):List (Addr×Obj):=(D9 h.objs.size).filterMap fun a=>if a=L\/(g.get? a).isSome=true then none else (h.get? a).map fun o=>(a,o)
def a1p(g h:Heap)(L d:Addr):List (Addr×Obj):=(c0U g h L).filter fun p=>decide (p.1≠d)
structure Mod(K:Fg)(mg:Str->Option Value)(base:Heap):Prop where
 kin:K.In base
 glob:base.Ns o3 mg
 blt:∃mb,base.Ns builtinsNs mb/\∀x:Str,x ≠ "__name__" -> mb x=Z6 x
 nolimit:base.NoLimit
structure Cx where
 prog:v0
 w:World
 K:Fg
 mg:Str->Option Value
 base:Heap
 A:F7
 N:List Str
 s₀:d7
 H₀:Hp
 env:Env
 outer:List Env
 stack:List Env
 ex:List Addr
 fn:Str->Bool
 calm:Bool
 pn:List (Addr×Obj)
 xe:Value->d7->Prop
variable{X:Cx}
def frs(l:List Env):List Addr:=l.filterMap (·.frame)
abbrev Cx.fs(X:Cx):List Addr:=frs X.outer
def Vis(sc:Scope)(x:Str):Prop:=sc.names.lookup x=some .local\/sc.names.lookup x=some .cell\/sc.names.lookup x=some .free
def Loc(sc:Scope)(x:Str):Prop:=sc.names.lookup x=some .local\/sc.names.lookup x=some .cell
def c5C(env:Env)(h:Heap)(m:Str->Option Value)(x:Str)(u:Value):Prop:=
 (env.kindOf x=some .local/\m x=some u)\/((env.kindOf x=some .cell\/env.kindOf x=some .free)/\∃c,env.cells.lookup x=some c/\h.IsCell c (some u))
structure Cx.Ok(X:Cx):Prop where
 mod:Mod X.K X.mg X.base
 kind:X.env.scope.kind=.function
 glob:X.env.globals=o3
 blt:X.env.builtins=builtinsNs
 above:X.s₀.heap.objs.size<=X.env.locals
 inj:∀x y c,X.env.cells.lookup x=some c->X.env.cells.lookup y=some c->x=y
 has:∀x,(X.env.kindOf x=some .cell\/X.env.kindOf x=some .free)->∃c,X.env.cells.lookup x=some c
 cab:∀x c,X.fn x=true->X.env.cells.lookup x=some c->X.s₀.heap.objs.size<=c
 hd:X.calm=true->X.A.handled=none
 frames:X.A.frames=some X.stack
 stk:X.stack=X.outer\/(X.stack=X.env::X.outer/\X.env.frame=some X.env.locals)
 exf:∀b∈X.ex,b≠X.env.locals/\∀x c,X.env.cells.lookup x=some c->c≠b
 bs:∀b o,X.base.get? b=some o->X.s₀.heap.get? b=some o/\X.H₀ b=none
 bsz:X.base.objs.size<=X.s₀.heap.objs.size
 noex:∀b o,X.base.get? b=some o->b∉X.ex
 exfs:∀b∈X.ex,b∉X.fs
 funs:X.s₀.heap.FunFrames X.base X.outer
 frf:∀b∈X.fs,X.H₀ b=none
structure Inv(X:Cx)(pins:List (Addr×Obj))(σ:List (Option V))(H:Hp)(s:d7):Prop where
 ok:X.Ok
 os:s.os=X.s₀.os
 bare:a9A s.gens
 base:Un X.fs X.ex X.H₀ H X.s₀.heap s.heap
 loc:∃m,s.heap.Ns X.env.locals m/\∀(i:Nat) (x:Str) (v:V),X.N[i]? = some x->σ[i]? = some (some v)->Vis X.env.scope x->∃u,C1 v u/\c5C X.env s.heap m x u
 cell:∀x c,X.env.cells.lookup x=some c->∃v,s.heap.IsCell c v
 free:H X.env.locals=none
 freeC:∀x c,X.env.cells.lookup x=some c->H c=none
 pin:∀p∈X.pn++pins,s.heap.get? p.1=some p.2/\H p.1=none/\p.1≠X.env.locals/\p.1∉X.fs/\∀v,p.2.data≠.cell v
 hok:HOk X.prog X.w H s.heap
 len:σ.length=X.N.length
section
variable {σ:List (Option V)}
theorem Cx.Ok.nofr(ok:X.Ok){o:Obj}(e:X.base.get? b=some o):b∉X.fs:=fun hb=>by
 have:=(ok.funs.mem hb).1
 rw[e]at this;cases this
theorem Inv.bs(I:Inv X pins σ H s):∀b o,X.base.get? b=some o->s.heap.get? b=some o/\H b=none:=fun b o e=>
 ⟨I.base.keep b o (I.ok.bs b o e).1 (I.ok.bs b o e).2 (I.ok.nofr e) (I.ok.noex b o e),I.base.free b o (I.ok.bs b o e).1 (I.ok.bs b o e).2 (I.ok.noex b o e)⟩
theorem Inv.bk(I:Inv X pins σ H s):∀b o,X.base.get? b=some o->s.heap.get? b=some o:=fun b o e=>(I.bs b o e).1
theorem Inv.mod(I:Inv X pins σ H s):Mod X.K X.mg X.base:=I.ok.mod
theorem Inv.kIn(I:Inv X pins σ H s):X.K.In s.heap:=I.ok.mod.kin.keeps I.bk
theorem Inv.lt(I:Inv X pins σ H s):X.env.locals<s.heap.objs.size:=let⟨_,hn,_⟩:=I.loc;hn.lt
theorem Inv.sz(I:Inv X pins σ H s):X.s₀.heap.objs.size<=s.heap.objs.size:=v9 I.ok.above (a8B I.lt)
theorem Inv.nofs(I:Inv X pins σ H s)(h:s.heap.objs.size<=a):a∉X.fs:=fun hb=>by
 obtain⟨_,o,ho,_⟩:=I.ok.funs.mem hb
 exact absurd (p9 (g6 ho) (v9 I.sz h)) (E4 _)
theorem Inv.cne(I:Inv X pins σ H s):∀x c,X.env.cells.lookup x=some c->c≠X.env.locals:=fun x c e z=>by
 obtain⟨v,o,ho,hd⟩:=I.cell x c e
 obtain⟨m,⟨o',es,ep,ho',hd',_⟩,_⟩:=I.loc
 rw[z,ho']at ho;cases ho;rw[hd']at hd;cases hd
theorem Inv.funs(I:Inv X pins σ H s):s.heap.FunFrames X.base X.outer:=by
 have all:∀(l:List Env),(∀b∈frs l,b∈X.fs)->X.s₀.heap.FunFrames X.base l->s.heap.FunFrames X.base l:=by
  intro l
  induction l with
  | nil=>intro _ _;trivial
  | cons env r ih=>
   intro hs hl
   obtain⟨hk,⟨L,o,hf,hn,ho,hd⟩,hr⟩:=hl
   have hL:L∈X.fs:=hs L (by unfold frs;rw[a5C,hf];exact y0)
   obtain⟨sl,e⟩:=I.base.slot L o ho (I.ok.frf L hL) hL fun z=>I.ok.exfs L z hL
   exact⟨hk,⟨L,_,hf,hn,e,hd⟩,ih (fun b hb=>hs b (by unfold frs;rw[a5C,hf];exact t8 _ hb)) hr⟩
 exact all X.outer (fun _ hb=>hb) I.ok.funs
theorem Inv.stack(I:Inv X pins σ H s):s.heap.FunFrames X.base X.stack:=by
 rcases I.ok.stk with e | ⟨e,hf⟩
 ·rw[e];exact I.funs
 ·rw[e]
  obtain⟨m,hn,_⟩:=I.loc
  refine .cons (by rw[I.ok.kind];decide) hf hn ?_ I.funs
  exact Heap.get?_none_of_le (v9 I.ok.bsz I.ok.above)
theorem Inv.stkSub(I:Inv X pins σ H s):∀b∈frs X.stack,b∈X.env.locals::X.fs:=fun b hb=>by
 rcases I.ok.stk with e | ⟨e,hf⟩
 ·rw[e]at hb;exact t8 _ hb
 ·rw[e]at hb
  unfold frs at hb
  rw[a5C,hf]at hb
  exact hb
theorem Inv.stkFree(I:Inv X pins σ H s):∀b∈frs X.stack,H b=none:=fun b hb=>by
 rcases c7.mp (I.stkSub b hb)with e | hb
 ·rw[e];exact I.free
 ·obtain⟨_,o,ho,_⟩:=I.ok.funs.mem hb
  exact I.base.free b o ho (I.ok.frf b hb) fun z=>I.ok.exfs b z hb
theorem Inv.step{g':Array GenState}{t':Nat}{d':Drawn}{ch:List Addr}(I:Inv X pins σ H s)
  (hch:∀b∈ch,(b∈X.ex\/X.s₀.heap.objs.size<=b)/\b≠X.env.locals/\(∀x c,X.env.cells.lookup x=some c->c≠b)/\∀p∈X.pn++pins,p.1≠b)
  (keep:∀b o,b≠X.env.locals->b∉X.fs->b∉ch->s.heap.get? b=some o->H b=none->h'.get? b=some o)
  (slot:∀b o,b≠X.env.locals->b∈X.fs->b∉ch->s.heap.get? b=some o->H b=none->∃sl,h'.get? b=some { o with slots:=sl }) (free:∀b o,b∉ch->s.heap.get? b=some o->H b=none->H' b=none)
  (there:∀b o,b∉ch->s.heap.get? b=some o->∃o',h'.get? b=some o')
  (tups:∀b xs,H b=some (.tup xs)->H' b=some (.tup xs)) (frzs:∀b o u,H b=some (.frz o u)->H' b=some (.frz o u)) (tbls:∀b ps,H b=some (.tbl ps)->∃more,H' b=some (.tbl (ps++more)))
  (ns:∀m,s.heap.Ns X.env.locals m->h'.Ns X.env.locals m) (hok:HOk X.prog X.w H' h') (hg:a9A g') :
  Inv X pins σ H' { s with heap:=h',gens:=g',drawn:=d',toks:=t' }:=by
 have neL:∀b o,X.s₀.heap.get? b=some o->b≠X.env.locals:=fun b o e=>t5 (p9 (g6 e) I.ok.above)
 have neC:∀b o,X.s₀.heap.get? b=some o->b∉X.ex->b∉ch:=fun b o e hx hb=>by
  rcases(hch b hb).1 with z | z
  ·exact hx z
  ·exact absurd (p9 (g6 e) z) (E4 _)
 have cellK:∀x c,X.env.cells.lookup x=some c->∀v,s.heap.IsCell c v->h'.IsCell c v:=fun x c e v ⟨o,ho,hd⟩=>by
  have nch:c∉ch:=fun z=>(hch c z).2.2.1 x c e rfl
  by_cases hc:c∈X.fs
  ·obtain⟨sl,q⟩:=slot c o (I.cne x c e) hc nch ho (I.freeC x c e)
   exact⟨_,q,hd⟩
  ·exact⟨o,keep c o (I.cne x c e) hc nch ho (I.freeC x c e),hd⟩
 refine⟨I.ok,I.os,hg,⟨fun b o e n hb hx=>?_,fun b o e n hb hx=>?_,fun b o e n hx=>?_,fun b o e hx=>?_,fun b xs e=>tups b xs (I.base.tups b xs e),fun b o xs e=>frzs b o xs (I.base.frzs b o xs e),fun b ps e=>?_⟩,?_,fun x c e=>?_,?_,fun x c e=>?_,fun p hp=>?_,hok,I.len⟩
 ·exact keep b o (neL b o e) hb (neC b o e hx) (I.base.keep b o e n hb hx) (I.base.free b o e n hx)
 ·obtain⟨sl,e1⟩:=I.base.slot b o e n hb hx
  obtain⟨sl',e2⟩:=slot b _ (neL b o e) hb (neC b o e hx) e1 (I.base.free b o e n hx)
  exact⟨sl',e2⟩
 ·obtain⟨o',e1⟩:=I.base.there b o e hx
  exact free b o' (neC b o e hx) e1 (I.base.free b o e n hx)
 ·obtain⟨o',e1⟩:=I.base.there b o e hx
  exact there b o' (neC b o e hx) e1
 ·obtain⟨m1,e1⟩:=I.base.tbls b ps e
  obtain⟨m2,e2⟩:=tbls b _ e1
  exact⟨m1++m2,by rw[e2,Array.append_assoc]⟩
 ·obtain⟨m,hn,hl⟩:=I.loc
  refine⟨m,ns m hn,fun i x v e1 e2 e3=>?_⟩
  obtain⟨u,r,l⟩:=hl i x v e1 e2 e3
  refine⟨u,r,?_⟩
  rcases l with l | ⟨k,c,e,z⟩
  ·exact .inl l
  ·exact .inr ⟨k,c,e,cellK x c e _ z⟩
 ·obtain⟨v,z⟩:=I.cell x c e
  exact⟨v,cellK x c e v z⟩
 ·obtain⟨m,⟨o,_,_,ho,_⟩,_⟩:=I.loc
  exact free _ o (fun z=>(hch _ z).2.1 rfl) ho I.free
 ·obtain⟨v,o,ho,hd⟩:=I.cell x c e
  exact free c o (fun z=>(hch c z).2.2.1 x c e rfl) ho (I.freeC x c e)
 ·obtain⟨e,n,ne,nf,d⟩:=I.pin p hp
  have nch:p.1∉ch:=fun z=>(hch p.1 z).2.2.2 p hp rfl
  exact⟨keep p.1 p.2 ne nf nch e n,free p.1 p.2 nch e n,ne,nf,d⟩
theorem Inv.un(I:Inv X pins σ H s)(u:Un X.fs [] H H' s.heap h')(hok:HOk X.prog X.w H' h'):Inv X pins σ H' { s with heap:=h',toks:=t' }:=by
 obtain⟨m,⟨o,es,ep,ho,r⟩,_⟩:=id I.loc
 obtain⟨sl,hL⟩:=u.any ho I.free (by simp)
 exact I.step (g':=s.gens) (d':=s.drawn) (ch:=[]) (fun _ z=>nomatch z) (fun b o _ hb _ e n=>u.keep b o e n hb (by simp)) (fun b o _ hb _ e n=>u.slot b o e n hb (by simp)) (fun b o _ e n=>u.free b o e n (by simp)) (fun b o _ e=>u.there b o e (by simp)) u.tups u.frzs u.tbls (fun m' hm=>by
  obtain⟨o',es',ep',ho',r'⟩:=hm
  rw[ho]at ho';cases ho'
  exact⟨_,es',ep',hL,r'⟩) hok I.bare
theorem Inv.call{g':Array GenState}{d':Drawn}{ch:List Addr}(I:Inv X pins σ H s)(u:Un (frs X.stack) ch H H' s.heap h')(hok:HOk X.prog X.w H' h')(hg:a9A g')
  (hch:∀b∈ch,(b∈X.ex\/X.s₀.heap.objs.size<=b)/\b≠X.env.locals/\(∀x c,X.env.cells.lookup x=some c->c≠b)/\∀p∈X.pn++pins,p.1≠b) :
  Inv X pins σ H' { s with heap:=h',gens:=g',drawn:=d',toks:=t' }:=by
 obtain⟨m,⟨o,es,ep,ho,r⟩,_⟩:=id I.loc
 obtain⟨sl,hL⟩:=u.any ho I.free fun z=>(hch _ z).2.1 rfl
 exact I.step (ch:=ch) hch (fun b o hL hb hc e n=>u.keep b o e n (fun z=>(c7.mp (I.stkSub b z)).elim hL hb) hc) (fun b o _ _ hc e n=>u.any e n hc) (fun b o hc e n=>u.free b o e n hc) (fun b o hc e=>u.there b o e hc) u.tups u.frzs u.tbls (fun m' hm=>by
  obtain⟨o',es',ep',ho',r'⟩:=hm
  rw[ho]at ho';cases ho'
  exact⟨_,es',ep',hL,r'⟩) hok hg
theorem Inv.turned{it:Addr}(I:Inv X pins σ H s)(k:∀b o,b≠it->s.heap.get? b=some o->h'.get? b=some o)(hn:H it=none)(hL:it≠X.env.locals)
  (h1:it∈X.ex\/X.s₀.heap.objs.size<=it) (h2:∀x c,X.env.cells.lookup x=some c->c≠it) (h3:∀p∈X.pn++pins,p.1≠it):Inv X pins σ H { s with heap:=h',toks:=t' }:=by
 have nit:∀b u,H b=some u->b≠it:=fun b u e z=>by rw[z,hn]at e;cases e
 refine I.step (g':=s.gens) (d':=s.drawn) (ch:=[it]) (fun b hb=>?_) (fun b o _ _ hc e _=>k b o (fun z=>hc (by simp[z])) e) (fun b o _ _ hc e _=>⟨o.slots,k b o (fun z=>hc (by simp[z])) e⟩) (fun _ _ _ _ n=>n)
  (fun b o hc e=>⟨o,k b o (fun z=>hc (by simp[z])) e⟩) (fun _ _ e=>e) (fun _ _ _ e=>e) (fun b ps e=>⟨#[],by rw[e];simp⟩) (fun m hm=>?_) (fun b u e=>?_) I.bare
 ·have e:b=it:=by simpa using hb
  subst e
  exact⟨h1,hL,h2,h3⟩
 ·obtain⟨o,es,ep,ho,r⟩:=hm
  exact⟨o,es,ep,k _ o (Ne.symm hL) ho,r⟩
 ·refine(I.hok b u e).stay (fun c v hc q=>k c v ?_ q) (fun _ q=>q) fun _ _ q=>q
  rcases hc with z | z
  ·rw[z];exact nit b u e
  ·exact nit c _ z
theorem Inv.tok(I:Inv X pins σ H s)(t:Nat):Inv X pins σ H { s with toks:=t }:=I.un (h':=s.heap) (t':=t) Un.refl I.hok
theorem Inv.kept(I:Inv X pins σ H s)(k:∀b u,s.heap.get? b=some u->h'.get? b=some u):Inv X pins σ H { s with heap:=h',toks:=t' }:=I.un (Un.kept k) (I.hok.kept k)
theorem Inv.laid(I:Inv X pins σ H s)(k:∀b u,s.heap.get? b=some u->h'.get? b=some u)(hp:s.heap.objs.size<=a)(new:Q3 X.prog X.w (upd H a o) h' a o) :
  Inv X pins σ (upd H a o) { s with heap:=h',toks:=t' }:=I.un (Un.laid k hp (I.hok.fresh hp)) (I.hok.laid k hp new)
theorem Inv.write{x e:Addr}(I:Inv X pins σ H s)(mu:Mut (H x))(he:e=x\/H e=some (.own x))(k:∀b u,b≠e->s.heap.get? b=some u->h'.get? b=some u)(heo:∃u,h'.get? e=some u)
  (new:Q3 X.prog X.w (upd H x o) h' x o):Inv X pins σ (upd H x o) { s with heap:=h',toks:=t' }:=I.un (Un.write mu he k heo) (I.hok.write mu he k heo new)
theorem Inv.weak{σ':List (Option V)}(I:Inv X pins σ H s)(hl:σ'.length=σ.length)(w:∀(i:Nat) v,σ'[i]? = some (some v)->σ[i]? = some (some v)):Inv X pins σ' H s:=
 ⟨I.ok,I.os,I.bare,I.base,let⟨m,hn,hl'⟩:=I.loc; ⟨m,hn,fun i x v e1 e2 e3=>hl' i x v e1 (w i v e2) e3⟩,I.cell,I.free,I.freeC,I.pin,I.hok,hl.trans I.len⟩
theorem Inv.pins_of{pins':List (Addr×Obj)}(I:Inv X pins σ H s)(h:∀p∈pins',s.heap.get? p.1=some p.2/\H p.1=none/\p.1≠X.env.locals/\p.1∉X.fs/\∀v,p.2.data≠.cell v):Inv X pins' σ H s:=
 ⟨I.ok,I.os,I.bare,I.base,I.loc,I.cell,I.free,I.freeC,fun p hp=>(l7.mp hp).elim (fun z=>I.pin p (D7 _ z)) (h p),I.hok,I.len⟩
theorem b1O{N:List Str}(hN:N.Nodup){j:Nat}(a:N[i]? = some x)(b:N[j]? = some x):i=j:=by
 obtain⟨h1,e1⟩:=i9.mp a
 obtain⟨h2,e2⟩:=i9.mp b
 exact(List.getElem_inj hN).mp (e1.trans e2.symm)
theorem a5K{M:Model}{A:F7}{E:Value->d7->Prop}{Q:Unit->d7->Prop}(I:Inv X pins σ H s)(hN:X.N.Nodup)(hi:X.N[i]? = some x)(hx:Loc X.env.scope x)(r:C1 v u)
  (h:∀s',Inv X pins (σ.set i (some v)) H s'->(∃a,Heap.SameBut a s.heap s'.heap/\(a=X.env.locals\/X.env.cells.lookup x=some a))->Q () s') (hf:X.fn x=true\/X.env.scope.names.lookup x=some .local:=by first | exact .inl rfl | exact .inr rfl | assumption):wpAny M A (storeName X.env x u) Q E s:=by
 obtain⟨m,hn,hl⟩:=id I.loc
 have hcls:(X.env.scope.kind == .class||(X.env.scope.kind == .module&&X.env.locals != X.env.globals))=false:=by rw[I.ok.kind];rfl
 have hiσ:i<σ.length:=by rw[I.len];exact(i9.mp hi).1
 have cne:=I.cne
 have tracked:∀ {a:Addr} {h':Heap},(∃o,s.heap.get? a=some o/\H a=none)->Heap.SameBut a s.heap h'->HOk X.prog X.w H h':=fun {a h'} ha hs b ob e=>by
  obtain⟨_,_,hfree⟩:=ha
  refine(I.hok b ob e).stay (fun c w' hc q=>(hs.2 c ?_).trans q) (fun _ q=>q) fun _ _ q=>q
  rintro rfl
  rcases hc with rfl | hc
  ·rw[hfree]at e;cases e
  ·rw[hfree]at hc;cases hc
 rcases hx with hk | hk
 ·refine wpAny_storeName_local hk hn (fun h' hn' hs=>?_) hcls
  obtain⟨oL,_,_,hoL,_⟩:=id hn
  refine h _ ⟨I.ok,I.os,I.bare,⟨fun b o e n hb hx=>?_,fun b o e n hb hx=>?_,I.base.free,fun b o e hx=>?_,I.base.tups,I.base.frzs,I.base.tbls⟩,⟨_,hn',fun j y v' e1 e2 e3=>?_⟩,fun y c e=>?_,I.free,I.freeC,fun p hp=>?_,tracked ⟨oL,hoL,I.free⟩ hs,by simpa using I.len⟩ ⟨_,hs,.inl rfl⟩
  ·exact(hs.2 b (t5 (p9 (g6 e) I.ok.above))).trans (I.base.keep b o e n hb hx)
  ·obtain⟨sl,e1⟩:=I.base.slot b o e n hb hx
   exact⟨sl,(hs.2 b (t5 (p9 (g6 e) I.ok.above))).trans e1⟩
  ·obtain⟨o',e1⟩:=I.base.there b o e hx
   exact⟨o',(hs.2 b (t5 (p9 (g6 e) I.ok.above))).trans e1⟩
  ·by_cases hj:j=i
   ·subst hj
    rw[hi]at e1;cases e1
    rw[F2 hiσ]at e2
    cases e2
    exact⟨u,r,.inl ⟨hk,by simp⟩⟩
   ·rw[J3 (Ne.symm hj)]at e2
    obtain⟨u',r',q⟩:=hl j y v' e1 e2 e3
    refine⟨u',r',?_⟩
    rcases q with ⟨k,e⟩ | ⟨k,c,e,z⟩
    ·refine .inl ⟨k,?_⟩
     have:y≠x:=fun e=>hj (b1O hN e1 (e ▸ hi))
     simp[this,e]
    ·exact .inr ⟨k,c,e,z.sameBut hs (cne y c e)⟩
  ·obtain⟨w',z⟩:=I.cell y c e
   exact⟨w',z.sameBut hs (cne y c e)⟩
  ·obtain⟨e,n,ne,nf,d⟩:=I.pin p hp
   exact⟨(hs.2 p.1 ne).trans e,n,ne,nf,d⟩
 ·have hfn:X.fn x=true:=by
   rcases hf with z | z
   ·exact z
   ·rw[z]at hk;cases hk
  obtain⟨c,hc⟩:=I.ok.has x (.inl hk)
  obtain⟨w',z⟩:=I.cell x c hc
  refine wpAny_storeName_cell I.ok.kind hk hc z (fun h' hc' hs=>?_)
  obtain⟨oc,hoc,hocd⟩:=id z
  refine h { s with heap:=h' } ⟨I.ok,I.os,I.bare,⟨fun b o e n hb hx=>?_,fun b o e n hb hx=>?_,I.base.free,fun b o e hx=>?_,I.base.tups,I.base.frzs,I.base.tbls⟩,⟨m,hn.sameBut hs (Ne.symm (cne x c hc)),fun j y v' e1 e2 e3=>?_⟩,fun y c' e=>?_,I.free,I.freeC,fun p hp=>?_,tracked ⟨oc,hoc,I.freeC x c hc⟩ hs,by simpa using I.len⟩ ⟨c,hs,.inr hc⟩
  ·exact(hs.2 b (t5 (p9 (g6 e) (I.ok.cab x c hfn hc)))).trans (I.base.keep b o e n hb hx)
  ·obtain⟨sl,e1⟩:=I.base.slot b o e n hb hx
   exact⟨sl,(hs.2 b (t5 (p9 (g6 e) (I.ok.cab x c hfn hc)))).trans e1⟩
  ·obtain⟨o',e1⟩:=I.base.there b o e hx
   exact⟨o',(hs.2 b (t5 (p9 (g6 e) (I.ok.cab x c hfn hc)))).trans e1⟩
  ·by_cases hj:j=i
   ·subst hj
    rw[hi]at e1;cases e1
    rw[F2 hiσ]at e2
    cases e2
    exact⟨u,r,.inr ⟨.inl hk,c,hc,hc'⟩⟩
   ·rw[J3 (Ne.symm hj)]at e2
    obtain⟨u',r',q⟩:=hl j y v' e1 e2 e3
    refine⟨u',r',?_⟩
    rcases q with q | ⟨k,c',e,z'⟩
    ·exact .inl q
    ·refine .inr ⟨k,c',e,z'.sameBut hs ?_⟩
     rintro rfl
     exact hj (b1O hN e1 (I.ok.inj _ _ _ e hc ▸ hi))
  ·by_cases hcc:c'=c
   ·subst hcc;exact⟨_,hc'⟩
   ·obtain⟨w2,z2⟩:=I.cell y c' e
    exact⟨w2,z2.sameBut hs hcc⟩
  ·obtain⟨e,n,ne,nf,d⟩:=I.pin p hp
   refine⟨(hs.2 p.1 ?_).trans e,n,ne,nf,d⟩
   intro q
   rw[q,hoc]at e
   have q':oc=p.2:=Option.some.inj e
   exact d w' (by rw[<-q'];exact hocd)
theorem a7H{M:Model}{A:F7}{E:Value->d7->Prop}{Q:Unit->d7->Prop}(I:Inv X pins σ H s)(hN:X.N.Nodup)(hi:X.N[i]? = some x)(hx:Loc X.env.scope x)(r:C1 v u)
  (h:∀s',Inv X pins (σ.set i (some v)) H s'->Q () s') (hf:X.fn x=true\/X.env.scope.names.lookup x=some .local:=by first | exact .inl rfl | exact .inr rfl | assumption):wpAny M A (storeName X.env x u) Q E s:=
 a5K I hN hi hx r (fun s' I' _=>h s' I') hf
theorem Inv.call'{s':d7}{ch:List Addr}(I:Inv X pins σ H s)(ho:s'.os=s.os)(u:Un (frs X.stack) ch H H' s.heap s'.heap)(hok:HOk X.prog X.w H' s'.heap)(hg:a9A s'.gens)
  (hch:∀b∈ch,(b∈X.ex\/X.s₀.heap.objs.size<=b)/\b≠X.env.locals/\(∀x c,X.env.cells.lookup x=some c->c≠b)/\∀p∈X.pn++pins,p.1≠b):Inv X pins σ H' s':=by
 obtain⟨h',g',d',t',o'⟩:=s'
 have e:o'=s.os:=ho
 subst e
 exact I.call (g':=g') (t':=t') (d':=d') u hok hg hch
end
abbrev XK:=Value->Option Addr->Hp->Prop
abbrev St:=List (Option V)
variable{σ:St}
abbrev VK:=V->Hp->Prop
abbrev TE:=St->Hp->VK->Prop
variable{t ta te:TE}
abbrev TT:=St->Hp->(Bool->Hp->Prop)->Prop
abbrev TA:=St->Hp->(List V->Hp->Prop)->Prop
structure a8w where
 nx:St->Hp->Prop
 rt:VK
 bk:St->Hp->Prop:=fun _ _=>False
 ct:St->Hp->Prop:=fun _ _=>False
variable{D:a8w}
abbrev TS:=a8w->St->Hp->Prop
variable{tb:TS}
def EP(X:Cx)(pins:List (Addr×Obj))(σ:St)(Q:VK)(u:Value)(s':d7):Prop:=∃v H',Inv X pins σ H' s'/\C1 v u/\Q v H'
def TP(X:Cx)(pins:List (Addr×Obj))(σ:St)(Q:Bool->Hp->Prop)(b:Bool)(s':d7):Prop:=∃H',Inv X pins σ H' s'/\Q b H'
def AP(X:Cx)(pins:List (Addr×Obj))(σ:St)(Q:List V->Hp->Prop)(us:List Value)(s':d7):Prop:=∃vs H',Inv X pins σ H' s'/\D0 vs us/\Q vs H'
def SP(X:Cx)(pins:List (Addr×Obj))(D:a8w)(f:Flow)(s':d7):Prop:=
 match f with
 | .next=>∃σ' H',Inv X pins σ' H' s'/\D.nx σ' H'
 | .brk=>∃σ' H',Inv X pins σ' H' s'/\D.bk σ' H'
 | .cont=>∃σ' H',Inv X pins σ' H' s'/\D.ct σ' H'
 | .ret u=>∃v σ' H',Inv X pins σ' H' s'/\C1 v u/\D.rt v H'
def PE(X:Cx)(e:Expr)(t:TE):Prop:=
 ∀(pins:List (Addr×Obj)) (s:d7) (σ:St) (H:Hp) (Q:VK),Inv X pins σ H s->t σ H Q->wpAny (model X.prog X.w) X.A (eval e X.env) (EP X pins σ Q) X.xe s
def PT(X:Cx)(e:Expr)(t:TT):Prop:=
 ∀(pins:List (Addr×Obj)) (s:d7) (σ:St) (H:Hp) (Q:Bool->Hp->Prop),Inv X pins σ H s->t σ H Q->wpAny (model X.prog X.w) X.A (isTrue e X.env (eval e X.env)) (TP X pins σ Q) X.xe s
def PW(X:Cx)(e:Expr)(t:TT):Prop:=
 ∀(whole:Sem Value) (pins:List (Addr×Obj)) (s:d7) (σ:St) (H:Hp) (Q:Bool->Hp->Prop),Inv X pins σ H s->t σ H Q->wpAny (model X.prog X.w) X.A (isTrue e X.env whole) (TP X pins σ Q) X.xe s
theorem PW.pt{t:TT}(h:PW X e t):PT X e t:=h _
def PA(X:Cx)(es:List Expr)(t:TA):Prop:=
 ∀(pos:Pos) (pins:List (Addr×Obj)) (s:d7) (σ:St) (H:Hp) (Q:List V->Hp->Prop),Inv X pins σ H s->t σ H Q->wpAny (model X.prog X.w) X.A (spliced (V5 pos (d4 es X.env))) (AP X pins σ Q) X.xe s
def PS(X:Cx)(st:Stmt)(t:TS):Prop:=
 ∀(pins:List (Addr×Obj)) (s:d7) (σ:St) (H:Hp) (D:a8w),Inv X pins σ H s->t D σ H->wpAny (model X.prog X.w) X.A (exec st X.env) (SP X pins D) X.xe s
def PSs(X:Cx)(st:List Stmt)(t:TS):Prop:=
 ∀(pins:List (Addr×Obj)) (s:d7) (σ:St) (H:Hp) (D:a8w),Inv X pins σ H s->t D σ H->wpAny (model X.prog X.w) X.A (execs st X.env) (SP X pins D) X.xe s
theorem thn{α:Type}{t:Sem α}{Q Q':α->d7->Prop}{M:Model}{A:F7}{E:Value->d7->Prop}(h:wpAny M A t Q E s)(hQ:∀a s,Q a s->Q' a s):wpAny M A t Q' E s:=V4 h hQ fun _ _ x=>x
section
def b6(i:Nat):TE:=fun σ H Q=>∃v,σ[i]? = some (some v)/\Q v H
def tC(v:V):TE:=fun _ H Q=>Q v H
theorem c2p(hN:X.N[i]? = some x)(hv:Vis X.env.scope x)(hd:(x == ("__debug__" : Str))=false:=by decide)(hcd:(x == ("__classdict__" : Str))=false:=by decide):PE X (.Name x pos) (b6 i):=by
 intro pins s σ H Q I h
 obtain⟨v,e,h⟩:=h
 obtain⟨m,hn,hl⟩:=I.loc
 obtain⟨u,r,l⟩:=hl i x v hN e hv
 have fin:EP X pins σ Q u s:=⟨v,H,I,r,h⟩
 rcases l with ⟨hk,hm⟩ | ⟨hk,c,hc,hcell⟩
 ·exact wpAny_Name (wpAny_loadName_local I.ok.kind hk hn hm fin) hd
 ·rcases hk with hk | hk
  ·exact wpAny_Name (wpAny_loadName_cell I.ok.kind hk hc hcell fin) hd
  ·exact wpAny_Name (wpAny_loadName_free I.ok.kind hk hc hcell fin hcd) hd
theorem c2y{i j pos}:PE X (.Constant (.int i) j pos) (tC (.int i)):=fun _ _ _ H _ I h=>wpAny_Constant_int ⟨.int i,H,I.tok _,⟨_,rfl⟩,h⟩
theorem c4E{b j pos}:PE X (.Constant (.bool b) j pos) (tC (.bl b)):=fun _ _ _ H _ I h=>Constant_bool ⟨.bl b,H,I,rfl,h⟩
theorem c2v{j pos}:PE X (.Constant .none j pos) (tC .non):=fun _ _ _ H _ I h=>Constant_none ⟨.non,H,I,rfl,h⟩
theorem c2r{x j pos}:PE X (.Constant (.str x) j pos) (tC (.str x)):=fun _ _ _ H _ I h=>Calls.Constant_str ⟨.str x,H,I.tok _,⟨_,rfl⟩,h⟩
def Gl(X:Cx)(x:Str):Prop:=X.env.kindOf x=some .globalImplicit
theorem b0i{E:Value->d7->Prop}(I:Inv X pins σ H s)(hg:Gl X x)(hm:X.mg x=some u)(h:Q u s)
  (hd:(x == ("__debug__" : Str))=false:=by decide):wpAny (model X.prog X.w) X.A (eval (.Name x pos) X.env) Q E s:=
 Calls.Name_function_global I.ok.kind hg (Calls.loadGlobal_global (by rw[I.ok.glob];exact I.mod.glob.keeps I.bk) hm h) hd
theorem a6c{E:Value->d7->Prop}(I:Inv X pins σ H s)(hg:Gl X x)(hm:X.mg x=none)(hv:Z6 x=some u)(h:Q u s)
  (hn:x ≠ "__name__" := by decide) (hd:(x == ("__debug__" : Str))=false:=by decide):wpAny (model X.prog X.w) X.A (eval (.Name x pos) X.env) Q E s:=by
 obtain⟨mb,h1,h2⟩:=I.mod.blt
 exact Calls.Name_function_global I.ok.kind hg (Calls.loadGlobal_builtin (by rw[I.ok.glob];exact I.mod.glob.keeps I.bk) hm (by rw[I.ok.blt];exact h1.keeps I.bk) ((h2 x hn).trans hv) h) hd
theorem c0a(hg:Gl X x)(hm:X.mg x=some u)(r:C1 v u)(hd:(x == ("__debug__" : Str))=false:=by decide):PE X (.Name x pos) (tC v):=
 fun _ _ _ H _ I h=>b0i I hg hm ⟨v,H,I,r,h⟩ hd
theorem c0f(hg:Gl X x)(hm:X.mg x=none)(hv:Z6 x=some u)(r:C1 v u)(hn:x ≠ "__name__" := by decide)(hd:(x == ("__debug__" : Str))=false:=by decide):PE X (.Name x pos) (tC v):=
 fun _ _ _ H _ I h=>a6c I hg hm hv ⟨v,H,I,r,h⟩ hn hd
variable {a b:Expr}{tb:TE}
def PC(X:Cx)(op:CmpOp)(a b:Expr)(t:TE):Prop:=
 ∀(pins:List (Addr×Obj)) (s:d7) (σ:St) (H:Hp) (Q:VK),Inv X pins σ H s->t σ H Q ->
  wpAny (model X.prog X.w) X.A (eval a X.env) (fun v s₁=>wpAny (model X.prog X.w) X.A (eval b X.env) (fun u s₂=>wpAny (model X.prog X.w) X.A (o4 op v u) (EP X pins σ Q) X.xe s₂) X.xe s₁) X.xe s
def tB(t:TE):TT:=fun σ H Q=>t σ H fun x H1=>∃c,x=.bl c/\Q c H1
theorem c2A{op:CmpOp}(h:PC X op a b t)(h1:L6 op b=false:=by first | exact nobehind _ (by decide) (by decide) | rfl):PE X (.Compare a [op] [b] pos) t:=fun pins s σ H Q I hw=>wpAny_Compare1 (h pins s σ H Q I hw) h1
theorem b7M{op:CmpOp}(h:PC X op a b t)(h1:L6 op b=false:=by first | exact nobehind _ (by decide) (by decide) | rfl):PT X (.Compare a [op] [b] pos) (tB t):=by
 intro pins s σ H Q I hw
 refine c3Q (thn (h pins s σ H _ I hw) fun v s1 h1=>thn h1 fun u s2 h2=>thn h2 fun c s3 ⟨x,H1,I1,r1,q1⟩=>?_) h1
 obtain⟨d,rfl,q⟩:=q1
 cases r1
 exact G5 ⟨H1,I1,q⟩
theorem c2d(h:PE X e t)(he:∀whole,isTrue e X.env whole=(do let v <-whole;b6w e.pos;a2X [v] (truthy v)):=by intro _;rfl):PT X e (tB t):=by
 intro pins s σ H Q I hw
 refine isTrue_plain (thn (h pins s σ H _ I hw) fun v s1 ⟨x,H1,I1,r1,q1⟩=>?_) (he _)
 obtain⟨d,rfl,q⟩:=q1
 cases r1
 exact G5 ⟨H1,I1,q⟩
variable {tA tB':TT}{a1p:List Expr}
def b2I(t u:TT):TT:=fun σ H Q=>t σ H fun c H1=>if c=true then u σ H1 Q else Q false H1
def tOr(t u:TT):TT:=fun σ H Q=>t σ H fun c H1=>if c=true then Q true H1 else u σ H1 Q
def a4i(t:TT):TT:=fun σ H Q=>t σ H fun c H1=>Q (!c) H1
theorem b9J(ha:PT X a tA):PW X (.BoolOp .And [a] pos) tA:=by
 intro wh pins s σ H Q I h
 refine isTrue_and (thn (ha pins s σ H Q I h) fun c s1 e=>?_)
 cases c with
 | true=>exact isTrue_and_nil e
 | false=>exact e
theorem c2b(ha:PT X a tA):PW X (.BoolOp .Or [a] pos) tA:=by
 intro wh pins s σ H Q I h
 refine isTrue_or (thn (ha pins s σ H Q I h) fun c s1 e=>?_)
 cases c with
 | false=>exact isTrue_or_nil e
 | true=>exact e
theorem c2c(ha:PT X a tA)(hb:PW X (.BoolOp .And (b::a1p) pos) tB'):PW X (.BoolOp .And (a::b::a1p) pos) (b2I tA tB'):=by
 intro wh pins s σ H Q I h
 refine isTrue_and (thn (ha pins s σ H _ I h) fun c s1 ⟨H1,I1,q1⟩=>?_)
 cases c with
 | true=>exact hb wh pins s1 σ H1 Q I1 q1
 | false=>exact⟨H1,I1,q1⟩
theorem c4w(ha:PT X a tA)(hb:PW X (.BoolOp .Or (b::a1p) pos) tB'):PW X (.BoolOp .Or (a::b::a1p) pos) (tOr tA tB'):=by
 intro wh pins s σ H Q I h
 refine isTrue_or (thn (ha pins s σ H _ I h) fun c s1 ⟨H1,I1,q1⟩=>?_)
 cases c with
 | true=>exact⟨H1,I1,q1⟩
 | false=>exact hb wh pins s1 σ H1 Q I1 q1
theorem c2e(ha:PT X a tA):PT X (.UnaryOp .Not a pos) (a4i tA):=by
 intro pins s σ H Q I h
 exact isTrue_not (ha pins s σ H (fun c H1=>Q (!c) H1) I h)
def a0q(ta tb:TE):TE:=fun σ H Q=>ta σ H fun x H1=>∃c,x=.bl c/\if c=true then tb σ H1 Q else Q (.bl false) H1
def b9o(ta tb:TE):TE:=fun σ H Q=>ta σ H fun x H1=>∃c,x=.bl c/\if c=true then Q (.bl true) H1 else tb σ H1 Q
def b1k(ta:TE):TE:=fun σ H Q=>ta σ H fun x H1=>∃c,x=.bl c/\Q (.bl (!c)) H1
theorem c2t{op}(h:PE X a t):PE X (.BoolOp op [a] pos) t:=fun pins s σ H Q I hw=>BoolOp_one (h pins s σ H Q I hw)
theorem c2C(ha:PE X a ta)(hb:PE X (.BoolOp .And (b::a1p) pos) tb):PE X (.BoolOp .And (a::b::a1p) pos) (a0q ta tb):=by
 intro pins s σ H Q I h
 refine BoolOp_and (thn (ha pins s σ H _ I h) fun v s1 ⟨x,H1,I1,r1,q1⟩=>?_)
 obtain⟨c,rfl,q1⟩:=q1
 cases r1
 refine G5 ?_
 cases c with
 | true=>exact hb pins s1 σ H1 Q I1 q1
 | false=>exact⟨.bl false,H1,I1,rfl,q1⟩
theorem c4z(ha:PE X a ta)(hb:PE X (.BoolOp .Or (b::a1p) pos) tb):PE X (.BoolOp .Or (a::b::a1p) pos) (b9o ta tb):=by
 intro pins s σ H Q I h
 refine BoolOp_or (thn (ha pins s σ H _ I h) fun v s1 ⟨x,H1,I1,r1,q1⟩=>?_)
 obtain⟨c,rfl,q1⟩:=q1
 cases r1
 refine G5 ?_
 cases c with
 | false=>exact hb pins s1 σ H1 Q I1 q1
 | true=>exact⟨.bl true,H1,I1,rfl,q1⟩
theorem c2u(ha:PE X a ta):PE X (.UnaryOp .Not a pos) (b1k ta):=by
 intro pins s σ H Q I h
 refine UnaryOp_ (thn (ha pins s σ H _ I h) fun v s1 ⟨x,H1,I1,r1,q1⟩=>?_)
 obtain⟨c,rfl,q1⟩:=q1
 cases r1
 exact not_of (G5 ⟨.bl (!c),H1,I1,rfl,q1⟩)
def tIf(t:TT)(ta tb:TE):TE:=fun σ H Q=>t σ H fun c H1=>if c=true then ta σ H1 Q else tb σ H1 Q
theorem b7V(hc:PT X c tA)(ha:PE X a ta)(hb:PE X b tb):PE X (.IfExp c a b pos) (tIf tA ta tb):=by
 intro pins s σ H Q I h
 refine wpAny_IfExp (thn (hc pins s σ H _ I h) fun d s1 ⟨H1,I1,q1⟩=>?_)
 cases d with
 | true=>exact ha pins s1 σ H1 Q I1 q1
 | false=>exact hb pins s1 σ H1 Q I1 q1
end
def SqL(K:Fg)(H:Hp)(a:Addr)(xs:List V):Prop:=
 Rd H a (.lst xs) \/
  ∃(o:Obj) (its:Array Value) (n:Nat),K.lookup a=some o/\o.cls=.type "list" /\ o.dict=none/\o.data=.seq its n/\its.size<=g9/\D0 xs its.toList
def SqT(K:Fg)(H:Hp)(a:Addr)(xs:List V):Prop:=
 Rd H a (.tup xs) \/
  ∃(o:Obj) (its:Array Value) (n:Nat),K.lookup a=some o/\o.cls=.type "tuple" /\ o.data=.seq its n/\its.size<=g9/\D0 xs its.toList
def c5A:Value->Option V
 | .none=>some .non
 | .bool b=>some (.bl b)
 | .int i _=>some (.int i)
 | .str x _=>some (.str x)
 | .bytes b _=>some (.byt b)
 | .float b _=>some (.flt b)
 | .ref a=>some (.ref a)
 | .type n=>some (.ty n)
 | _=>none
theorem C1.abs{x:V}(r:C1 x u):c5A u=some x:=by
 cases x with
 | non=>cases r;rfl
 | bl _=>cases r;rfl
 | int _=>obtain⟨t,rfl⟩:=r;rfl
 | str _=>obtain⟨t,rfl⟩:=r;rfl
 | byt _=>obtain⟨t,rfl⟩:=r;rfl
 | flt _=>obtain⟨t,rfl⟩:=r;rfl
 | ref _=>cases r;rfl
 | ty _=>cases r;rfl
theorem C1.inj{x:V}(r:C1 x u)(q:C1 y u):x=y:=Option.some.inj (r.abs.symm.trans q.abs)
theorem D0.inj:∀ {xs ys:List V} {us:List Value},D0 xs us->D0 ys us->xs=ys
 | _,_,_,.nil,.nil=>rfl
 | _,_,_,.cons r t,.cons r' t'=>by rw[r.inj r',D0.inj t t']
section
variable {ys:List V}
theorem SqL.of{K:Fg}(h:H a=some (.lst xs)):SqL K H a xs:=.inl (.inl h)
theorem SqT.of{K:Fg}(h:H a=some (.tup xs)):SqT K H a xs:=.inl (.inl h)
theorem Inv.list(I:Inv X pins σ H s)(h:SqL X.K H a xs):∃its:List Value,D0 xs its/\PlainL s.heap a its.toArray/\xs.length<=g9:=by
 rcases h with h | ⟨o,its,n,hk,hc,hd,hs,hz,r⟩
 ·obtain⟨z,its,n,r,e⟩:=h.ok I.hok
  exact⟨its,r,⟨_,n,e,rfl,rfl,rfl⟩,z⟩
 ·refine⟨its.toList,r,⟨o,n,I.kIn a o hk,hc,hd,by simpa using hs⟩,?_⟩
  have e:=r.length
  simp only[u5]at e
  omega
theorem Inv.tuple(I:Inv X pins σ H s)(h:SqT X.K H a xs):∃its:List Value,D0 xs its/\IsTup s.heap a its.toArray/\xs.length<=g9:=by
 rcases h with h | ⟨o,its,n,hk,hc,hs,hz,r⟩
 ·obtain⟨z,its,r,p⟩:=h.ok I.hok
  exact⟨its,r,p,z⟩
 ·refine⟨its.toList,r,⟨o,I.kIn a o hk,hc,n,by simpa using hs⟩,?_⟩
  have e:=r.length
  simp only[u5]at e
  omega
theorem Inv.list_inj(I:Inv X pins σ H s)(h:SqL X.K H a xs)(h':SqL X.K H a ys):xs=ys:=by
 obtain⟨its,r,⟨o,n,e,_,_,d⟩,_⟩:=I.list h
 obtain⟨its',r',⟨o',n',e',_,_,d'⟩,_⟩:=I.list h'
 rw[e]at e';cases e'
 rw[d]at d'
 injection d' with d1 _
 have:its=its':=by simpa using congrArg c4Z d1
 subst this
 exact r.inj r'
theorem Inv.tuple_inj(I:Inv X pins σ H s)(h:SqT X.K H a xs)(h':SqT X.K H a ys):xs=ys:=by
 obtain⟨its,r,⟨o,e,_,n,d⟩,_⟩:=I.tuple h
 obtain⟨its',r',⟨o',e',_,n',d'⟩,_⟩:=I.tuple h'
 rw[e]at e';cases e'
 rw[d]at d'
 injection d' with d1 _
 have:its=its':=by simpa using congrArg c4Z d1
 subst this
 exact r.inj r'
end
abbrev Cx.wish(X:Cx)(E:Value->d7->Prop):Cx:={ X with xe:=E }
abbrev Cx.nox(X:Cx):Cx:=X.wish fun _ _=>False
theorem Cx.Ok.wish(ok:X.Ok)(E:Value->d7->Prop):(X.wish E).Ok:=
 ⟨ok.mod,ok.kind,ok.glob,ok.blt,ok.above,ok.inj,ok.has,ok.cab,ok.hd,ok.frames,ok.stk,ok.exf,ok.bs,ok.bsz,ok.noex,ok.exfs,ok.funs,ok.frf⟩
theorem Cx.Ok.unwish{E:Value->d7->Prop}(ok:(X.wish E).Ok):X.Ok:=
 ⟨ok.mod,ok.kind,ok.glob,ok.blt,ok.above,ok.inj,ok.has,ok.cab,ok.hd,ok.frames,ok.stk,ok.exf,ok.bs,ok.bsz,ok.noex,ok.exfs,ok.funs,ok.frf⟩
section
variable {E:Value->d7->Prop}
theorem Inv.wish(I:Inv X pins σ H s)(E:Value->d7->Prop):Inv (X.wish E) pins σ H s:=⟨I.ok.wish E,I.os,I.bare,I.base,I.loc,I.cell,I.free,I.freeC,I.pin,I.hok,I.len⟩
theorem Inv.unwish(I:Inv (X.wish E) pins σ H s):Inv X pins σ H s:=⟨I.ok.unwish,I.os,I.bare,I.base,I.loc,I.cell,I.free,I.freeC,I.pin,I.hok,I.len⟩
theorem SP.unwish{f:Flow}{s':d7}(h:SP (X.wish E) pins D f s'):SP X pins D f s':=by
 cases f with
 | next=>obtain⟨σ',H',I,q⟩:=h;exact⟨σ',H',I.unwish,q⟩
 | brk=>obtain⟨σ',H',I,q⟩:=h;exact⟨σ',H',I.unwish,q⟩
 | cont=>obtain⟨σ',H',I,q⟩:=h;exact⟨σ',H',I.unwish,q⟩
 | ret u=>obtain⟨v,σ',H',I,r,q⟩:=h;exact⟨v,σ',H',I.unwish,r,q⟩
theorem PSs.nox{st:List Stmt}{t:TS}(h:PSs X.nox st t):PSs X st t:=fun pins s σ H D I hw=>
 V4 (h pins s σ H D (I.wish _) hw) (fun _ _ q=>q.unwish) fun _ _ z=>False.elim z
end
section
variable {st:Stmt}{a1p:List Stmt}{t u:TS}
def C6:TS:=fun D σ H=>D.nx σ H
def t6(t u:TS):TS:=fun D σ H=>t { D with nx:=u D } σ H
theorem b9P:PSs X [] C6:=fun _ _ σ H _ I h=>a2T ⟨σ,H,I,h⟩
theorem b7O(h1:PS X st t)(h2:PSs X a1p u):PSs X (st::a1p) (t6 t u):=by
 intro pins s σ H D I h
 refine wpAny_execs_cons (thn (h1 pins s σ H { D with nx:=u D } I h) fun f s1 q=>?_)
 cases f with
 | next=>
  obtain⟨σ',H',I',q⟩:=q
  exact h2 pins s1 σ' H' D I' q
 | ret v=>exact q
 | brk=>exact q
 | cont=>exact q
theorem b9O(h1:PS X st t):PSs X [st] t:=by
 intro pins s σ H D I h
 refine wpAny_execs_cons (thn (h1 pins s σ H D I h) fun f s1 q=>?_)
 cases f with
 | next=>exact a2T q
 | ret v=>exact q
 | brk=>exact q
 | cont=>exact q
theorem Inv.quiet(I:Inv X pins σ H s):interactive X.env=false:=by simp[interactive,I.ok.kind]
def Z7(te:TE):TS:=fun D σ H=>te σ H fun _ H1=>D.nx σ H1
theorem b9Q(he:PE X e te)(hs:Z5 e none pos.line X.env=pure false:=by rfl):PS X (.Expr e pos) (Z7 te):=by
 intro pins s σ H D I h
 exact wpAny_Expr_any (thn (he pins s σ H _ I h) fun v s1 ⟨x,H1,I1,r1,q1⟩=>⟨σ,H1,I1,q1⟩) I.quiet hs
def G9(te:TE):TS:=fun D σ H=>te σ H D.rt
theorem c2h(he:PE X e te):PS X (.Return (some e) pos) (G9 te):=by
 intro pins s σ H D I h
 exact wpAny_Return_some (thn (he pins s σ H _ I h) fun v s1 ⟨x,H1,I1,r1,q1⟩=>⟨x,σ,H1,I1,r1,q1⟩)
def L4(c:TT)(t u:TS):TS:=fun D σ H=>c σ H fun b H1=>if b=true then t D σ H1 else u D σ H1
theorem c4x{a b:List Stmt}{tc:TT}(hc:PT X c tc)(ha:PSs X a t)(hb:PSs X b u):PS X (.If c a b pos) (L4 tc t u):=by
 intro pins s σ H D I h
 refine wpAny_If (thn (hc pins s σ H _ I h) fun d s1 ⟨H1,I1,q1⟩=>?_)
 cases d with
 | true=>exact ha pins s1 σ H1 D I1 q1
 | false=>exact hb pins s1 σ H1 D I1 q1
end
abbrev TG:=V->St->Hp->(St->Hp->Prop)->Prop
variable{g:TG}
abbrev TGs:=List V->St->Hp->(St->Hp->Prop)->Prop
def PG(X:Cx)(target:Expr)(t:TG):Prop:=
 ∀(pins:List (Addr×Obj)) (s:d7) (σ:St) (H:Hp) (v:V) (u:Value) (Q:St->Hp->Prop),Inv X pins σ H s->C1 v u->t v σ H Q ->
  wpAny (model X.prog X.w) X.A (a3U target X.env u) (fun _ s'=>∃σ' H',Inv X pins σ' H' s'/\Q σ' H') X.xe s
def PGs(X:Cx)(ts:List Expr)(t:TGs):Prop:=
 ∀(pins:List (Addr×Obj)) (s:d7) (σ:St) (H:Hp) (vs:List V) (us:List Value) (Q:St->Hp->Prop),Inv X pins σ H s->D0 vs us->t vs σ H Q ->
  wpAny (model X.prog X.w) X.A (assignInOrder ((a0o ts X.env).map (·.2)) us) (fun _ s'=>∃σ' H',Inv X pins σ' H' s'/\Q σ' H') X.xe s
abbrev a8T:=V->V->V->Hp->(Hp->Prop)->Prop
def b8Q(X:Cx)(t:a8T):Prop:=
 ∀(pins:List (Addr×Obj)) (s:d7) (σ:St) (H:Hp) (o i v:V) (ov iv u:Value) (Q:Hp->Prop),Inv X pins σ H s->C1 o ov->C1 i iv->C1 v u->t o i v H Q ->
  wpAny (model X.prog X.w) X.A (c1A ov iv u) (fun _ s'=>∃H',Inv X pins σ H' s'/\Q H') X.xe s
abbrev TIp:=V->V->Hp->VK->Prop
def PIp(X:Cx)(op:b6q)(t:TIp):Prop:=
 ∀(pins:List (Addr×Obj)) (s:d7) (σ:St) (H:Hp) (x y:V) (v u:Value) (Q:VK),Inv X pins σ H s->C1 x v->C1 y u->t x y H Q ->
  wpAny (model X.prog X.w) X.A (inplaceOp op v u) (EP X pins σ Q) X.xe s
section
def o0(i:Nat):TG:=fun v σ H Q=>Q (σ.set i (some v)) H
theorem a9X(hN:X.N.Nodup)(hi:X.N[i]? = some x)(hx:Loc X.env.scope x)(hf:X.fn x=true\/X.env.scope.names.lookup x=some .local:=by first | exact .inl rfl | exact .inr rfl | assumption):PG X (.Name x pos) (o0 i):=by
 intro pins s σ H v u Q I r h
 exact a4H (a7H I hN hi hx r (fun s' I'=>⟨_,H,I',h⟩) hf)
def b2c:TGs:=fun vs σ H Q=>vs=[]/\Q σ H
def a1D(t:TG)(u:TGs):TGs:=fun vs σ H Q=>∃v r,vs=v::r/\t v σ H fun σ' H'=>u r σ' H' Q
theorem b4y:PGs X [] b2c:=by
 intro pins s σ H vs us Q I r h
 obtain⟨e,h⟩:=h
 subst e
 cases r
 exact assignInOrder_nil ⟨σ,H,I,h⟩
theorem a7W{t:TG}{u:TGs}(h1:PG X e t)(h2:PGs X es u)
  (hs:(a0o (e::es) X.env).map (·.2)=a3U e X.env::(a0o es X.env).map (·.2):=by rfl):PGs X (e::es) (a1D t u):=by
 intro pins s σ H vs us Q I r h
 obtain⟨v,vr,e1,h⟩:=h
 subst e1
 cases r with
 | cons r rr=>
  rw[hs]
  refine assignInOrder_cons (thn (h1 pins s σ H _ _ _ I r h) fun _ s1 ⟨σ1,H1,I1,q1⟩=>?_)
  exact h2 pins s1 σ1 H1 _ _ Q I1 rr q1
def b2b(K:Fg)(n:Nat)(t:TGs):TG:=fun v σ H Q=>∃a xs,v=.ref a/\SqT K H a xs/\xs.length=n/\t xs σ H Q
theorem b7T{k:Nat}{t:TGs}{n:Nat}(hc:X.calm=true)(h:PGs X es t)
  (hn:(a0o es X.env).length=n:=by rfl) (hst:(a0o es X.env).findIdx? (·.1)=none:=by rfl):PG X (.Tuple es k pos) (b2b X.K n t):=by
 intro pins s σ H v u Q I r hw
 obtain⟨a,xs,e1,hq,hl,hw⟩:=hw
 subst e1
 cases r
 obtain⟨its,rv,ht,hz⟩:=I.tuple hq
 refine assign_Tuple_tuple (I.ok.hd hc) ht (by simp[hn,<-hl,rv.length]) hst fun h' hx=>?_
 have I1:Inv X pins σ H { s with heap:=h' }:=I.kept (t':=s.toks) fun b o e=>hx b o (t5 (g6 e)) e
 exact h pins _ σ H xs _ Q I1 (by simpa using rv) hw
def b3F(to ti:TE)(t:a8T):TG:=fun v σ H Q=>to σ H fun o H1=>ti σ H1 fun i H2=>t o i v H2 fun H3=>Q σ H3
theorem c2o{o i:Expr}{to ti:TE}{t:a8T}(ho:PE X o to)(hi:PE X i ti)(hs:b8Q X t)
  (ha:∀v,a3U (.Subscript o i pos) X.env v=(do
   let ov <-a2X [v] (eval o X.env)
   let iv <-a2X [v,ov] (eval i X.env)
   b6w pos
   a2X [v,ov,iv] (c1A ov iv v)
   release [v,ov,iv] []):=by intro _;rfl):PG X (.Subscript o i pos) (b3F to ti t):=by
 intro pins s σ H v u Q I r h
 rw[ha]
 refine l6 (b0R (thn (ho pins s σ H _ I h) fun ov s1 ⟨x,H1,I1,r1,q1⟩=>?_))
 refine l6 (b0R (thn (hi pins s1 σ H1 _ I1 q1) fun iv s2 ⟨y,H2,I2,r2,q2⟩=>?_))
 refine l6 (b0Q (l6 (b0R (thn (hs pins s2 σ H2 x y v ov iv u _ I2 r1 r2 r q2) fun _ s3 ⟨H3,I3,q3⟩=>?_))))
 exact wpAny_release ⟨σ,H3,I3,q3⟩
def D8(te:TE)(g:TG):TS:=fun D σ H=>te σ H fun x H1=>g x σ H1 D.nx
theorem c2k(he:PE X e te)(hg:PG X tg g)(hs:swapsWithSole [tg] e pos.line X.env=pure false:=by rfl)(hw:swappedStores [tg] e X.env=pure none:=by rfl)
  (h1:(a0o [tg] X.env).map (·.2)=[a3U tg X.env]:=by rfl):PS X (.Assign [tg] e pos) (D8 te g):=by
 intro pins s σ H D I h
 refine wpAny_Assign_stores (thn (he pins s σ H _ I h) fun v s1 ⟨x,H1,I1,r1,q1⟩=>?_) hs hw
 rw[h1]
 exact thn (hg pins s1 σ H1 x v _ I1 r1 q1) fun _ s2 q=>q
theorem c2g{pos':Pos}(hN:X.N.Nodup)(hi:X.N[i]? = some x)(hx:Loc X.env.scope x)(he:PE X e te)(hs:Z5 e (some (.Name x pos')) pos.line X.env=pure false:=by rfl)(hf:X.fn x=true\/X.env.scope.names.lookup x=some .local:=by first | exact .inl rfl | exact .inr rfl | assumption) :
  PS X (.Assign [.Name x pos'] e pos) (D8 te (o0 i)):=by
 intro pins s σ H D I h
 refine wpAny_Assign_Name (thn (he pins s σ H _ I h) fun v s1 ⟨y,H1,I1,r1,q1⟩=>?_) hs
 exact a7H I1 hN hi hx r1 (fun s2 I2=>⟨_,H1,I2,q1⟩) hf
def b4o(to ti te:TE)(tget:V->V->Hp->VK->Prop)(tip:TIp)(tset:a8T):TS:=fun D σ H=>to σ H fun o H1=>ti σ H1 fun i H2=>tget o i H2 fun x H3=>te σ H3 fun y H4=>tip x y H4 fun z H5=>tset o i z H5 fun H6=>D.nx σ H6
def c3w(X:Cx)(t:V->V->Hp->VK->Prop):Prop:=
 ∀(pins:List (Addr×Obj)) (s:d7) (σ:St) (H:Hp) (o i:V) (ov iv:Value) (Q:VK),Inv X pins σ H s->C1 o ov->C1 i iv->t o i H Q ->
  wpAny (model X.prog X.w) X.A (c1B ov iv) (EP X pins σ Q) X.xe s
theorem b9S{o i:Expr}{to ti:TE}{tget:V->V->Hp->VK->Prop}{tip:TIp}{tset:a8T}{op:b6q}{tpos:Pos}(ho:PE X o to)(hi:PE X i ti)(hg:c3w X tget)(he:PE X e te)(hp:PIp X op tip)(hs:b8Q X tset)
  (ha:∀ov iv new,augStore i ov iv new=(do a2X [new,ov,iv] (c1A ov iv new);release [new,ov,iv] [];pure .next):=by intros;rfl):PS X (.AugAssign (.Subscript o i tpos) op e pos) (b4o to ti te tget tip tset):=by
 intro pins s σ H D I h
 refine wpAny_AugAssign_SubscriptAny (thn (ho pins s σ H _ I h) fun ov s1 ⟨x1,H1,I1,r1,q1⟩=>?_) ha
 refine thn (hi pins s1 σ H1 _ I1 q1) fun iv s2 ⟨x2,H2,I2,r2,q2⟩=>?_
 refine thn (hg pins s2 σ H2 x1 x2 ov iv _ I2 r1 r2 q2) fun old s3 ⟨x3,H3,I3,r3,q3⟩=>?_
 refine thn (he pins s3 σ H3 _ I3 q3) fun v s4 ⟨x4,H4,I4,r4,q4⟩=>?_
 refine thn (hp pins s4 σ H4 x3 x4 old v _ I4 r3 r4 q4) fun new s5 ⟨x5,H5,I5,r5,q5⟩=>?_
 exact thn (hs pins s5 σ H5 x1 x2 x5 ov iv new _ I5 r1 r2 r5 q5) fun _ s6 ⟨H6,I6,q6⟩=>⟨σ,H6,I6,q6⟩
def ipI(f:Int->Int->Int):TIp:=fun x y H Q=>∃i j,x=.int i/\y=.int j/\Q (.int (f i j)) H
theorem c3m:PIp X .Add (ipI fun i j=>i+j):=by
 intro pins s σ H x y v u Q I r1 r2 h
 obtain⟨i,j,e1,e2,q⟩:=h
 subst e1;subst e2
 obtain⟨t,rfl⟩:=r1
 obtain⟨t',rfl⟩:=r2
 exact iadd_int ⟨.int _,H,I.tok _,⟨_,rfl⟩,q⟩
end
section
def a9E(c:TT)(tb:TS):TS:=fun D σ H=>∃W:Nat->St->Hp->Prop,(∃m,W m σ H)/\∀m σ H,W m σ H ->
 c σ H fun b H1=>if b=true then ∃N:St->Hp->Prop,(∀σ' H',N σ' H'->∃m',m'<m/\W m' σ' H')/\tb { D with nx:=N,ct:=N,bk:=D.nx } σ H1 else D.nx σ H1
theorem b7P{body:List Stmt}{tc:TT}(hp:c3V (model X.prog X.w) X.A X.env X.xe)(hc:PT X c tc)(hb:PSs X body tb):PS X (.While c body [] pos) (a9E tc tb):=by
 intro pins s σ H D I h
 obtain⟨W,⟨m0,w0⟩,turn⟩:=h
 refine wpAny_While (codeAny_whileLoop (fun n s'=>∃σ' H',Inv X pins σ' H' s'/\W n σ' H') ?_ m0 ⟨σ,H,I,w0⟩)
 rintro n s1 ⟨σ1,H1,I1,w1⟩
 refine Z4 hp (thn (hc pins s1 σ1 H1 _ I1 (turn n σ1 H1 w1)) fun b s2 ⟨H2,I2,q2⟩=>?_)
 cases b with
 | true=>
  obtain⟨N,hN,q2⟩:=q2
  rw[if_pos rfl]
  refine Z4 hp (thn (hb pins s2 σ1 H2 _ I2 q2) fun f s3 q3=>?_)
  cases f with
  | next=>
   obtain⟨σ3,H3,I3,n3⟩:=q3
   obtain⟨m',hm,w3⟩:=hN σ3 H3 n3
   exact⟨m',hm,σ3,H3,I3,w3⟩
  | cont=>
   obtain⟨σ3,H3,I3,n3⟩:=q3
   obtain⟨m',hm,w3⟩:=hN σ3 H3 n3
   exact⟨m',hm,σ3,H3,I3,w3⟩
  | brk=>exact q3
  | ret v=>exact q3
 | false=>
  rw[if_neg j7]
  exact a2T ⟨σ1,H2,I2,q2⟩
end
structure It where
 go:Nat->Hp->Prop
 yld:Nat->Hp->V->Hp->Prop
 stop:Nat->Hp->Prop
def a3N(X:Cx)(pins:List (Addr×Obj))(H:Hp)(b:Addr):Prop:=
 H b=none/\b≠X.env.locals/\b∉X.fs/\(b∈X.ex\/X.s₀.heap.objs.size<=b)/\(∀x c,X.env.cells.lookup x=some c->c≠b)/\∀p∈X.pn++pins,p.1≠b
theorem Inv.fpOk(I:Inv X pins σ H s)(hb:s.heap.objs.size<=b)(hn:H' b=none):a3N X pins H' b:=by
 refine⟨hn,b6m (p9 I.lt hb),I.nofs hb,.inr (v9 I.sz hb),fun x c e z=>?_,fun p hp z=>?_⟩
 ·obtain⟨v,q⟩:=I.cell x c e
  exact absurd (p9 q.lt (by rw[z];exact hb)) (E4 _)
 ·exact absurd (p9 (g6 (I.pin p hp).1) (by rw[z];exact hb)) (E4 _)
structure b0G(P:v0)(w:World)(K:Fg)(tg:Expr)(J:It)(fp:List Addr)(it:Addr)(tn:Nat->Heap->Prop):Prop where
 mem:it∈fp
 obj:∀i h,tn i h->∀b∈fp,∃o,h.get? b=some o/\∀v,o.data≠.cell v
 keep:∀i h h',tn i h->(∀b∈fp,∀o,h.get? b=some o->h'.get? b=some o)->tn i h'
 item:∀(X:Cx),X.prog=P->X.w=w->X.K=K->X.calm=true->∀(i:Nat) (pins:List (Addr×Obj)) (s:d7) (σ:St) (H:Hp) (E:Value->d7->Prop),Inv X pins σ H s->(∀b∈fp,a3N X pins H b)->tn i s.heap->J.go i H ->
  wpAny (model P w) X.A (pyNext (.ref it)) (fun r s1=>∃u,r=some u /\
   wpAny (model P w) X.A (a2V tg (.ref it) u) (fun _ s2=>∃x H',Inv X pins σ H' s2/\C1 x u/\J.yld i H x H'/\tn (i+1) s2.heap/\∀b∈fp,H' b=none) E s1) E s
 done:∀(X:Cx),X.prog=P->X.w=w->X.K=K->X.calm=true->∀(i:Nat) (pins:List (Addr×Obj)) (s:d7) (σ:St) (H:Hp) (E:Value->d7->Prop),Inv X pins σ H s->(∀b∈fp,a3N X pins H b)->tn i s.heap->J.stop i H ->
  wpAny (model P w) X.A (pyNext (.ref it)) (fun r s1=>r=none/\Inv X pins σ H s1) E s
 self:∀(A:F7) (i:Nat) (s:d7) (Q:Value->d7->Prop) (E:Value->d7->Prop),tn i s.heap->Q (.ref it) s->wpAny (model P w) A (pyIter (.ref it)) Q E s
abbrev TI:=St->Hp->(It->Hp->Prop)->Prop
def PIE(X:Cx)(pins:List (Addr×Obj))(σ:St)(tg:Expr)(R:It->Hp->Prop)(itv:Value)(s2:d7):Prop:=
 ∃(it:Addr) (fp:List Addr) (tn:Nat->Heap->Prop) (J:It) (H':Hp),itv=.ref it/\Inv X pins σ H' s2/\b0G X.prog X.w X.K tg J fp it tn/\tn 0 s2.heap/\(∀b∈fp,a3N X pins H' b)/\R J H'
def PI(X:Cx)(tg iter:Expr)(wi:TI):Prop:=
 ∀(pins:List (Addr×Obj)) (s:d7) (σ:St) (H:Hp) (R:It->Hp->Prop),Inv X pins σ H s->wi σ H R ->
  wpAny (model X.prog X.w) X.A (eval iter X.env) (fun v s1=>wpAny (model X.prog X.w) X.A (pyIter v) (PIE X pins σ tg R) X.xe s1) X.xe s
theorem b4F{M:Model}{A:F7}{E:Value->d7->Prop}{it:Addr}{o:Obj}{n:String}{vs:Array Value}{Q:Unit->d7->Prop}(ho:s.heap.get? it=some o)(hc:o.cls=.type n)(hd:o.data=.fields vs)
  (hn:["enumerate","zip","dict_itemiterator","dict_reverseitemiterator","odict_iterator","itertools.zip_longest","itertools.pairwise"].contains n=false) (hQ:Q () s):wpAny M A (a2V tg (.ref it) u) Q E s:=by
 unfold a2V
 cases tg <;> first
  | exact z7 hQ
  | (cases u <;> first
    | exact z7 hQ
    | (refine l6 (wpAny_load ho ?_)
       rw[hc,hd]
       show wpAny M A (if(["enumerate","zip","dict_itemiterator","dict_reverseitemiterator","odict_iterator","itertools.zip_longest","itertools.pairwise"].contains n&&vs[0]? == some (rawInt _))=true then _ else _) Q E s
       rw[if_neg (by intro h;rw[hn,Bool.false_and]at h;cases h)]
       exact z7 hQ))
def Itl(K:Fg)(a:Addr):It:=
 ⟨fun i H=>∃xs x,SqL K H a xs/\xs[i]? = some x,fun i H x H'=>H'=H/\∀xs,SqL K H a xs->xs[i]? = some x,fun i H=>∃xs,SqL K H a xs/\xs.length<=i⟩
def Itt(K:Fg)(a:Addr):It:=
 ⟨fun i H=>∃xs x,SqT K H a xs/\xs[i]? = some x,fun i H x H'=>H'=H/\∀xs,SqT K H a xs->xs[i]? = some x,fun i H=>∃xs,SqT K H a xs/\xs.length<=i⟩
def Itr(lo:Int)(n:Nat):It:=⟨fun i _=>i<n,fun i H x H'=>H'=H/\x=.int (lo+i),fun i _=>n<=i⟩
theorem b5k{P:v0}{K:Fg}(a it:Addr):b0G P w K tg (Itl K a) [it] it (fun i h=>h.IsListIter it a i) where
 mem:=by simp
 obj:=fun i h st b hb=>by
  have e:b=it:=by simpa using hb
  subst e
  obtain⟨o,e,c,d⟩:=st
  exact⟨o,e,fun v z=>by rw[d]at z;cases z⟩
 keep:=fun i h h' st k=>st.at fun o e=>k it (by simp) o e
 item:=by
  intro X hP hw hK hc i pins s σ H E I hf st hg
  subst hP hw hK
  obtain⟨xs,x,hq,hx⟩:=hg
  obtain⟨its,rv,p,hz⟩:=I.list hq
  obtain⟨u,hu,ru⟩:=rv.get hx
  obtain⟨f0,f1,f2,f3,f4,f5⟩:=hf it (by simp)
  refine wpAny_pyNext_list_item st p.isList (x:=u) (by simpa using hu) fun h' st' sb=>?_
  have I1:Inv X pins σ H { s with heap:=h' }:=I.turned (t':=s.toks) (fun b o hb e=>(sb.2 b hb).trans e) f0 f1 f3 f4 f5
  obtain⟨o,e,c,d⟩:=id st'
  exact⟨u,rfl,b4F (s:={ s with heap:=h' }) e c d (by decide) ⟨x,H,I1,ru,⟨rfl,fun ys hy=>by rw[I.list_inj hy hq];exact hx⟩,st',fun b hb=>(hf b hb).1⟩⟩
 done:=by
  intro X hP hw hK hc i pins s σ H E I hf st hg
  subst hP hw hK
  obtain⟨xs,hq,hx⟩:=hg
  obtain⟨its,rv,p,hz⟩:=I.list hq
  obtain⟨f0,f1,f2,f3,f4,f5⟩:=hf it (by simp)
  have hl:=rv.length
  exact wpAny_pyNext_list_end (I.ok.hd hc) st p.isList (by simp;omega) fun h' eb=>⟨rfl,I.turned (t':=s.toks) (fun b o hb e=>eb b o hb e) f0 f1 f3 f4 f5⟩
 self:=fun _ _ _ _ _ st h=>wpAny_pyIter_listiter st h
theorem b2D{P:v0}{K:Fg}(a it:Addr):b0G P w K tg (Itt K a) [it] it (fun i h=>h.IsTupleIter it a i) where
 mem:=by simp
 obj:=fun i h st b hb=>by
  have e:b=it:=by simpa using hb
  subst e
  obtain⟨o,e,c,d⟩:=st
  exact⟨o,e,fun v z=>by rw[d]at z;cases z⟩
 keep:=fun i h h' st k=>st.at fun o e=>k it (by simp) o e
 item:=by
  intro X hP hw hK hc i pins s σ H E I hf st hg
  subst hP hw hK
  obtain⟨xs,x,hq,hx⟩:=hg
  obtain⟨its,rv,p,hz⟩:=I.tuple hq
  obtain⟨u,hu,ru⟩:=rv.get hx
  obtain⟨f0,f1,f2,f3,f4,f5⟩:=hf it (by simp)
  refine wpAny_pyNext_tuple_item st (show s.heap.IsTuple a its.toArray from p) (x:=u) (by simpa using hu) fun h' st' sb=>?_
  have I1:Inv X pins σ H { s with heap:=h' }:=I.turned (t':=s.toks) (fun b o hb e=>(sb.2 b hb).trans e) f0 f1 f3 f4 f5
  obtain⟨o,e,c,d⟩:=id st'
  exact⟨u,rfl,b4F (s:={ s with heap:=h' }) e c d (by decide) ⟨x,H,I1,ru,⟨rfl,fun ys hy=>by rw[I.tuple_inj hy hq];exact hx⟩,st',fun b hb=>(hf b hb).1⟩⟩
 done:=by
  intro X hP hw hK hc i pins s σ H E I hf st hg
  subst hP hw hK
  obtain⟨xs,hq,hx⟩:=hg
  obtain⟨its,rv,p,hz⟩:=I.tuple hq
  obtain⟨f0,f1,f2,f3,f4,f5⟩:=hf it (by simp)
  have hl:=rv.length
  exact wpAny_pyNext_tuple_end (I.ok.hd hc) st (show s.heap.IsTuple a its.toArray from p) (by simp;omega) fun h' eb=>⟨rfl,I.turned (t':=s.toks) (fun b o hb e=>eb b o hb e) f0 f1 f3 f4 f5⟩
 self:=fun _ _ _ _ _ st h=>wpAny_pyIter_tupleiter st h
theorem b2E{P:v0}{K:Fg}(it:Addr)(lo:Int)(n:Nat):b0G P w K tg (Itr lo n) [it] it (fun i h=>IsRangeIter h it (lo+(i:Nat) * 1) ((n:Int) - (i:Nat)) 1) where
 mem:=by simp
 obj:=fun i h st b hb=>by
  have e:b=it:=by simpa using hb
  subst e
  exact⟨_,st,fun v z=>by
   have z':Data.fields _=Data.cell v:=z
   cases z'⟩
 keep:=fun i h h' st k=>k it (by simp) _ st
 item:=by
  intro X hP hw hK hc i pins s σ H E I hf st hg
  subst hP hw hK
  obtain⟨f0,f1,f2,f3,f4,f5⟩:=hf it (by simp)
  have W:=Walks.range (prog:=X.prog) (w:=X.w) (I.ok.hd hc) it lo 1 n
  refine W.item i s _ _ hg st fun v h' tk hv st' kk=>?_
  obtain⟨t,rfl⟩:=hv
  have I1:Inv X pins σ H { s with heap:=h',toks:=tk }:=I.turned (fun b o hb e=>kk b o (by simpa using hb) e) f0 f1 f3 f4 f5
  refine⟨_,rfl,b4F (s:={ s with heap:=h',toks:=tk }) (n := "range_iterator") st' rfl rfl (by decide) ⟨.int (lo+i),H,I1,⟨t,?_⟩,⟨rfl,rfl⟩,st',fun b hb=>(hf b hb).1⟩⟩
  rw[Int.mul_one]
 done:=by
  intro X hP hw hK hc i pins s σ H E I hf st hg
  subst hP hw hK
  obtain⟨f0,f1,f2,f3,f4,f5⟩:=hf it (by simp)
  exact wpAny_pyNext_range_end (I.ok.hd hc) st (by have:n<=i:=hg;omega) fun h' eb=>⟨rfl,I.turned (t':=s.toks) (fun b o hb e=>eb b o hb e) f0 f1 f3 f4 f5⟩
 self:=fun _ _ _ _ _ st h=>wpAny_pyIter_rangeiter st h
section
def T8(K:Fg)(tl:TE):TI:=fun σ H R=>tl σ H fun x H1=>∃a,x=.ref a/\(∃xs,SqL K H1 a xs)/\R (Itl K a) H1
def b3C(K:Fg)(tl:TE):TI:=fun σ H R=>tl σ H fun x H1=>∃a,x=.ref a/\(∃xs,SqT K H1 a xs)/\R (Itt K a) H1
theorem b9W{l:Expr}{tl:TE}(hl:PE X l tl):PI X tg l (T8 X.K tl):=by
 intro pins s σ H R I h
 refine thn (hl pins s σ H _ I h) fun v s1 ⟨x,H1,I1,r1,q1⟩=>?_
 obtain⟨a,e,⟨xs,hq⟩,q⟩:=q1
 subst e
 cases r1
 obtain⟨its,rv,p,hz⟩:=I1.list hq
 refine b2z p.isList ?_
 refine⟨s1.heap.objs.size,[s1.heap.objs.size],_,_,H1,rfl,I1.kept (t':=s1.toks) fun b o e=>d8 _ e,b5k a _,⟨_,u6 _ rfl,rfl,rfl⟩,fun b hb=>?_,q⟩
 have e:b=s1.heap.objs.size:=by simpa using hb
 subst e
 exact I1.fpOk (d5 _) (I1.hok.fresh (d5 _))
theorem c2m{l:Expr}{tl:TE}(hl:PE X l tl):PI X tg l (b3C X.K tl):=by
 intro pins s σ H R I h
 refine thn (hl pins s σ H _ I h) fun v s1 ⟨x,H1,I1,r1,q1⟩=>?_
 obtain⟨a,e,⟨xs,hq⟩,q⟩:=q1
 subst e
 cases r1
 obtain⟨its,rv,p,hz⟩:=I1.tuple hq
 refine wpAny_pyIter_tuple (show s1.heap.IsTuple a its.toArray from p) ?_
 refine⟨s1.heap.objs.size,[s1.heap.objs.size],_,_,H1,rfl,I1.kept (t':=s1.toks) fun b o e=>d8 _ e,b2D a _,⟨_,u6 _ rfl,rfl,rfl⟩,fun b hb=>?_,q⟩
 have e:b=s1.heap.objs.size:=by simpa using hb
 subst e
 exact I1.fpOk (d5 _) (I1.hok.fresh (d5 _))
theorem b7E{R:It->Hp->Prop}{E:Value->d7->Prop}{lo hi:Int}{t u v:Tok}{tk:Nat}(I:Inv X pins σ H s)(h1 : -(2 ^ 62)<=lo)(h2:lo<2 ^ 62)(h3 : -(2 ^ 62)<=hi)(h4:hi<2 ^ 62)
  (q:R (Itr lo (hi - lo).toNat) H):wpAny (model X.prog X.w) X.A (pyIter (.ref s.heap.objs.size)) (PIE X pins σ tg R) E { s with heap:=s.heap.push { cls:=.type "range",data:=.fields #[.int lo t,.int hi u,.int 1 v] },toks:=tk }:=by
 refine wpAny_pyIter_range (IsRange.new ..) (small_one h1 h2 h3 h4) ?_
 have I1:Inv X pins σ H { s with heap:=s.heap.push { cls:=.type "range",data:=.fields #[.int lo t,.int hi u,.int 1 v] },toks:=tk }:=I.kept fun b o e=>d8 _ e
 refine⟨(s.heap.push { cls:=.type "range",data:=.fields #[.int lo t,.int hi u,.int 1 v] }).objs.size,[(s.heap.push { cls:=.type "range",data:=.fields #[.int lo t,.int hi u,.int 1 v] }).objs.size],_,_,H,rfl,
  I1.kept (t':=tk) fun b o e=>d8 _ e,b2E _ lo (hi - lo).toNat,?_,fun b hb=>?_,q⟩
 ·have e1:lo+((0:Nat):Int) * 1=lo:=by simp
  have e2:(((hi - lo).toNat:Nat):Int) - ((0:Nat):Int)=Builtin.Range.rangeSize lo hi 1:=by rw[rangeSize_one];split <;> omega
  show IsRangeIter _ _ (lo+((0:Nat):Int) * 1) ((((hi - lo).toNat:Nat):Int) - ((0:Nat):Int)) 1
  rw[e1,e2]
  exact u6 _ rfl
 ·have e:b=(s.heap.push { cls:=.type "range",data:=.fields #[.int lo t,.int hi u,.int 1 v] }).objs.size:=by simpa using hb
  subst e
  exact I1.fpOk (d5 _) (I1.hok.fresh (d5 _))
def a0c(ta:TA):TI:=fun σ H R=>ta σ H fun vs H1=>∃j:Int,vs=[.int j] /\ -(2 ^ 62)<=j/\j<2 ^ 62/\R (Itr 0 j.toNat) H1
theorem b5y{a:Expr}{ta:TA}(hg:Gl X "range")(hm:X.mg "range" = none)(ha:PA X [a] ta)(hs:d4 [a] X.env=[(false,eval a X.env)]:=by rfl):PI X tg (.Call (.Name "range" p) [a] [] pos) (a0c ta):=by
 intro pins s σ H R I h
 refine Call_ (a6c I hg hm boot_range (U2 (thn (ha pos pins s σ H _ I h) fun us s1 ⟨vs,H1,I1,r1,q1⟩=>?_) hs rfl))
 obtain⟨j,e,q1,q2,q⟩:=q1
 subst e
 cases r1 with
 | cons r rr=>
  cases rr
  obtain⟨t,rfl⟩:=r
  exact call_range_1 (b7E I1 (by omega) (by omega) q1 q2 (by simpa using q))
def a1o(wi:TI)(g:TG)(tb:TS):TS:=fun D σ H=>wi σ H fun J H1=>∃W:Nat->Nat->St->Hp->Prop,(∃m,W 0 m σ H1)/\∀i m σ H,W i m σ H ->
 (J.stop i H/\D.nx σ H)\/(J.go i H/\∃N:St->Hp->Prop,(∀σ' H',N σ' H'->∃m',m'<m/\W (i+1) m' σ' H')/\∀x H',J.yld i H x H'->g x σ H' fun σ2 H2=>tb { D with nx:=N,ct:=N,bk:=D.nx } σ2 H2)
def a4r(fp:List Addr)(h:Heap):List (Addr×Obj):=fp.filterMap fun b=>(h.get? b).map fun o=>(b,o)
theorem a0y{fp:List Addr}{o:Obj}(hb:b∈fp)(e:h.get? b=some o):(b,o)∈a4r fp h:=b9c.mpr ⟨b,hb,by rw[e];rfl⟩
theorem b5H{fp:List Addr}{p:Addr×Obj}(hp:p∈a4r fp h):p.1∈fp/\h.get? p.1=some p.2:=by
 obtain⟨b,hb,e⟩:=b9c.mp hp
 cases q:h.get? b with
 | none=>rw[q]at e;cases e
 | some o=>
  rw[q]at e
  have e':(b,o)=p:=Option.some.inj e
  subst e'
  exact⟨hb,q⟩
theorem Inv.pinned{fp:List Addr}(I:Inv X pins σ H s)(hf:∀b∈fp,a3N X pins H b)(ho:∀b∈fp,∃o,s.heap.get? b=some o/\∀v,o.data≠.cell v):Inv X (pins++a4r fp s.heap) σ H s:=
 I.pins_of fun p hp=>(l7.mp hp).elim (fun z=>I.pin p (l4 _ z)) fun z=>by
  obtain⟨hb,e⟩:=b5H z
  obtain⟨f0,f1,f2,_⟩:=hf p.1 hb
  obtain⟨o,e',d⟩:=ho p.1 hb
  rw[e]at e';cases e'
  exact⟨e,f0,f1,f2,d⟩
theorem Inv.unpinned{pl:List (Addr×Obj)}(I:Inv X (pins++pl) σ H s):Inv X pins σ H s:=I.pins_of fun p hp=>I.pin p (l4 _ (D7 _ hp))
theorem c2i{iter:Expr}{body:List Stmt}{wi:TI}(hp:c3V (model X.prog X.w) X.A X.env X.xe)(hc:X.calm=true)(hi:PI X tg iter wi)(hg:PG X tg g)(hb:PSs X body tb)
  (hs:∀x,K8 iter X.env x=pure x:=by intro _;rfl):PS X (.For tg iter body [] pos) (a1o wi g tb):=by
 intro pins s σ H D I h
 refine wpAny_For (thn (hi pins s σ H _ I h) fun v s1 h1=>thn h1 fun itv s2 h2=>?_) hs
 obtain⟨it,fp,tn,J,H2,e,I2,T,st2,f2,W,⟨m0,w0⟩,turn⟩:=h2
 subst e
 have stat:∀ {H':Hp},(∀b∈fp,H' b=none)->∀b∈fp,a3N X pins H' b:=fun hn b hb=>⟨hn b hb,(f2 b hb).2⟩
 refine codeAny_forLoop_any (fun n s'=>∃i σ' H',Inv X pins σ' H' s'/\tn i s'.heap/\(∀b∈fp,H' b=none)/\W i n σ' H') ?_ m0 ⟨0,σ,H2,I2,st2,fun b hb=>(f2 b hb).1,w0⟩
 rintro n s3 ⟨i,σ3,H3,I3,st3,fr3,w3⟩
 rcases turn i n σ3 H3 w3 with ⟨stop,qn⟩ | ⟨go,N,hN,step⟩
 ·refine Z4 hp (thn (T.done X rfl rfl rfl hc i pins s3 σ3 H3 X.xe I3 (stat fr3) st3 stop) fun r s4 ⟨hr,I4⟩=>?_)
  subst hr
  exact a2T ⟨σ3,H3,I4,qn⟩
 ·refine Z4 hp (thn (T.item X rfl rfl rfl hc i pins s3 σ3 H3 X.xe I3 (stat fr3) st3 go) fun r s4 ⟨u,hr,h4⟩=>?_)
  subst hr
  refine Z4 hp (thn h4 fun _ s5 ⟨x,H5,I5,r5,y5,st5,fr5⟩=>?_)
  have I5':=I5.pinned (stat fr5) (T.obj _ _ st5)
  refine Z4 hp (thn (hg _ s5 σ3 H5 x u _ I5' r5 (step x H5 y5)) fun _ s6 ⟨σ6,H6,I6,q6⟩=>?_)
  refine Z4 hp (thn (hb _ s6 σ6 H6 _ I6 q6) fun f s7 q7=>?_)
  have again:∀ {σ7:St} {H7:Hp},Inv X (pins++a4r fp s5.heap) σ7 H7 s7->N σ7 H7->∃m,m<n/\∃i σ' H',Inv X pins σ' H' s7/\tn i s7.heap/\(∀b∈fp,H' b=none)/\W i m σ' H':=fun {σ7 H7} I7 n7=>by
   obtain⟨m',hm,w7⟩:=hN σ7 H7 n7
   refine⟨m',hm,i+1,σ7,H7,I7.unpinned,T.keep _ _ _ st5 fun b hb o e=>(I7.pin (b,o) (l4 _ (l4 _ (a0y hb e)))).1,fun b hb=>?_,w7⟩
   obtain⟨o,e,d⟩:=T.obj _ _ st5 b hb
   exact(I7.pin (b,o) (l4 _ (l4 _ (a0y hb e)))).2.1
  cases f with
  | next=>obtain⟨σ7,H7,I7,n7⟩:=q7;exact again I7 n7
  | cont=>obtain⟨σ7,H7,I7,n7⟩:=q7;exact again I7 n7
  | brk=>obtain⟨σ7,H7,I7,q7⟩:=q7;exact⟨σ7,H7,I7.unpinned,q7⟩
  | ret v=>obtain⟨x7,σ7,H7,I7,r7,q7⟩:=q7;exact⟨x7,σ7,H7,I7.unpinned,r7,q7⟩
end
theorem a3p{K:Fg}(Pv:Nat->St->Hp->Prop)(h0:Pv 0 σ H)(hl:∀i σ H,i<=xs.length->Pv i σ H->SqL K H a xs)
  (hs:∀i x σ H,xs[i]? = some x->Pv i σ H->g x σ H fun σ2 H2=>tb { D with nx:=Pv (i+1),ct:=Pv (i+1),bk:=D.nx } σ2 H2) (hd:∀σ H,Pv xs.length σ H->D.nx σ H) :
  ∃W:Nat->Nat->St->Hp->Prop,(∃m,W 0 m σ H)/\∀i m σ H,W i m σ H ->
   ((Itl K a).stop i H/\D.nx σ H)\/((Itl K a).go i H/\∃N:St->Hp->Prop,(∀σ' H',N σ' H'->∃m',m'<m/\W (i+1) m' σ' H')/\∀x H',(Itl K a).yld i H x H'->g x σ H' fun σ2 H2=>tb { D with nx:=N,ct:=N,bk:=D.nx } σ2 H2):=by
 refine⟨fun i m σ H=>m=xs.length - i/\i<=xs.length/\Pv i σ H,⟨xs.length,by simp,J8 _,h0⟩,?_⟩
 rintro i m σ H ⟨rfl,hi,p⟩
 have q:=hl i σ H hi p
 by_cases hlt:i<xs.length
 ·refine .inr ⟨⟨xs,xs[i],q,by simp[hlt]⟩,Pv (i+1),fun σ' H' p'=>⟨xs.length - (i+1),by omega,rfl,hlt,p'⟩,fun x H' y=>?_⟩
  obtain⟨e,y⟩:=y
  subst e
  exact hs i x σ _ (y xs q) p
 ·have e:i=xs.length:=by omega
  subst e
  exact .inl ⟨⟨xs,q,d5 _⟩,hd σ H p⟩
theorem b0o{K:Fg}(Pv:Nat->St->Hp->Prop)(h0:Pv 0 σ H)(hl:∀i σ H,i<=xs.length->Pv i σ H->SqT K H a xs)
  (hs:∀i x σ H,xs[i]? = some x->Pv i σ H->g x σ H fun σ2 H2=>tb { D with nx:=Pv (i+1),ct:=Pv (i+1),bk:=D.nx } σ2 H2) (hd:∀σ H,Pv xs.length σ H->D.nx σ H) :
  ∃W:Nat->Nat->St->Hp->Prop,(∃m,W 0 m σ H)/\∀i m σ H,W i m σ H ->
   ((Itt K a).stop i H/\D.nx σ H)\/((Itt K a).go i H/\∃N:St->Hp->Prop,(∀σ' H',N σ' H'->∃m',m'<m/\W (i+1) m' σ' H')/\∀x H',(Itt K a).yld i H x H'->g x σ H' fun σ2 H2=>tb { D with nx:=N,ct:=N,bk:=D.nx } σ2 H2):=by
 refine⟨fun i m σ H=>m=xs.length - i/\i<=xs.length/\Pv i σ H,⟨xs.length,by simp,J8 _,h0⟩,?_⟩
 rintro i m σ H ⟨rfl,hi,p⟩
 have q:=hl i σ H hi p
 by_cases hlt:i<xs.length
 ·refine .inr ⟨⟨xs,xs[i],q,by simp[hlt]⟩,Pv (i+1),fun σ' H' p'=>⟨xs.length - (i+1),by omega,rfl,hlt,p'⟩,fun x H' y=>?_⟩
  obtain⟨e,y⟩:=y
  subst e
  exact hs i x σ _ (y xs q) p
 ·have e:i=xs.length:=by omega
  subst e
  exact .inl ⟨⟨xs,q,d5 _⟩,hd σ H p⟩
theorem a0z{lo:Int}{n:Nat}(Pv:Nat->St->Hp->Prop)(h0:Pv 0 σ H)
  (hs:∀i σ H,i<n->Pv i σ H->g (.int (lo+i)) σ H fun σ2 H2=>tb { D with nx:=Pv (i+1),ct:=Pv (i+1),bk:=D.nx } σ2 H2) (hd:∀σ H,Pv n σ H->D.nx σ H) :
  ∃W:Nat->Nat->St->Hp->Prop,(∃m,W 0 m σ H)/\∀i m σ H,W i m σ H ->
   ((Itr lo n).stop i H/\D.nx σ H)\/((Itr lo n).go i H/\∃N:St->Hp->Prop,(∀σ' H',N σ' H'->∃m',m'<m/\W (i+1) m' σ' H')/\∀x H',(Itr lo n).yld i H x H'->g x σ H' fun σ2 H2=>tb { D with nx:=N,ct:=N,bk:=D.nx } σ2 H2):=by
 refine⟨fun i m σ H=>m=n - i/\i<=n/\Pv i σ H,⟨n,by simp,J8 _,h0⟩,?_⟩
 rintro i m σ H ⟨rfl,hi,p⟩
 by_cases hlt:i<n
 ·refine .inr ⟨hlt,Pv (i+1),fun σ' H' p'=>⟨n - (i+1),by omega,rfl,hlt,p'⟩,fun x H' y=>?_⟩
  obtain⟨e,y⟩:=y
  subst e y
  exact hs i σ _ hlt p
 ·have e:i=n:=by omega
  subst e
  exact .inl ⟨d5 _,hd σ H p⟩
abbrev R2:=V->V->Hp->VK->Prop
variable{r:R2}
def OpR(X:Cx)(f:Value->Value->Sem Value)(r:R2):Prop:=
 ∀(pins:List (Addr×Obj)) (s:d7) (σ:St) (H:Hp) (x y:V) (v u:Value) (Q:VK),Inv X pins σ H s->C1 x v->C1 y u->r x y H Q ->
  wpAny (model X.prog X.w) X.A (f v u) (EP X pins σ Q) X.xe s
def UnR(X:Cx)(f:Value->Sem Value)(r:V->Hp->VK->Prop):Prop:=
 ∀(pins:List (Addr×Obj)) (s:d7) (σ:St) (H:Hp) (x:V) (v:Value) (Q:VK),Inv X pins σ H s->C1 x v->r x H Q ->
  wpAny (model X.prog X.w) X.A (f v) (EP X pins σ Q) X.xe s
def O7(X:Cx)(f:Value)(r:List V->Hp->VK->Prop):Prop:=
 ∀(pins:List (Addr×Obj)) (s:d7) (σ:St) (H:Hp) (xs:List V) (us:List Value) (Q:VK),Inv X pins σ H s->D0 xs us->r xs H Q ->
  wpAny (model X.prog X.w) X.A (call f us) (EP X pins σ Q) X.xe s
def tOp(r:R2)(ta tb:TE):TE:=fun σ H Q=>ta σ H fun x H1=>tb σ H1 fun y H2=>r x y H2 Q
def rI(C:Int->Int->Prop)(g:Int->Int->V):R2:=fun x y H Q=>∃i j,x=.int i/\y=.int j/\C i j/\Q (g i j) H
def rI0(g:Int->Int->V):R2:=fun x y H Q=>∃i j,x=.int i/\y=.int j/\Q (g i j) H
section
variable {a b:Expr}{tb tc:TE}
theorem c3r(ha:PE X a ta)(hb:PE X b tb){R:V->V->Hp->Prop}(I:Inv X pins σ H s)
  (h:ta σ H fun x H1=>tb σ H1 fun y H2=>R x y H2) {Q:Value->d7->Prop} {f:Value->Value->Sem Value}
  (hf:∀v u s2 x y H2,Inv X pins σ H2 s2->C1 x v->C1 y u->R x y H2->wpAny (model X.prog X.w) X.A (f v u) Q X.xe s2) :
  wpAny (model X.prog X.w) X.A (eval a X.env) (fun v s₁=>wpAny (model X.prog X.w) X.A (eval b X.env) (fun u s₂=>wpAny (model X.prog X.w) X.A (f v u) Q X.xe s₂) X.xe s₁) X.xe s:=by
 refine thn (ha pins s σ H _ I h) fun v s1 ⟨x,H1,I1,r1,q1⟩=>?_
 refine thn (hb pins s1 σ H1 _ I1 q1) fun u s2 ⟨y,H2,I2,r2,q2⟩=>?_
 exact hf v u s2 x y H2 I2 r1 r2 q2
theorem c4A{op:b6q}(ho:OpR X (Q6 op) r)(ha:PE X a ta)(hb:PE X b tb):PE X (.BinOp a op b pos) (tOp r ta tb):=by
 intro pins s σ H Q I h
 exact wpAny_BinOp (c3r ha hb I h fun v u s2 x y H2 I2 rx ry q=>ho pins s2 σ H2 x y v u Q I2 rx ry q)
theorem opI{f:Value->Value->Sem Value}{C:Int->Int->Prop}{g:Int->Int->Int}
  (rule:∀(i j:Int) (t u:Tok) (s:d7) (Q:Value->d7->Prop) (E:Value->d7->Prop),C i j->Q (.int (g i j) s.toks) { s with toks:=s.toks+1 }->wpAny (model X.prog X.w) X.A (f (.int i t) (.int j u)) Q E s) :
  OpR X f (rI C fun i j=>.int (g i j)):=by
 intro pins s σ H x y v u Q I rx ry h
 obtain⟨i,j,rfl,rfl,hc,q⟩:=h
 obtain⟨t,rfl⟩:=rx
 obtain⟨t',rfl⟩:=ry
 exact rule i j t t' s _ _ hc ⟨.int (g i j),H,I.tok _,⟨_,rfl⟩,q⟩
theorem c4L{f:Value->Value->Sem Value}{g:Int->Int->Int}
  (rule:∀(i j:Int) (t u:Tok) (s:d7) (Q:Value->d7->Prop) (E:Value->d7->Prop),Q (.int (g i j) s.toks) { s with toks:=s.toks+1 }->wpAny (model X.prog X.w) X.A (f (.int i t) (.int j u)) Q E s) :
  OpR X f (rI0 fun i j=>.int (g i j)):=by
 intro pins s σ H x y v u Q I rx ry h
 obtain⟨i,j,rfl,rfl,q⟩:=h
 obtain⟨t,rfl⟩:=rx
 obtain⟨t',rfl⟩:=ry
 exact rule i j t t' s _ _ ⟨.int (g i j),H,I.tok _,⟨_,rfl⟩,q⟩
theorem c0q{f:Value->Value->Sem Value}{g:Int->Int->Bool}
  (rule:∀(i j:Int) (t u:Tok) (s:d7) (Q:Value->d7->Prop) (E:Value->d7->Prop),Q (.bool (g i j)) s->wpAny (model X.prog X.w) X.A (f (.int i t) (.int j u)) Q E s) :
  OpR X f (rI0 fun i j=>.bl (g i j)):=by
 intro pins s σ H x y v u Q I rx ry h
 obtain⟨i,j,rfl,rfl,q⟩:=h
 obtain⟨t,rfl⟩:=rx
 obtain⟨t',rfl⟩:=ry
 exact rule i j t t' s _ _ ⟨.bl (g i j),H,I,rfl,q⟩
def c4W(i j:Int):Prop:=0<=j/\j<=1000000/\i.natAbs<2 ^ 64
def c1a(i j:Int):Prop:=(-(2 ^ 64)<i/\i<2 ^ 64)\/(-(2 ^ 64)<j/\j<2 ^ 64)
theorem c1a.ok{i j:Int}(h:c1a i j):IntMulOk i j:=by
 rcases h with ⟨h1,h2⟩ | ⟨h1,h2⟩
 ·exact .of_left (intBits_le_64 h1 h2)
 ·exact .of_right (intBits_le_64 h1 h2)
theorem c2S:OpR X (Q6 .Add) (rI0 fun i j=>.int (i+j)):=c4L fun _ _ _ _ _ _ _ q=>add_int q
theorem c2E:OpR X (Q6 .Sub) (rI0 fun i j=>.int (i - j)):=c4L fun _ _ _ _ _ _ _ q=>sub_int q
theorem c2O:OpR X (Q6 .Mult) (rI c1a fun i j=>.int (i * j)):=opI fun _ _ _ _ _ _ _ hc q=>mul_int q hc.ok
theorem c2P:OpR X (Q6 .Mod) (rI (fun _ j=>0<j) fun i j=>.int (i % j)):=opI fun i j _ _ _ _ _ hc q=>by
 have h1:(0:Int)<j:=hc
 exact mod_int' (by omega) (by rw[Int.fmod_eq_emod_of_nonneg i (by omega)];exact q)
theorem c2N:OpR X (Q6 .Pow) (rI c4W fun i j=>.int (i ^ j.toNat)):=opI fun _ _ _ _ _ _ _ hc q=>pow_int_small hc.1 hc.2.1 hc.2.2 q
end
def b1p:V->V->Bool
 | .non,.non=>true | .non,.int _=>true | .int _,.non=>true | .non,.bl _=>true | .bl _,.non=>true | .non,.str _=>true | .str _,.non=>true
 | .int _,.int _=>true | .bl _,.bl _=>true | .str _,.str _=>true | .byt _,.byt _=>true
 | .int _,.str _=>true | .str _,.int _=>true | .bl _,.str _=>true | .str _,.bl _=>true
 | _,_=>false
def rEq:R2:=fun x y H Q=>b1p x y=true/\Q (.bl (decide (x=y))) H
def rNe:R2:=fun x y H Q=>b1p x y=true/\Q (.bl (!decide (x=y))) H
theorem b4K{i j:Int}:decide (V.int i=V.int j)=(i == j):=by
 rw[a1m]
 simp
theorem b8I{i j:Bool}:decide (V.bl i=V.bl j)=(i == j):=by
 rw[a1m]
 simp
theorem b4J{i j:Str}:decide (V.str i=V.str j)=(i == j):=by
 rw[a1m]
 simp
theorem b4L{i j:Array UInt8}:decide (V.byt i=V.byt j)=(i.toList == j.toList):=by
 rw[a1m]
 cases i
 cases j
 simp
section
variable {a b:Expr}{tb tc:TE}
theorem F4{Q:VK}{k k':Bool}(I:Inv X pins σ H s)(q:Q (.bl k) H)(e:k=k'):EP X pins σ Q (.bool k') s:=by
 subst e
 exact⟨.bl k,H,I,rfl,q⟩
theorem c4K:OpR X (o4 .Eq) rEq:=by
 intro pins s σ H x y v u Q I rx ry h
 obtain⟨hs,q⟩:=h
 cases x with
 | non=>
  cases rx
  cases y with
  | non=>cases ry;exact PySem.EqNone.eq_none_none (F4 I q (by simp))
  | bl j=>cases ry;exact PySem.EqNone.eq_none_bool (F4 I q (by simp))
  | int j=>obtain⟨t',rfl⟩:=ry;exact PySem.EqNone.eq_none_int (F4 I q (by simp))
  | str j=>obtain⟨t',rfl⟩:=ry;exact PySem.EqNone.eq_none_str (F4 I q (by simp))
  | _=>exact absurd (show false=true from hs) j7
 | bl i=>
  cases rx
  cases y with
  | non=>cases ry;exact PySem.EqNone.eq_bool_none (F4 I q (by simp))
  | bl j=>cases ry;exact eq_bool (F4 I q b8I)
  | str j=>obtain⟨t',rfl⟩:=ry;exact PySem.EqMixed.eq_bool_str (F4 I q (by simp))
  | _=>exact absurd (show false=true from hs) j7
 | int i=>
  obtain⟨t,rfl⟩:=rx
  cases y with
  | non=>cases ry;exact PySem.EqNone.eq_int_none (F4 I q (by simp))
  | int j=>obtain⟨t',rfl⟩:=ry;exact eq_int (F4 I q b4K)
  | str j=>obtain⟨t',rfl⟩:=ry;exact PySem.EqMixed.eq_int_str (F4 I q (by simp))
  | _=>exact absurd (show false=true from hs) j7
 | str i=>
  obtain⟨t,rfl⟩:=rx
  cases y with
  | non=>cases ry;exact PySem.EqNone.eq_str_none (F4 I q (by simp))
  | bl j=>cases ry;exact PySem.EqMixed.eq_str_bool (F4 I q (by simp))
  | int j=>obtain⟨t',rfl⟩:=ry;exact PySem.EqMixed.eq_str_int (F4 I q (by simp))
  | str j=>obtain⟨t',rfl⟩:=ry;exact eq_str (F4 I q b4J)
  | _=>exact absurd (show false=true from hs) j7
 | byt i=>
  obtain⟨t,rfl⟩:=rx
  cases y with
  | byt j=>obtain⟨t',rfl⟩:=ry;exact PySem.W.eq_bytes (F4 I q b4L)
  | _=>exact absurd (show false=true from hs) j7
 | _=>cases y <;> exact absurd (show false=true from hs) j7
theorem c4F:OpR X (o4 .NotEq) rNe:=by
 intro pins s σ H x y v u Q I rx ry h
 obtain⟨hs,q⟩:=h
 cases x with
 | non=>
  cases rx
  cases y with
  | non=>cases ry;exact PySem.EqNone.ne_none_none (F4 I q (by simp))
  | bl j=>cases ry;exact PySem.EqNone.ne_none_bool (F4 I q (by simp))
  | int j=>obtain⟨t',rfl⟩:=ry;exact PySem.EqNone.ne_none_int (F4 I q (by simp))
  | str j=>obtain⟨t',rfl⟩:=ry;exact PySem.EqNone.ne_none_str (F4 I q (by simp))
  | _=>exact absurd (show false=true from hs) j7
 | bl i=>
  cases rx
  cases y with
  | non=>cases ry;exact PySem.EqNone.ne_bool_none (F4 I q (by simp))
  | bl j=>cases ry;exact ne_bool (F4 I q (congrArg not b8I))
  | str j=>obtain⟨t',rfl⟩:=ry;exact PySem.EqMixed.ne_bool_str (F4 I q (by simp))
  | _=>exact absurd (show false=true from hs) j7
 | int i=>
  obtain⟨t,rfl⟩:=rx
  cases y with
  | non=>cases ry;exact PySem.EqNone.ne_int_none (F4 I q (by simp))
  | int j=>obtain⟨t',rfl⟩:=ry;exact ne_int (F4 I q (congrArg not b4K))
  | str j=>obtain⟨t',rfl⟩:=ry;exact PySem.EqMixed.ne_int_str (F4 I q (by simp))
  | _=>exact absurd (show false=true from hs) j7
 | str i=>
  obtain⟨t,rfl⟩:=rx
  cases y with
  | non=>cases ry;exact PySem.EqNone.ne_str_none (F4 I q (by simp))
  | bl j=>cases ry;exact PySem.EqMixed.ne_str_bool (F4 I q (by simp))
  | int j=>obtain⟨t',rfl⟩:=ry;exact PySem.EqMixed.ne_str_int (F4 I q (by simp))
  | str j=>obtain⟨t',rfl⟩:=ry;exact ne_str (F4 I q (congrArg not b4J))
  | _=>exact absurd (show false=true from hs) j7
 | byt i=>
  obtain⟨t,rfl⟩:=rx
  cases y with
  | byt j=>obtain⟨t',rfl⟩:=ry;exact PySem.W.ne_bytes (F4 I q (congrArg not b4L))
  | _=>exact absurd (show false=true from hs) j7
 | _=>cases y <;> exact absurd (show false=true from hs) j7
theorem c4G:OpR X (o4 .Lt) (rI0 fun i j=>.bl (decide (i<j))):=c0q fun _ _ _ _ _ _ _ q=>lt_int q
theorem c4H:OpR X (o4 .LtE) (rI0 fun i j=>.bl (decide (i<=j))):=c0q fun _ _ _ _ _ _ _ q=>le_int q
theorem c4I:OpR X (o4 .Gt) (rI0 fun i j=>.bl (decide (j<i))):=c0q fun _ _ _ _ _ _ _ q=>gt_int q
theorem c4J:OpR X (o4 .GtE) (rI0 fun i j=>.bl (decide (j<=i))):=c0q fun _ _ _ _ _ _ _ q=>ge_int q
theorem b5C:OpR X (o4 .In) (fun x y H Q=>∃i j,x=.str i/\y=.str j/\Q (.bl (!(Builtin.Str.occurrences j i 0 j.length 1).isEmpty)) H):=by
 intro pins s σ H x y v u Q I rx ry h
 obtain⟨i,j,rfl,rfl,q⟩:=h
 obtain⟨t,rfl⟩:=rx
 obtain⟨t',rfl⟩:=ry
 exact in_str (F4 I q rfl)
theorem c2Q:OpR X (o4 .Is) (fun x y H Q=>y=.non/\Q (.bl (decide (x=.non))) H):=by
 intro pins s σ H x y v u Q I rx ry h
 obtain⟨rfl,q⟩:=h
 cases ry
 refine is_none_gen (F4 I q ?_)
 cases x <;> first
  | (cases rx;rfl)
  | (obtain⟨t,rfl⟩:=rx;rfl)
theorem OpR.or{f:Value->Value->Sem Value}{r':R2}(h:OpR X f r)(h':OpR X f r'):OpR X f (fun x y H Q=>r x y H Q\/r' x y H Q):=by
 intro pins s σ H x y v u Q I rx ry q
 rcases q with q | q
 ·exact h pins s σ H x y v u Q I rx ry q
 ·exact h' pins s σ H x y v u Q I rx ry q
theorem a8e(b:Expr){op:CmpOp}(h:op≠.In:=by decide)(h2:op≠.NotIn:=by decide):L6 op b=false:=by
 have e1:(op == CmpOp.In)=false:=by cases op <;> first | rfl | exact absurd rfl h
 have e2:(op == CmpOp.NotIn)=false:=by cases op <;> first | rfl | exact absurd rfl h2
 cases b <;> simp[L6,e1,e2]
theorem c0d{op:CmpOp}(ho:OpR X (o4 op) r)(ha:PE X a ta)(hb:PE X b tb)(hm:L6 op b=false):PE X (.Compare a [op] [b] pos) (tOp r ta tb):=by
 intro pins s σ H Q I h
 exact wpAny_Compare1 (c3r ha hb I h fun v u s2 x y H2 I2 rx ry q=>ho pins s2 σ H2 x y v u Q I2 rx ry q) hm
def A7(t:TE):TT:=fun σ H Q=>t σ H fun x H'=>∃k,x=.bl k/\Q k H'
theorem b9N{op:CmpOp}(ho:OpR X (o4 op) r)(ha:PE X a ta)(hb:PE X b tb)(hm:L6 op b=false):PT X (.Compare a [op] [b] pos) (A7 (tOp r ta tb)):=by
 intro pins s σ H Q I h
 refine c3Q (thn (ha pins s σ H _ I h) fun v s1 ⟨x,H1,I1,r1,q1⟩=>thn (hb pins s1 σ H1 _ I1 q1) fun u s2 ⟨y,H2,I2,r2,q2⟩=>
  thn (ho pins s2 σ H2 x y v u _ I2 r1 r2 q2) fun c s3 ⟨z,H3,I3,r3,k,e,q3⟩=>?_) hm
 subst e
 cases r3
 exact G5 ⟨H3,I3,q3⟩
def a2k(r r':R2)(ta tb tc:TE):TE:=fun σ H Q=>ta σ H fun x H1=>tb σ H1 fun y H2=>r x y H2 fun z H3=>∃k,z=.bl k /\
 (if k=true then tc σ H3 fun w' H4=>r' y w' H4 Q else Q (.bl false) H3)
theorem b7Y{op op':CmpOp}{r':R2}(ho:OpR X (o4 op) r)(ho':OpR X (o4 op') r')(ha:PE X a ta)(hb:PE X b tb)(hc:PE X c tc)
  (hm:c3S [op,op'] [b,c]=false:=by with_unfolding_all rfl):PE X (.Compare a [op,op'] [b,c] pos) (a2k r r' ta tb tc):=by
 intro pins s σ H Q I h
 refine Compare_chain (thn (ha pins s σ H _ I h) fun v s1 ⟨x,H1,I1,r1,q1⟩=>chain_link (thn (hb pins s1 σ H1 _ I1 q1) fun u s2 ⟨y,H2,I2,r2,q2⟩=>
  thn (ho pins s2 σ H2 x y v u _ I2 r1 r2 q2) fun d s3 ⟨z,H3,I3,r3,k,e,q3⟩=>?_)) hm
 subst e
 cases r3
 refine G5 ?_
 cases k with
 | false=>exact ite_ff ⟨.bl false,H3,I3,rfl,q3⟩
 | true=>exact ite_tt (chain_last (thn (hc pins s3 σ H3 _ I3 q3) fun w' s4 ⟨z',H4,I4,r4,q4⟩=>ho' pins s4 σ H4 y z' u w' Q I4 r2 r4 q4))
theorem b7N{op op':CmpOp}{r':R2}(ho:OpR X (o4 op) r)(ho':OpR X (o4 op') r')(ha:PE X a ta)(hb:PE X b tb)(hc:PE X c tc)
  (hm:c3S [op,op'] [b,c]=false:=by with_unfolding_all rfl):PT X (.Compare a [op,op'] [b,c] pos) (A7 (a2k r r' ta tb tc)):=by
 intro pins s σ H Q I h
 refine isTrue_chain (thn (ha pins s σ H _ I h) fun v s1 ⟨x,H1,I1,r1,q1⟩=>test_link (thn (hb pins s1 σ H1 _ I1 q1) fun u s2 ⟨y,H2,I2,r2,q2⟩=>
  thn (ho pins s2 σ H2 x y v u _ I2 r1 r2 q2) fun d s3 ⟨z,H3,I3,r3,k,e,q3⟩=>?_)) hm
 subst e
 cases r3
 refine G5 ?_
 cases k with
 | false=>
  obtain⟨k',e',q'⟩:=q3
  cases e'
  exact ite_ff ⟨H3,I3,q'⟩
 | true=>
  refine ite_tt (test_last (thn (hc pins s3 σ H3 _ I3 q3) fun w' s4 ⟨z',H4,I4,r4,q4⟩=>thn (ho' pins s4 σ H4 y z' u w' _ I4 r2 r4 q4) fun d' s5 ⟨z2,H5,I5,r5,k2,e2,q5⟩=>?_))
  subst e2
  cases r5
  exact G5 ⟨H5,I5,q5⟩
theorem a4A:(g9:Nat)<2 ^ 63:=by rw[sizeLine_eq];decide
theorem b3o:OpR X (Q6 .Add) (fun x y H Q=>∃i j,x=.str i/\y=.str j/\i.length+j.length<=g9/\Q (.str (i++j)) H):=by
 intro pins s σ H x y v u Q I rx ry h
 obtain⟨i,j,rfl,rfl,hz,q⟩:=h
 obtain⟨t,rfl⟩:=rx
 obtain⟨t',rfl⟩:=ry
 exact add_str (fun t' tk=>⟨.str (i++j),H,I.tok _,⟨_,rfl⟩,q⟩) hz
theorem a1V{x:V}(r:D0 [x] us):∃u,us=[u]/\C1 x u:=by
 cases r with
 | cons r1 r2=>cases r2;exact⟨_,rfl,r1⟩
theorem b6Q{x:V}(r:D0 [x,y] us):∃u w',us=[u,w']/\C1 x u/\C1 y w':=by
 cases r with
 | cons r1 r2=>
  cases r2 with
  | cons r3 r4=>cases r4;exact⟨_,_,rfl,r1,r3⟩
theorem b8N:O7 X (.builtin "abs") (fun xs H Q=>∃i,xs=[.int i]/\Q (.int (if i<0 then -i else i)) H):=by
 intro pins s σ H xs us Q I r h
 obtain⟨i,rfl,q⟩:=h
 obtain⟨u,rfl,t,rfl⟩:=a1V r
 exact call_abs_int fun u tk=>⟨.int (if i<0 then -i else i),H,I.tok _,⟨_,rfl⟩,q⟩
theorem b6j(hc:X.calm=true):O7 X (.builtin "min") (fun xs H Q=>∃i j,xs=[.int i,.int j]/\Q (.int (if j<i then j else i)) H):=by
 intro pins s σ H xs us Q I r h
 obtain⟨i,j,rfl,q⟩:=h
 obtain⟨u,w',rfl,⟨t,rfl⟩,⟨t',rfl⟩⟩:=b6Q r
 refine min_two_ints (I.ok.hd hc) fun h' tk k=>⟨_,H,I.kept k,?_,q⟩
 by_cases hj:j<i
 ·rw[if_pos hj,if_pos hj];exact⟨_,rfl⟩
 ·rw[if_neg hj,if_neg hj];exact⟨_,rfl⟩
theorem b0v:O7 X (.type "str") (fun xs H Q=>∃i,xs=[.int i]/\i.natAbs.log2<1920/\Q (.str (toString i)) H):=by
 intro pins s σ H xs us Q I r h
 obtain⟨i,rfl,hz,q⟩:=h
 obtain⟨u,rfl,t,rfl⟩:=a1V r
 exact PySem.P.str_of_int hz ⟨.str _,H,I.tok _,⟨_,rfl⟩,q⟩
end
structure b3Y(h:Heap)(x dx C:Addr)(mA:Str->Option Value):Prop where
 obj:h.get? x=some (Q5 C dx)
 ns:h.Ns1 dx mA
 ne:dx≠x
theorem b5N{mA:Str->Option Value}(n:h.Ns1 dx mA):∃od,h.get? dx=some od/\∀name,a3O name od=some (mA name):=by
 obtain⟨o,es,ep,ho,hd,hk,_,hm⟩:=n
 refine⟨o,ho,fun name=>?_⟩
 have e:=hm name
 unfold nsFind findBy at e
 rw[<-Array.find?_toList]at e
 unfold a3O
 rw[hd]
 dsimp only
 split
 ·rename_i y q
  rw[q]at e
  exact congrArg some e
 ·rename_i q
  rw[q]at e
  have a:es.toList.any (·.refKey)=false:=by
   rw[List.any_eq_false]
   intro y hy
   obtain⟨z,t,hkey⟩:=hk y (Array.mem_toList_iff.mp hy)
   simp[DictEntry.refKey,hkey]
  have a':¬es.toList.any (·.refKey)=true:=by rw[a];exact j7
  rw[if_neg a']
  exact congrArg some e
theorem b3Y.look{x:Addr}{mA:Str->Option Value}(I:b3Y h x dx C mA):∃od,PySem.W.InstAt h x (Q5 C dx) C (some od)/\∀name,a3O name od=some (mA name):=
 let⟨od,ho,hl⟩:=b5N I.ns
 ⟨od,⟨I.obj,rfl,rfl,ho⟩,hl⟩
section
variable {prog:v0}{A:F7}{E:Value->d7->Prop}{K:Fg}{x:Addr}{mA:Str->Option Value}{name:Str}{v:Value}
theorem c0L{expr:Bool}(X:K.In s.heap)(I:b3Y s.heap x dx C mA)(hg:a0M K C name=true)(hh:a1S K C=true)
  (ha:z6 K (.ref C) name=some none) (hv:mA name=some v) (hv':b8U v=true) (h:Q v { s with toks:=s.toks+1 }) :
  wpAny (model prog w) A (getAttr (.ref x) name expr) Q E s:=by
 obtain⟨od,J,hl⟩:=I.look
 exact PySem.W.get_value X J (a4E hg).1 (PySem.W.findObj_own hh ha rfl (by rw[hl,hv])) hv' h
theorem b8z{pl:Sem Bool}{Q:Value×List Value->d7->Prop}(X:K.In s.heap)(I:b3Y s.heap x dx C mA)(hg:a0M K C name=true)
  (hf:z6 K (.ref C) name=some (some (.ref f))) (ht:a6p K (.ref f)=true) (hv:mA name=none) (h:Q (.ref f,[.ref x]) s) :
  wpAny (model prog w) A (b6x (.ref x) name pl) Q E s:=by
 obtain⟨od,J,hl⟩:=I.look
 exact PySem.W.method_fn X J (a4E hg).1 (a4E hg).2 hf (beq_iff_eq.mp ht) (by show(a3O name od).map (·.isSome)=some false;rw[hl,hv];rfl) h
theorem b9t{ns:List Str}{Q:Unit->d7->Prop}(X:K.In s.heap)(I:b3Y s.heap x dx C mA)
  (hs:z6 K (.ref C) "__setattr__" = some (some (.builtin "object.__setattr__"))) (hp:a6n K C=true) (ht:a8z K C name=some none) (hh:a1S K C=true)
  (hw:PySem.Within mA ns) (hsz:ns.length<=g9)
  (h:∀h',b3Y h' x dx C (fun y=>if y=name then some v else mA y)->Heap.SameBut dx s.heap h'->Q () { s with heap:=h',toks:=s.toks+2 }) :
  wpAny (model prog w) A (setAttr (.ref x) name v) Q E s:=by
 obtain⟨od,J,hl⟩:=I.look
 refine PySem.W.set_plain X J hs (PySem.W.osa_open (s:={ s with toks:=s.toks+1 }) (r:=none) X J hp ht fun b=>?_)
 obtain⟨cd,hc,hd'⟩:=PySem.W.any_some hh
 have hx:s.heap.get? x=some ⟨.ref C,some dx,.plain,#[]⟩:=I.obj
 refine l6 (z7 (l6 (l6 (wpAny_loadPart hx (l6 (PySem.W.Looks.here (s:={ s with toks:=s.toks+1 }) (PySem.W.looks_clsIn X hc) ?_))))))
 rw[hd']
 refine z7 (a:=some dx) (l6 (z7 (l6 ?_)))
 refine wpAny_nsSet1 (s:={ s with toks:=s.toks+1 }) I.ns fun h' hn2 hs2=>?_
 obtain⟨oD,esD,epD,hoD,hdD,hcD⟩:=hn2.count (PySem.Within.cons name v hw)
 refine l6 (wpAny_lookBehind hoD (by rw[hdD];exact pastItsLine_dict (v9 hcD (by rw[q9];omega))) ?_)
 exact z7 (h _ ⟨(hs2.2 _ (Ne.symm I.ne)).trans I.obj,hn2,I.ne⟩ hs2)
theorem b8p{R:c3U->d7->Prop}{vs:List Value}(X:K.In s.heap)(hm:a2S K C=true)
  (hi:z6 K (.ref C) "__init__" = some (some (.ref f))) (hf:PySem.W.typeIn K (.ref f)=some (.type "function"))
  (h:a5E (model prog w) (A.under (.builtin "type.__call__" ⟨.ref C::vs,kw⟩)) (.call (.ref f) ⟨.ref (s.heap.objs.size+1)::vs,kw⟩) (PySem.W.InitBack (s.heap.objs.size+1) R)
   { s with heap:=(s.heap.push K0).push (Q5 C s.heap.objs.size) }) :
  a5E (model prog w) A (.call (.ref C) ⟨vs,kw⟩) R s:=by
 obtain⟨hh,g,d,t,os⟩:=s
 exact PySem.W.make_core (PySem.W.makes_of X hm) (PySem.W.looks_findIn X hi) (fun self=>PySem.W.bind_fn X self hf) (.inl rfl) h
end
def a1q(f:Str)(v:V):List (Str×V)->List (Str×V)
 | []=>[(f,v)]
 | (g,x)::r=>if g=f then (g,v)::r else (g,x)::a1q f v r
theorem a6w(f g:Str)(v:V):∀fs:List (Str×V),(a1q f v fs).lookup g=if g=f then some v else fs.lookup g
 | []=>by
  show a0Y g [(f,v)]=_
  by_cases h:g=f
  ·have hb:(g == f)=true:=beq_iff_eq.mpr h
   simp only[a0Y,hb,if_pos h]
  ·have hb:(g == f)=false:=beq_eq_false_iff_ne.mpr h
   simp only[a0Y,hb,if_neg h]
 | (k,x)::r=>by
  have ih:=a6w f g v r
  rw[show a1q f v ((k,x)::r)=(if k=f then (k,v)::r else (k,x)::a1q f v r)from rfl]
  by_cases hk:k=f
  ·rw[if_pos hk]
   by_cases h:g=k
   ·have hb:(g == k)=true:=beq_iff_eq.mpr h
    simp only[a0Y,hb,if_pos (h.trans hk)]
   ·have hb:(g == k)=false:=beq_eq_false_iff_ne.mpr h
    simp only[a0Y,hb,if_neg (fun e:g=f=>h (e.trans hk.symm))]
  ·rw[if_neg hk]
   by_cases h:g=k
   ·have hb:(g == k)=true:=beq_iff_eq.mpr h
    simp only[a0Y,hb,if_neg (fun e:g=f=>hk (h.symm.trans e))]
   ·have hb:(g == k)=false:=beq_eq_false_iff_ne.mpr h
    simp only[a0Y,hb]
    exact ih
theorem a6e(f:Str)(v:V):∀fs:List (Str×V),f∈(a1q f v fs).map (·.1)/\∀g,g∈fs.map (·.1)->g∈(a1q f v fs).map (·.1)
 | []=>⟨by simp[a1q],fun g h=>by simp at h⟩
 | (k,x)::r=>by
  obtain⟨i1,i2⟩:=a6e f v r
  rw[show a1q f v ((k,x)::r)=(if k=f then (k,v)::r else (k,x)::a1q f v r)from rfl]
  by_cases hk:k=f
  ·rw[if_pos hk]
   subst hk
   exact⟨by simp,fun g h=>by simpa using h⟩
  ·rw[if_neg hk]
   refine⟨?_,fun g h=>?_⟩
   ·rw[C4]
    exact t8 _ i1
   ·rw[C4]at h ⊢
    rcases c7.mp h with e | e
    ·exact c7.mpr (.inl e)
    ·exact t8 _ (i2 g e)
theorem a6x(f:Str)(v:V):∀fs:List (Str×V),(a1q f v fs).length<=fs.length+1
 | []=>by simp[a1q]
 | (k,x)::r=>by
  have ih:=a6x f v r
  rw[show a1q f v ((k,x)::r)=(if k=f then (k,v)::r else (k,x)::a1q f v r)from rfl]
  by_cases hk:k=f
  ·rw[if_pos hk,q9,q9];omega
  ·rw[if_neg hk,q9,q9];omega
theorem a5v.some_of{o:Option Value}(r:a5v (some v) o):∃u,o=some u/\C1 v u:=by
 cases o with
 | none=>exact(show False from r).elim
 | some u=>exact⟨u,rfl,r⟩
theorem a5v.none_of{o:Option Value}(r:a5v none o):o=none:=by
 cases o with
 | none=>rfl
 | some u=>exact(show False from r).elim
theorem b5V(r:C1 v u):b8U u=true:=by
 cases v with
 | non=>cases (show u=Value.none from r);rfl
 | bl b=>cases (show u=Value.bool b from r);rfl
 | int i=>obtain⟨t,e⟩:=(show ∃t,u=Value.int i t from r);cases e;rfl
 | str x=>obtain⟨t,e⟩:=(show ∃t,u=Value.str x t from r);cases e;rfl
 | byt b=>obtain⟨t,e⟩:=(show ∃t,u=Value.bytes b t from r);cases e;rfl
 | flt b=>obtain⟨t,e⟩:=(show ∃t,u=Value.float b t from r);cases e;rfl
 | ref a=>cases (show u=Value.ref a from r);rfl
 | ty n=>cases (show u=Value.type n from r);rfl
section
variable {P:v0}{fs fs':List (Str×V)}
theorem a7e(hok:HOk P w H h)(e:H a=some (.ins C dx fs)):∃mA,b3Y h a dx C mA/\(∀f,a5v (fs.lookup f) (mA f))/\PySem.Within mA (fs.map (·.1))/\fs.length<=1000/\H dx=some (.own a):=by
 obtain⟨d,z,ne,ob,mA,n,r,q⟩:=(show Q3 P w H h a (.ins C dx fs)from hok a _ e)
 exact⟨mA,⟨ob,n,ne⟩,r,q,z,d⟩
end
structure Cls(K:Fg)(C:Addr):Prop where
 pg:a0M K C Str.empty=true
 hd:a1S K C=true
 po:a6n K C=true
 sa:z6 K (.ref C) "__setattr__" = some (some (.builtin "object.__setattr__"))
theorem Cls.get{K:Fg}(c:Cls K C)(f:Str):a0M K C f=true:=c.pg
def a1l(K:Fg)(C:Addr)(f:Str):Prop:=z6 K (.ref C) f=some none
theorem a1l.taker{K:Fg}{f:Str}(n:a1l K C f):a8z K C f=some none:=by
 unfold a8z
 rw[show z6 K (.ref C) f=some none from n]
 rfl
structure Con(K:Fg)(C:Addr)(f:Str)(v:V)(u:Value):Prop where
 at_:z6 K (.ref C) f=some (some u)
 rel:C1 v u
 get:a1R K u "__get__" = some none
 cp:PySem.W.copiedNames.contains f=false
structure c3x(K:Fg)(C:Addr)(m:Str)(f:Addr):Prop where
 at_:z6 K (.ref C) m=some (some (.ref f))
 fn:a6p K (.ref f)=true
 kp:O6 K (.ref f)=true
section
variable {fs:List (Str×V)}{f:Str}{A:F7}{E:Value->d7->Prop}
theorem b3E{b:Bool}(I:Inv X pins σ H s)(e:H a=some (.ins C dx fs))(c:Cls X.K C)(n:a1l X.K C f)(l:fs.lookup f=some v)
  (h:∀u s',Inv X pins σ H s'->C1 v u->Q u s'):wpAny (model X.prog X.w) A (getAttr (.ref a) f b) Q E s:=by
 obtain⟨mA,O,r,_,_,_⟩:=a7e I.hok e
 obtain⟨u,hu,ru⟩:=a5v.some_of (v:=v) (o:=mA f) (by rw[<-l];exact r f)
 exact c0L I.kIn O (c.get f) c.hd n hu (b5V ru) (h u _ (I.tok _) ru)
theorem b3D{m:Str}{g:Addr}{pl:Sem Bool}{Q:Value×List Value->d7->Prop}(I:Inv X pins σ H s)(e:H a=some (.ins C dx fs))(c:Cls X.K C)(k:c3x X.K C m g)(l:fs.lookup m=none)
  (h:Q (.ref g,[.ref a]) s):wpAny (model X.prog X.w) A (b6x (.ref a) m pl) Q E s:=by
 obtain⟨mA,O,r,_,_,_⟩:=a7e I.hok e
 have hn:mA m=none:=a5v.none_of (by rw[<-l];exact r m)
 exact b8z I.kIn O (c.get m) k.at_ k.fn hn h
theorem b2N{Q:Unit->d7->Prop}(I:Inv X pins σ H s)(e:H a=some (.ins C dx fs))(c:Cls X.K C)(n:a1l X.K C f)(hl:fs.length<1000)(ry:C1 y u)
  (h:∀s',Inv X pins σ (upd H a (.ins C dx (a1q f y fs))) s'->Q () s'):wpAny (model X.prog X.w) A (setAttr (.ref a) f u) Q E s:=by
 obtain⟨mA,O,r,wi,_,ho⟩:=a7e I.hok e
 have hz:(fs.map (·.1)).length<=g9:=by rw[a9,sizeLine_eq];omega
 refine b9t I.kIn O c.sa c.po n.taker c.hd wi hz fun h' O' sb=>h _ ?_
 have hd:∃o,h'.get? dx=some o:=let⟨o,_,_,e',_⟩:=O'.ns; ⟨o,e'⟩
 refine I.write (x:=a) (e:=dx) (by rw[e];exact True.intro) (.inr ho) (fun b q hb z=>(sb.2 b hb).trans z) hd ?_
 refine⟨by rw[c9 O.ne];exact ho,?_,O.ne,O'.obj,_,O'.ns,fun g=>?_,fun g hg=>?_⟩
 ·have:=a6x f y fs;omega
 ·show a5v ((a1q f y fs).lookup g) (if g=f then some u else mA g)
  rw[a6w]
  by_cases q:g=f
  ·rw[if_pos q,if_pos q];exact ry
  ·rw[if_neg q,if_neg q];exact r g
 ·by_cases q:g=f
  ·rw[q];exact(a6e f y fs).1
  ·refine(a6e f y fs).2 g (wi g fun z=>hg ?_)
   show(if g=f then some u else mA g)=none
   rw[if_neg q];exact z
theorem Inv.made(I:Inv X pins σ H s):Inv X pins σ (upd (upd H s.heap.objs.size (.own (s.heap.objs.size+1))) (s.heap.objs.size+1) (.ins C s.heap.objs.size []))
  { s with heap:=(s.heap.push K0).push (Q5 C s.heap.objs.size) }:=by
 have e1:(s.heap.push K0).get? s.heap.objs.size=some K0:=u6 s.heap rfl
 have e2:((s.heap.push K0).push (Q5 C s.heap.objs.size)).get? (s.heap.objs.size+1)=some (Q5 C s.heap.objs.size):=by
  have:=u6 (s.heap.push K0) (o:=Q5 C s.heap.objs.size) rfl
  rwa [c3O]at this
 have e3:(s.heap.push K0).Ns s.heap.objs.size (fun _=>none):=⟨K0,#[],_,e1,rfl,(fun e he=>absurd he (by simp)),fun _=>rfl⟩
 have I1:=I.laid (a:=s.heap.objs.size) (o:=.own (s.heap.objs.size+1)) (h':=s.heap.push K0) (t':=s.toks) (fun b u q=>d8 _ q) (d5 _) ⟨_,e1⟩
 refine I1.laid (a:=s.heap.objs.size+1) (o:=.ins C s.heap.objs.size []) (t':=s.toks) (fun b u q=>d8 _ q) (Nat.le_of_eq (c3O _ _)) ?_
 have ne:s.heap.objs.size≠s.heap.objs.size+1:=t5 (c3C _)
 refine⟨by rw[c9 ne,c5],J8 _,ne,e2,fun _=>none,(Heap.Ns1.of_empty e3).at fun o q=>d8 _ q,fun _=>True.intro,fun y hy=>absurd rfl hy⟩
theorem c0S{prog:v0}{env:Env}(hb:W8 e f env (eval e env)=eval e env)
  (h:wpAny (model prog w) A (eval e env) (fun o s₁=>wpAny (model prog w) A (getAttr o f true) Q E s₁) E s):wpAny (model prog w) A (eval (.Attribute e f pos) env) Q E s:=
 Attribute_any_ h (by rw[arm_eval_Attribute,hb])
end
def a7E(K:Fg)(ta:TE)(f:Str):TE:=fun σ H Q=>ta σ H fun x H1=>∃a C dx fs v,x=.ref a/\H1 a=some (.ins C dx fs)/\Cls K C/\a1l K C f/\fs.lookup f=some v/\Q v H1
def b5s(K:Fg)(ta tv:TE)(f:Str):TS:=fun D σ H=>tv σ H fun y H1=>ta σ H1 fun x H2=>∃a C dx fs,x=.ref a/\H2 a=some (.ins C dx fs)/\Cls K C/\a1l K C f/\fs.length<1000 /\
 D.nx σ (upd H2 a (.ins C dx (a1q f y fs)))
section
variable {o value:Expr}{f:Str}{pos' tpos:Pos}{tv:TE}
theorem c2z(he:PE X e ta)(hb:W8 e f X.env (eval e X.env)=eval e X.env):PE X (.Attribute e f pos) (a7E X.K ta f):=by
 intro pins s σ H Q I h
 refine c0S hb (thn (he pins s σ H _ I h) fun u s1 ⟨x,H1,I1,rx,a,C,dx,fs,v,ex,ea,c,n,l,q⟩=>?_)
 subst ex
 obtain rfl:u=Value.ref a:=rx
 exact b3E I1 ea c n l fun u' s2 I2 ru=>⟨v,H1,I2,ru,q⟩
theorem c2j(ha:PE X o ta)(hv:PE X value tv)(hs:Z5 value (some (.Attribute o f pos')) pos.line X.env=pure false):PS X (.Assign [.Attribute o f pos'] value pos) (b5s X.K ta tv f):=by
 intro pins s σ H D I h
 refine plainObj_wpAny_Assign_Attribute (thn (hv pins s σ H _ I h) fun u s1 ⟨y,H1,I1,ry,q⟩=>thn (ha pins s1 σ H1 _ I1 q) fun ov s2 ⟨x,H2,I2,rx,a,C,dx,fs,ex,ea,c,n,l,q2⟩=>?_) hs
 subst ex
 obtain rfl:ov=Value.ref a:=rx
 exact b2N I2 ea c n l ry fun s3 I3=>⟨σ,_,I3,q2⟩
end
section
variable {A:F7}{E:Value->d7->Prop}{c:Value}{b:Bool}
inductive a6k(K:Fg)(H:Hp):V->Value->Prop where
 | non:a6k K H .non (.type "NoneType")
 | bl (x:Bool):a6k K H (.bl x) (.type "bool")
 | int (i:Int):a6k K H (.int i) (.type "int")
 | str (x:Str):a6k K H (.str x) (.type "str")
 | flt (x:UInt64):a6k K H (.flt x) (.type "float")
 | lst {a:Addr} {xs:List V} (e:H a=some (.lst xs)):a6k K H (.ref a) (.type "list")
 | frz {a:Addr} {o:Obj} {xs:List V} (e:H a=some (.frz o (.lst xs))):a6k K H (.ref a) (.type "list")
 | tup {a:Addr} {xs:List V} (e:H a=some (.tup xs)):a6k K H (.ref a) (.type "tuple")
 | dK {a:Addr} {kvs:List (Key×V)} (e:H a=some (.dK kvs)):a6k K H (.ref a) (.type "dict")
 | dT {a:Addr} {kvs:List (List Key×V)} (e:H a=some (.dT kvs)):a6k K H (.ref a) (.type "dict")
 | ins {a C dx:Addr} {fs:List (Str×V)} (e:H a=some (.ins C dx fs)) (cl:Cls K C) (ha:z6 K (.ref C) "__class__" = some (some (.builtin "object.__class__")))
   (hn:a1R K (.builtin "object.__class__") "__get__" = some (some (.builtin "getset_descriptor.__get__"))) (htk:a8y K (.builtin "object.__class__")=some true)
   (hm:b0K K C (.type "object")=some true):a6k K H (.ref a) (.ref C)
theorem a9k{x:V}{t:Value}(I:Inv X pins σ H s)(rx:C1 x u)(ty:a6k X.K H x t)(e:a3P X.K t c=some b)(h:∀tk,Q (.bool b) { s with toks:=tk }) :
  wpAny (model X.prog X.w) A (call (.builtin "isinstance") [u,c]) Q E s:=by
 cases ty with
 | non=>cases (show u=Value.none from rx);exact G7 PySem.W.kitx_none I.kIn True.intro e (fun z=>nomatch z) h
 | bl y=>cases (show u=Value.bool y from rx);exact G7 PySem.W.kitx_bool I.kIn True.intro e (fun z=>nomatch z) h
 | int i=>obtain⟨t,q⟩:=(show ∃t,u=Value.int i t from rx);cases q;exact G7 PySem.W.kitx_int I.kIn True.intro e (fun z=>nomatch z) h
 | str y=>obtain⟨t,q⟩:=(show ∃t,u=Value.str y t from rx);cases q;exact G7 PySem.W.kitx_str I.kIn True.intro e (fun z=>nomatch z) h
 | flt y=>obtain⟨t,q⟩:=(show ∃t,u=Value.float y t from rx);cases q;exact G7 PySem.W.kitx_float I.kIn True.intro e (fun z=>nomatch z) h
 | @lst a xs ea=>
  cases (show u=Value.ref a from rx)
  obtain⟨_,_,n,_,h1⟩:=(show Q3 X.prog X.w H s.heap a (.lst xs)from I.hok a _ ea)
  exact G7 b6r I.kIn ⟨_,h1,rfl⟩ e (fun z=>nomatch z) h
 | @frz a ob xs ea=>
  cases (show u=Value.ref a from rx)
  obtain⟨_,_,_,n,_,h1⟩:=(show Q3 X.prog X.w H s.heap a (.frz ob (.lst xs))from I.hok a _ ea)
  exact G7 b6r I.kIn ⟨_,h1,rfl⟩ e (fun z=>nomatch z) h
 | @tup a xs ea=>
  cases (show u=Value.ref a from rx)
  obtain⟨_,_,_,p⟩:=(show Q3 X.prog X.w H s.heap a (.tup xs)from I.hok a _ ea)
  obtain⟨o,h1,h2,_⟩:=p
  exact G7 PySem.W.kitx_tuple I.kIn ⟨o,h1,h2⟩ e (fun z=>nomatch z) h
 | @dK a kvs ea=>
  cases (show u=Value.ref a from rx)
  obtain⟨_,_,vs,_,p⟩:=(show Q3 X.prog X.w H s.heap a (.dK kvs)from I.hok a _ ea)
  obtain⟨o,es,ep,h1,h2,_⟩:=p
  exact G7 b6s I.kIn ⟨o,h1,h2.1⟩ e (fun z=>nomatch z) h
 | @dT a kvs ea=>
  cases (show u=Value.ref a from rx)
  obtain⟨_,_,xs,_,o,es,ep,h1,h2,_⟩:=(show Q3 X.prog X.w H s.heap a (.dT kvs)from I.hok a _ ea)
  exact G7 b6s I.kIn ⟨o,h1,h2.1⟩ e (fun z=>nomatch z) h
 | @ins a C dx fs ea cl ha hn htk hm=>
  cases (show u=Value.ref a from rx)
  obtain⟨mA,O,_⟩:=a7e I.hok ea
  obtain⟨od,J,_⟩:=O.look
  exact G7 (PySem.W.kitx_own (cl.get _) cl.hd ha hn htk hm) I.kIn J e (fun z=>nomatch z) h
end
structure O0(k:Nat)(A:F7):Prop where
 hd:A.handled=none
 dp:A.depth+3 * k+5<recursionLimit
 un:A.units+16 * k+200<cLine
 gd:A.guards=some []
theorem O0.mono{j k:Nat}{A:F7}(r:O0 k A)(h:j<=k):O0 j A:=⟨r.hd,by have:=r.dp;omega,by have:=r.un;omega,r.gd⟩
theorem O0.deeper{k:Nat}{A:F7}(r:O0 (k+1) A)(env:Env):O0 k (A.deeper env):=
 ⟨r.hd,by have:=r.dp;show A.depth+1+3 * k+5<_;omega,by have:=r.un;show A.units+3+16 * k+200<_;omega,r.gd⟩
theorem b3y{A:F7}:(A.under (.builtin "type.__call__" ⟨.ref C::us,kw⟩)).depth=A.depth+1:=by
 first | rfl | simp[Around.under,Code.weight,Code.isCreation,Code.isGuard,Code.isCaller,Code.frames,Code.isFrame,guardIds]
theorem b3x{A:F7}:(A.under (.builtin "type.__call__" ⟨.ref C::us,kw⟩)).units=A.units+1:=by
 first | rfl | simp[Around.under,Code.cUnits,Code.frames,Code.isFrame]
theorem b1U{A:F7}:(A.under (.builtin "type.__call__" ⟨.ref C::us,kw⟩)).guards=A.guards:=by
 first | rfl | simp[Around.under,Code.isGuard,guardIds,Code.guards]
theorem O0.make{k:Nat}{A:F7}(r:O0 (k+1) A)(C:Addr)(us:List Value)(kw:List (Str×Value)):O0 k (A.under (.builtin "type.__call__" ⟨.ref C::us,kw⟩)):=
 ⟨r.hd,by have:=r.dp;rw[b3y];omega,by have:=r.un;rw[b3x];omega,by rw[b1U];exact r.gd⟩
theorem O0.depth{k:Nat}{A:F7}(r:O0 k A):A.depth<recursionLimit:=by have:=r.dp;omega
theorem O0.units{k:Nat}{A:F7}(r:O0 k A):A.units+64<cLine:=by have:=r.un;omega
theorem O0.units0{k:Nat}{A:F7}(r:O0 k A):A.units<cLine:=by have:=r.un;omega
def c8:TA:=fun _ H Q=>Q [] H
def a8(ta:TE)(tr:TA):TA:=fun σ H Q=>ta σ H fun x H1=>tr σ H1 fun xs H2=>Q (x::xs) H2
section
variable {t:TA}
theorem c2D:PA X [] c8:=fun _ _ _ _ H Q I h=>Calls.spliced_nil ⟨[],H,I,.nil,h⟩
theorem c0g(ha:PE X e te)(hr:PA X es t)(hs:d4 (e::es) X.env=(false,eval e X.env)::d4 es X.env:=by rfl):PA X (e::es) (a8 te t):=by
 intro pos pins s σ H Q I h
 rw[hs]
 show wpAny _ _ (spliced ((false,eval e X.env)::V5 pos (d4 es X.env))) _ _ s
 refine Calls.spliced_cons (thn (ha pins s σ H _ I h) fun u s1 ⟨x,H1,I1,r1,q1⟩=>?_)
 exact thn (hr pos pins s1 σ H1 _ I1 q1) fun us s2 ⟨xs,H2,I2,r2,q2⟩=>⟨x::xs,H2,I2,.cons r1 r2,q2⟩
def a2Q(t:TA):TE:=fun σ H Q=>t σ H fun xs H1=>xs.length<=g9/\∀p,H1 p=none->Q (.ref p) (upd H1 p (.tup xs))
def S3(t:TA):TE:=fun σ H Q=>t σ H fun xs H1=>xs.length<=g9/\∀p,H1 p=none->Q (.ref p) (upd H1 p (.lst xs))
theorem c2q{x1}(h:PA X es t):PE X (.Tuple es x1 pos) (a2Q t):=by
 intro pins s σ H Q I hq
 refine wpAny_Tuple_spliced (thn (h pos pins s σ H _ I hq) fun us s1 ⟨xs,H1,I1,r,z,q⟩=>⟨by rw[<-r.length];exact z,?_⟩)
 have hf:H1 s1.heap.objs.size=none:=I1.hok.fresh (d5 _)
 refine⟨.ref s1.heap.objs.size,upd H1 s1.heap.objs.size (.tup xs),I1.laid (t':=s1.toks) (fun b u e=>d8 _ e) (d5 _) ?_,rfl,q _ hf⟩
 exact⟨z,us,r,⟨_,u6 _ rfl,rfl,_,rfl⟩⟩
theorem c2x(h:PA X es t):PE X (.List es pos) (S3 t):=by
 intro pins s σ H Q I hq
 refine wpAny_List_spliced (thn (h pos pins s σ H _ I hq) fun us s1 ⟨xs,H1,I1,r,z,q⟩=>⟨by rw[<-r.length];exact z,?_⟩)
 have hf:H1 s1.heap.objs.size=none:=I1.hok.fresh (d5 _)
 refine⟨.ref s1.heap.objs.size,upd H1 s1.heap.objs.size (.lst xs),I1.laid (t':=s1.toks) (fun b u e=>d8 _ e) (d5 _) ?_,rfl,q _ hf⟩
 exact⟨z,us,0,r,u6 _ rfl⟩
end
abbrev Sp:=List V->Hp->VK->XK->Prop
abbrev CXT:=List Env->Hp->d7->XK->Value->d7->Prop
variable{CX:CXT}
structure b4a(P:v0)(w:World)(K:Fg)(mg:Str->Option Value)(base:Heap)(A:F7)(outer:List Env)(s:d7)(H:Hp):Prop where
 frames:A.frames=some outer
 mod:Mod K mg base
 bs:∀b o,base.get? b=some o->s.heap.get? b=some o/\H b=none
 bsz:base.objs.size<=s.heap.objs.size
 funs:s.heap.FunFrames base outer
 frf:∀b∈frs outer,H b=none
 hok:HOk P w H s.heap
 bare:a9A s.gens
def CE(outer:List Env)(P:v0)(w:World)(H:Hp)(s:d7)(Q:VK)(u:Value)(s':d7):Prop:=
 ∃v H',s'.os=s.os/\a9A s'.gens/\Un (frs outer) [] H H' s.heap s'.heap/\HOk P w H' s'.heap/\C1 v u/\Q v H'
def CR(CX:CXT)(outer:List Env)(P:v0)(w:World)(H:Hp)(s:d7)(Q:VK)(E:XK)(r:c3U)(s':d7):Prop:=
 match r with
 | .ok (.ret u)=>CE outer P w H s Q u s'
 | .ok _=>False
 | .error e=>CX outer H s E e s'
structure J0(P:v0)(w:World)(K:Fg)(mg:Str->Option Value)(base:Heap)(CX:CXT)(k:Nat)(f:Addr)(fd:V2)(ps:List Str)(sp:Sp):Prop where
 len:∀vs H Q E,sp vs H Q E->vs.length=ps.length
 run:∀(A:F7) (outer:List Env) (s:d7) (H:Hp) (args:Args) (us:List Value) (vs:List V) (Q:VK) (E:XK),O0 k A->b4a P w K mg base A outer s H->b6z s fd args (ps.zip us)->D0 vs us->sp vs H Q E ->
  a5E (model P w) A (.call (.ref f) args) (CR CX outer P w H s Q E) s
theorem b4a.make{P:v0}{K:Fg}{mg:Str->Option Value}{base:Heap}{A:F7}{outer:List Env}(e:b4a P w K mg base A outer s H)(C:Addr)(us:List Value)(kw:List (Str×Value)) :
  b4a P w K mg base (A.under (.builtin "type.__call__" ⟨.ref C::us,kw⟩)) outer s H:=⟨by first | exact e.frames | (simpa[Around.under,Code.envs,Code.isFrame,pushEnvs]using e.frames),e.mod,e.bs,e.bsz,e.funs,e.frf,e.hok,e.bare⟩
section
variable {s':d7}
theorem Inv.env0(I:Inv X pins σ H s):b4a X.prog X.w X.K X.mg X.base X.A X.stack s H:=
 ⟨I.ok.frames,I.ok.mod,I.bs,v9 I.ok.bsz I.sz,I.stack,I.stkFree,I.hok,I.bare⟩
theorem Inv.after{Q:VK}(I:Inv X pins σ H s)(h:CE X.stack X.prog X.w H s Q u s'):EP X pins σ Q u s':=by
 obtain⟨v,H',os,bare,un,hok,r,q⟩:=h
 obtain⟨hh,g,d,t,os'⟩:=s'
 obtain rfl:os'=s.os:=os
 exact⟨v,H',I.call (h':=hh) (g':=g) (d':=d) (t':=t) (ch:=[]) un hok bare (fun b z=>absurd z (by simp)),r,q⟩
end
def o9(sp:Sp)(dvs:List V)(E:XK)(t:TA):TE:=fun σ H Q=>t σ H fun vs H1=>sp (vs++dvs) H1 Q E
def b1l(C:Addr)(m:Str)(sp:Sp)(dvs:List V)(E:XK)(ta:TE)(t:TA):TE:=fun σ H Q=>ta σ H fun x H1=>∃a dx fs,x=.ref a/\H1 a=some (.ins C dx fs)/\fs.lookup m=none /\
 t σ H1 fun vs H2=>sp (x::(vs++dvs)) H2 Q E
def a7D(C:Addr)(sp:Sp)(dvs:List V)(E:XK)(t:TA):TE:=fun σ H Q=>t σ H fun vs H1=>∀x dx,H1 x=none->H1 dx=none->dx≠x ->
 sp (.ref x::(vs++dvs)) (upd (upd H1 dx (.own x)) x (.ins C dx [])) (fun v H2=>v=.non/\Q (.ref x) H2) E
def a2O(K:Fg)(fd:V2)(ps:List Str)(ds:List Value):Prop:=
 ∀(s:d7) (us:List Value),K.In s.heap->(us++ds).length=ps.length->b6z s fd ⟨us,[]⟩ (ps.zip (us++ds))
theorem a2O.all{K:Fg}{fd:V2}(h:∀us:List Value,us.length=ps.length->bindArgs fd ⟨us,[]⟩=pure (ps.zip us)):a2O K fd ps []:=fun s us _ hl=>by
 rw[a0l]at hl ⊢
 exact .of_eq (h us hl)
def a6m(CX:CXT)(X:Cx)(E:XK):Prop:=∀(pins:List (Addr×Obj)) (σ:St) (H:Hp) (s:d7) (e:Value) (s':d7),Inv X pins σ H s->CX X.stack H s E e s'->X.xe e s'
section
variable {k:Nat}{fd:V2}{sp:Sp}{dvs:List V}{ds:List Value}{E:XK}{m:Str}{apos:Pos}{o:Expr}{t:TA}
theorem b7z{Q:VK}{vs:List V}(F:J0 X.prog X.w X.K X.mg X.base CX k f fd ps sp)(hr:O0 k X.A)(hb:a2O X.K fd ps ds)(hd:D0 dvs ds)(hx:a6m CX X E)
  (I:Inv X pins σ H s) (r:D0 vs us) (h:sp (vs++dvs) H Q E):wpAny (model X.prog X.w) X.A (call (.ref f) us) (EP X pins σ Q) X.xe s:=by
 have r2:D0 (vs++dvs) (us++ds):=r.append hd
 have hl:(us++ds).length=ps.length:=by rw[<-r2.length];exact F.len _ _ _ _ h
 refine wpAny_call (b4e (F.run X.A X.stack s H ⟨us,[]⟩ (us++ds) (vs++dvs) Q E hr I.env0 (hb s us I.kIn hl) r2 h) fun r s' hq=>?_)
 cases r with
 | error e=>exact hx pins σ H s e s' I hq
 | ok fl=>
  cases fl with
  | ret u=>exact I.after hq
  | next=>exact False.elim hq
  | brk=>exact False.elim hq
  | cont=>exact False.elim hq
theorem c0e(F:J0 X.prog X.w X.K X.mg X.base CX k f fd ps sp)(hr:O0 k X.A)(hg:Gl X x)(hm:X.mg x=some (.ref f))(hk:O6 X.K (.ref f)=true)(hb:a2O X.K fd ps ds)(hd:D0 dvs ds)(hx:a6m CX X E)
  (ha:PA X (e::es) t) (hdb:(x == ("__debug__" : Str))=false:=by decide) (he:d4 (e::es) X.env=(false,eval e X.env)::d4 es X.env:=by rfl) (hpl:(V5 pos (d4 es X.env)).any (·.1)=false:=by rfl) :
  PE X (.Call (.Name x p) (e::es) [] pos) (o9 sp dvs E t):=by
 intro pins s σ H Q I h
 refine a3T (b0i I hg hm ?_ hdb)
 refine a5w (h₀:=X.base) I.ok.mod.kin hk (thn (ha pos pins s σ H _ I h) fun us s1 ⟨vs,H1,I1,r,q⟩=>⟨I1.kIn,?_⟩) he hpl
 exact b7z F hr hb hd hx I1 r q
theorem b9Y{pl:Sem Bool}(he:PE X o ta)(c:Cls X.K C)(hm:c3x X.K C m f)(F:J0 X.prog X.w X.K X.mg X.base CX k f fd ps sp)(hr:O0 k X.A)(hb:a2O X.K fd ps ds)(hd:D0 dvs ds)(hx:a6m CX X E)(ha:PA X (e::es) t)
  (hst:d4 (e::es) X.env=(false,eval e X.env)::d4 es X.env:=by rfl) (hpl:(V5 pos (d4 es X.env)).any (·.1)=false:=by rfl)
  (ht:eval (.Call (.Attribute o m apos) (e::es) [] pos) X.env=(do
   let ov <-eval o X.env
   b6w apos.atName
   let(f,first) <-a2X [ov] (b6x ov m pl)
   callWith pos f first (V5 pos (d4 (e::es) X.env)) (b0U pos (a2W [] X.env))):=by rfl) :
  PE X (.Call (.Attribute o m apos) (e::es) [] pos) (b1l C m sp dvs E ta t):=by
 intro pins s σ H Q I h
 refine PySem.W.methodCall_KW (pl:=pl) (thn (he pins s σ H _ I h) fun u s1 ⟨x,H1,I1,rx,a,dx,fs,ex,ea,l,q⟩=>?_) ht
 subst ex
 obtain rfl:u=Value.ref a:=rx
 refine b3D I1 ea c hm l ?_
 refine a5w (first:=[.ref a]) (h₀:=X.base) I.ok.mod.kin hm.kp (thn (ha pos pins s1 σ H1 _ I1 q) fun us s2 ⟨vs,H2,I2,r,q2⟩=>⟨I2.kIn,?_⟩) hst hpl
 exact b7z (us:=.ref a::us) (vs:=.ref a::vs) F hr hb hd hx I2 (.cons rfl r) q2
structure Mk(K:Fg)(C f:Addr):Prop where
 makes:a2S K C=true
 init:z6 K (.ref C) "__init__" = some (some (.ref f))
 fn:a6p K (.ref f)=true
 kp:O6 K (.ref C)=true
theorem b7y{Q:VK}{vs:List V}(M:Mk X.K C f)(F:J0 X.prog X.w X.K X.mg X.base CX k f fd ps sp)(hr:O0 (k+1) X.A)(hb:a2O X.K fd ps ds)(hd:D0 dvs ds)
  (hx:a6m CX X E) (I:Inv X pins σ H s) (r:D0 vs us)
  (h:∀x dx,H x=none->H dx=none->dx≠x->sp (.ref x::(vs++dvs)) (upd (upd H dx (.own x)) x (.ins C dx [])) (fun v H2=>v=.non/\Q (.ref x) H2) E) :
  wpAny (model X.prog X.w) X.A (call (.ref C) us) (EP X pins σ Q) X.xe s:=by
 have hq:=h (s.heap.objs.size+1) s.heap.objs.size (I.hok.fresh (b8W _)) (I.hok.fresh (d5 _)) (t5 (c3C _))
 have I2:=Inv.made (C:=C) I
 have r2:D0 (V.ref (s.heap.objs.size+1)::(vs++dvs)) (Value.ref (s.heap.objs.size+1)::(us++ds)):=.cons rfl (r.append hd)
 have hl:(Value.ref (s.heap.objs.size+1)::us++ds).length=ps.length:=by
  have e:=r2.length
  rw[F.len _ _ _ _ hq]at e
  exact e.symm
 refine wpAny_call (b8p (f:=f) I.kIn M.makes M.init (beq_iff_eq.mp M.fn) (b4e (F.run _ X.stack _ _ ⟨Value.ref (s.heap.objs.size+1)::us,[]⟩ (Value.ref (s.heap.objs.size+1)::(us++ds)) _ _ E (hr.make C us [])
  (I2.env0.make C us []) (hb _ (Value.ref (s.heap.objs.size+1)::us) I2.kIn hl) r2 hq) fun r s' hq'=>?_))
 cases r with
 | error e=>exact hx pins σ _ _ e s' I2 hq'
 | ok fl=>
  cases fl with
  | ret u=>
   obtain⟨v,H',I3,rv,ev,q3⟩:=I2.after hq'
   subst ev
   exact⟨rv,⟨V.ref (s.heap.objs.size+1),H',I3,rfl,q3⟩⟩
  | next=>exact False.elim hq'
  | brk=>exact False.elim hq'
  | cont=>exact False.elim hq'
theorem b9Z(M:Mk X.K C f)(F:J0 X.prog X.w X.K X.mg X.base CX k f fd ps sp)(hr:O0 (k+1) X.A)(hg:Gl X x)(hm:X.mg x=some (.ref C))(hb:a2O X.K fd ps ds)(hd:D0 dvs ds)(hx:a6m CX X E)
  (ha:PA X (e::es) t) (hdb:(x == ("__debug__" : Str))=false:=by decide) (he:d4 (e::es) X.env=(false,eval e X.env)::d4 es X.env:=by rfl) (hpl:(V5 pos (d4 es X.env)).any (·.1)=false:=by rfl) :
  PE X (.Call (.Name x p) (e::es) [] pos) (a7D C sp dvs E t):=by
 intro pins s σ H Q I h
 refine a3T (b0i I hg hm ?_ hdb)
 refine a5w (h₀:=X.base) I.ok.mod.kin M.kp (thn (ha pos pins s σ H _ I h) fun us s1 ⟨vs,H1,I1,r,q⟩=>⟨I1.kIn,?_⟩) he hpl
 exact b7y M F hr hb hd hx I1 r q
end
section
variable {k:Nat}{fd:V2}{ks:List Str}{sp:Sp}{E:XK}{m:Str}{apos kpos:Pos}{o:Expr}{kws:List a9z}{t tk:TA}{nm:Option Str}
structure c5D(K:Fg)(fd:V2)(ps ks:List Str)(g:List Value->List Value->List Value)(gV:List V->List V->List V):Prop where
 to:∀(s:d7) (us ws:List Value),K.In s.heap->(g us ws).length=ps.length->b6z s fd ⟨us,ks.zip ws⟩ (ps.zip (g us ws))
 rel:∀ {vs:List V} {us:List Value} {zs:List V} {ws:List Value},D0 vs us->D0 zs ws->D0 (gV vs zs) (g us ws)
variable {g:List Value->List Value->List Value}{gV:List V->List V->List V}
end
structure u0(N P:List Str)(sc:Scope):Prop where
 kind:sc.kind=.function
 co:sc.isCoroutine=false
 gen:sc.isGenerator=false
 nd:N.Nodup
 pre:N.take P.length=P
 par:∀x∈P,sc.names.lookup x=some .local\/sc.names.lookup x=some .cell
 nofree:∀y∈sc.names,y.2≠.free
theorem a9o{kindOf:Str->Option a3V}:∀ {binds:List (Str×Value)} {m:Str->Option Value},(∀v,(x,v)∉binds)->bindL kindOf binds m x=m x
 | [],_,_=>rfl
 | (n,v)::r,m,h=>by
  unfold bindL
  rw[a9o fun w hw=>h w (t8 _ hw)]
  split
  ·have:x≠n:=by rintro rfl;exact h v y0
   simp[this]
  ·rfl
theorem a9q{kindOf:Str->Option a3V}:∀ {binds:List (Str×Value)} {m:Str->Option Value},(∀v,(x,v)∉binds)->bindC kindOf binds m x=m x
 | [],_,_=>rfl
 | (n,v)::r,m,h=>by
  unfold bindC
  rw[a9q fun w hw=>h w (t8 _ hw)]
  split
  ·rfl
  ·have:x≠n:=by rintro rfl;exact h v y0
   simp[this]
theorem a9p{kindOf:Str->Option a3V}{v:Value}:∀ {P:List Str} {vs:List Value} {i:Nat} {m:Str->Option Value},P.Nodup->P[i]? = some x->vs[i]? = some v->kindOf x=some .local ->
  bindL kindOf (P.zip vs) m x=some v
 | [],_,_,_,_,h,_,_=>by simp at h
 | _::_,[],_,_,_,_,h,_=>by simp at h
 | p::P,w::vs,0,m,nd,h1,h2,hk=>by
  simp at h1 h2;subst h1;subst h2
  show bindL kindOf ((p,w)::P.zip vs) m p=_
  unfold bindL
  rw[a9o fun v hv=>(V3.mp nd).1 (a9w hv).1,if_pos hk]
  simp
 | p::P,w::vs,i+1,m,nd,h1,h2,hk=>by
  show bindL kindOf ((p,w)::P.zip vs) m x=_
  unfold bindL
  exact a9p (i:=i) (V3.mp nd).2 (by simpa using h1) (by simpa using h2) hk
theorem a9r{kindOf:Str->Option a3V}{v:Value}:∀ {P:List Str} {vs:List Value} {i:Nat} {m:Str->Option Value},P.Nodup->P[i]? = some x->vs[i]? = some v->kindOf x≠some .local ->
  bindC kindOf (P.zip vs) m x=some v
 | [],_,_,_,_,h,_,_=>by simp at h
 | _::_,[],_,_,_,_,h,_=>by simp at h
 | p::P,w::vs,0,m,nd,h1,h2,hk=>by
  simp at h1 h2;subst h1;subst h2
  show bindC kindOf ((p,w)::P.zip vs) m p=_
  unfold bindC
  rw[a9q fun v hv=>(V3.mp nd).1 (a9w hv).1,if_neg hk]
  simp
 | p::P,w::vs,i+1,m,nd,h1,h2,hk=>by
  show bindC kindOf ((p,w)::P.zip vs) m x=_
  unfold bindC
  exact a9r (i:=i) (V3.mp nd).2 (by simpa using h1) (by simpa using h2) hk
def a4V(N:List Str)(vs:List V):St:=vs.map some++v5 (N.length - vs.length) none
def b2g(CX:CXT)(P:v0)(w:World)(K:Fg)(mg:Str->Option Value)(base:Heap)(N:List Str)(qual:Str)(scope:Scope)(f:Addr)(cd:Value)(A:F7)(outer:List Env)(s:d7)(H:Hp)(E:XK):Cx where
 prog:=P
 w:=w
 K:=K
 mg:=mg
 base:=base
 A:=A.deeper (b0T qual scope s.heap.objs.size f cd)
 N:=N
 s₀:=s
 H₀:=H
 env:=b0T qual scope s.heap.objs.size f cd
 outer:=outer
 stack:=b0T qual scope s.heap.objs.size f cd::outer
 ex:=[]
 calm:=true
 fn:=fun _=>true
 pn:=[]
 xe:=fun e s'=>wpAny (model P w) (A.deeper (b0T qual scope s.heap.objs.size f cd)) (leaving (b0T qual scope s.heap.objs.size f cd) e) (fun _ s''=>CX outer H s E e s'') (fun e' s''=>CX outer H s E e' s'') s'
theorem b2j{sc:Scope}{n:Nat}(h:sc.names.lookup x=some .cell):∃c,(cellsFrom n sc.names []).lookup x=some c:=by
 have q:=b2t sc.names n [] (.inl h)
 exact R4.mp q
theorem b5T{P:v0}{K:Fg}{mg:Str->Option Value}{base:Heap}{N:List Str}{qual:Str}{scope:Scope}{cd:Value}{A:F7}{outer:List Env}{s1:d7}{E:XK}{vs:List V}
  (S:u0 N ps scope) (hd:A.handled=none) (e0:b4a P w K mg base A outer s H) (hl:vs.length=ps.length) (r:D0 vs us)
  (x:InCallC s s.heap.objs.size (bindL (b0T qual scope s.heap.objs.size f cd).kindOf (ps.zip us) fun _=>none) (cellsFrom (s.heap.objs.size+1) scope.names []) (bindC (b0T qual scope s.heap.objs.size f cd).kindOf (ps.zip us) fun _=>none) s1) :
  Inv (b2g CX P w K mg base N qual scope f cd A outer s H E) [] (a4V N vs) H s1:=by
 have hpl:ps.length<=N.length:=by have:=congrArg b6t S.pre;rw[C8]at this;omega
 obtain⟨h1,tk,rfl,hk⟩:=x.done
 have noA:∀b:Addr,b∉(b2g CX P w K mg base N qual scope f cd A outer s H E).ex:=fun b z=>absurd (show b∈([]:List Addr)from z) (by simp)
 refine⟨⟨e0.mod,S.kind,rfl,rfl,d5 _,fun y z c h1 h2=>?_,fun y hy=>?_,fun y c _ h=>?_,fun _=>hd,Around.frames_deeper e0.frames,.inr ⟨rfl,rfl⟩,fun b z=>absurd z (noA b),e0.bs,e0.bsz,fun b _ _=>noA b,fun b z=>absurd z (noA b),e0.funs,e0.frf⟩,
  rfl,e0.bare,Un.kept hk,⟨_,x.toInCall.ns,fun i y v h1 h2 h3=>?_⟩,fun y c h=>⟨_,x.cell y c h⟩,e0.hok.fresh (d5 _),fun y c h=>?_,fun p hp=>absurd (show p∈([]:List (Addr×Obj))from hp) (by simp),e0.hok.kept hk,?_⟩
 ·exact name_of_addr x.apart (u4 h1) (u4 h2)
 ·have hy:scope.names.lookup y=some .cell\/scope.names.lookup y=some .free:=hy
  rcases hy with hy | hy
  ·exact b2j hy
  ·exact absurd rfl (S.nofree _ (u4 hy))
 ·exact a8B (x.above y c (u4 h))
 ·have hi:i<vs.length:=by
   unfold a4V at h2
   by_cases hi:i<vs.length
   ·exact hi
   ·rw[A5 (by simpa using hi)]at h2
    rw[J4]at h2
    split at h2 <;> cases h2
  have ha:vs[i]? = some v:=by
   unfold a4V at h2
   rw[u9 (by simpa using hi),b7]at h2
   cases e:vs[i]? with
   | none=>rw[e]at h2;cases h2
   | some a=>rw[e]at h2;cases h2;rfl
  obtain⟨u,hu,rv⟩:=r.get ha
  have hp:ps[i]? = some y:=by
   rw[<-S.pre,List.getElem?_take_of_lt (by omega)];exact h1
  have ndP:ps.Nodup:=by rw[<-S.pre];exact S.nd.sublist (List.take_sublist _ _)
  refine⟨u,rv,?_⟩
  rcases S.par y (X3 hp)with k | k
  ·exact .inl ⟨k,a9p ndP hp hu k⟩
  ·obtain⟨c,e⟩:=b2j (n:=s.heap.objs.size+1) k
   refine .inr ⟨.inl k,c,e,?_⟩
   have q:=x.cell y c e
   rw[a9r ndP hp hu (by show scope.names.lookup y≠_;rw[k];decide)]at q
   exact q
 ·exact e0.hok.fresh (a8B (x.above y c (u4 h)))
 ·unfold a4V
  show _=N.length
  rw[j4,a9,C5]
  omega
theorem c4Q{P:v0}{K:Fg}{mg:Str->Option Value}{base:Heap}{k:Nat}{name qual:Str}{params:Arguments}{body:List Stmt}{scope:Scope}{dV kV doc pm cdv ct oc:Value}{an od:Option Addr}
  {osl:Array (Option Value)} {N ps:List Str} {sp:Sp} (lk:K.lookup f=some ⟨oc,od,.func (X0 name qual params body scope dV kV doc pm an cdv ct),osl⟩) (hcd:a3Q K cdv qual=true) (S:u0 N ps scope)
  (len:∀vs H Q E,sp vs H Q E->vs.length=ps.length)
  (hbody:∀(A:F7) (outer:List Env) (s:d7) (H:Hp) (vs:List V) (Q:VK) (E:XK),O0 k (A.deeper (b0T qual scope s.heap.objs.size f cdv))->sp vs H Q E ->
   ∃t,PSs (b2g CX P w K mg base N qual scope f cdv A outer s H E) body t/\t { nx:=fun _ H'=>Q .non H',rt:=Q } (a4V N vs) H) :
  J0 P w K mg base CX (k+1) f (X0 name qual params body scope dV kV doc pm an cdv ct) ps sp:=by
 refine⟨len,fun A outer s H args us vs Q E hr e0 hb r hsp=>?_⟩
 have hl:=len _ _ _ _ hsp
 have KX:K.In s.heap:=e0.mod.kin.keeps fun b o e=>(e0.bs b o e).1
 have lim:s.heap.NoLimit:=e0.mod.nolimit.keeps fun b o e=>(e0.bs b o e).1
 have hkind:∀y∈ps.zip us,scope.names.lookup y.1=some .local\/(scope.names.lookup y.1=some .cell/\((cellsFrom (s.heap.objs.size+1) scope.names []).lookup y.1).isSome=true):=fun⟨n,v⟩ hy=>by
  rcases S.par n (a9w hy).1 with q | q
  ·exact .inl q
  ·exact .inr ⟨q,b2t _ _ _ (.inl q)⟩
 refine codeAny_call_function hr.depth (KX _ _ lk) rfl S.co S.gen rfl (PySem.W.codeRec_of KX hcd) (hb _ _ _ _ ?_)
 refine wpAny_newFunctionEnv_cells S.kind hkind fun env he s1 x=>?_
 subst he
 refine⟨lim.keeps x.toInCall.keep,codeAny_func ?_⟩
 obtain⟨t,ht,hq⟩:=hbody A outer s H vs Q E (hr.deeper _) hsp
 have I:Inv (b2g CX P w K mg base N qual scope f cdv A outer s H E) [] (a4V N vs) H s1:=b5T S hr.hd e0 hl r x
 refine V4 (ht [] s1 (a4V N vs) H _ I hq) (fun fl s' hs=>?_) fun e s' hs=>hs
 have fin:∀ {σ':St} {H':Hp} {v:V} {u:Value},Inv (b2g CX P w K mg base N qual scope f cdv A outer s H E) [] σ' H' s'->C1 v u->Q v H'->CE outer P w H s Q u s':=
  fun {σ' H' v u} J rv q=>⟨v,H',J.os,J.bare,J.base,J.hok,rv,q⟩
 cases fl with
 | ret u=>
  obtain⟨v,σ',H',J,rv,q⟩:=hs
  exact fin J rv q
 | next=>
  obtain⟨σ',H',J,q⟩:=hs
  exact fin (v:=V.non) (u:=Value.none) J rfl q
 | brk=>
  obtain⟨_,_,_,q⟩:=hs
  exact False.elim q
 | cont=>
  obtain⟨_,_,_,q⟩:=hs
  exact False.elim q
section
variable {t:TA}{id T:String}{r:List V->Hp->VK->Prop}
def tCB(r:List V->Hp->VK->Prop)(t:TA):TE:=fun σ H Q=>t σ H fun vs H1=>r vs H1 Q
theorem b7Z(hc:O7 X (.builtin id) r)(hg:Gl X x)(hm:X.mg x=none)(hv:Z6 x=some (.builtin id))(ha:PA X (e::es) t)(hn:x ≠ "__name__" := by decide)(hdb:(x == ("__debug__" : Str))=false:=by decide)
  (he:d4 (e::es) X.env=(false,eval e X.env)::d4 es X.env:=by rfl) (hpl:(V5 pos (d4 es X.env)).any (·.1)=false:=by rfl):PE X (.Call (.Name x p) (e::es) [] pos) (tCB r t):=by
 intro pins s σ H Q I h
 refine a3T (a6c I hg hm hv ?_ hn hdb)
 exact PyProof.Rows.callWith_builtin1 (thn (ha pos pins s σ H _ I h) fun us s1 ⟨vs,H1,I1,r1,q1⟩=>hc pins s1 σ H1 vs us Q I1 r1 q1) he hpl
theorem b5z(hc:O7 X (.type T) r)(hg:Gl X x)(hm:X.mg x=none)(hv:Z6 x=some (.type T))(ha:PA X (e::es) t)(hn:x ≠ "__name__" := by decide)(hdb:(x == ("__debug__" : Str))=false:=by decide)
  (he:d4 (e::es) X.env=(false,eval e X.env)::d4 es X.env:=by rfl) (hpl:(V5 pos (d4 es X.env)).any (·.1)=false:=by rfl):PE X (.Call (.Name x p) (e::es) [] pos) (tCB r t):=by
 intro pins s σ H Q I h
 refine a3T (a6c I hg hm hv ?_ hn hdb)
 exact U2 (thn (ha pos pins s σ H _ I h) fun us s1 ⟨vs,H1,I1,r1,q1⟩=>hc pins s1 σ H1 vs us Q I1 r1 q1) he hpl
end
section
variable {κ:Type}[DecidableEq κ]
def a6H(kvs:List (κ×V))(k:κ):Option V:=(kvs.find? fun kv=>decide (kv.1=k)).map (·.2)
def a3h(kvs:List (κ×V))(k:κ)(v:V):List (κ×V):=
 if(kvs.any fun kv=>decide (kv.1=k))=true then kvs.map (fun kv=>if kv.1=k then (kv.1,v)else kv)else kvs++[(k,v)]
theorem a4Q{p:κ×V}{r:List (κ×V)}{k:κ}(e:p.1=k):a6H (p::r) k=some p.2:=by simp[a6H,a0k,e]
theorem a4R{p:κ×V}{r:List (κ×V)}{k:κ}(e:¬p.1=k):a6H (p::r) k=a6H r k:=by simp[a6H,a0k,e]
theorem a7v(k:κ):∀kvs:List (κ×V),(kvs.any fun kv=>decide (kv.1=k))=(a6H kvs k).isSome
 | []=>rfl
 | p::r=>by
  rw[W3]
  by_cases e:p.1=k
  ·simp only[a4Q e,c6G e,Bool.true_or,Option.isSome_some]
  ·rw[a4R e,c6F e,Bool.false_or];exact a7v k r
theorem a3l(kvs:List (κ×V))(k:κ)(v:V):(a3h kvs k v).length<=kvs.length+1:=by
 unfold a3h
 split
 ·rw[a9];omega
 ·rw[j4,q9,a3S];omega
theorem a5v.isSome_eq{o:Option V}{u:Option Value}(r:a5v o u):o.isSome=u.isSome:=by
 cases o with
 | none=>cases u with
  | none=>rfl
  | some _=>exact(show False from r).elim
 | some _=>cases u with
  | none=>exact(show False from r).elim
  | some _=>rfl
theorem KV.val{kvs:List (κ×V)}{vs:List (κ×Value)}(r:KV kvs vs)(k:κ):a5v (a6H kvs k) (c1z vs k):=by
 unfold KV at r
 induction r with
 | nil=>exact True.intro
 | @cons p q ps qs h t ih=>
  obtain⟨h1,h2⟩:=h
  by_cases e:p.1=k
  ·have e':q.1=k:=h1.symm.trans e
   have b:c1z (q::qs) k=some q.2:=by simp[c1z,a0k,e']
   rw[a4Q e,b];exact h2
  ·have e':¬q.1=k:=fun z=>e (h1.trans z)
   have b:c1z (q::qs) k=c1z qs k:=by simp[c1z,a0k,e']
   rw[a4R e,b];exact ih
theorem KV.any{kvs:List (κ×V)}{vs:List (κ×Value)}(r:KV kvs vs)(k:κ):(kvs.any fun kv=>decide (kv.1=k))=vs.any fun kv=>decide (kv.1=k):=by
 unfold KV at r
 induction r with
 | nil=>rfl
 | cons h t ih=>rw[W3,W3,ih,h.1]
theorem KV.repl{kvs:List (κ×V)}{vs:List (κ×Value)}(r:KV kvs vs)(k:κ)(ry:C1 y u) :
  KV (kvs.map fun kv=>if kv.1=k then (kv.1,y)else kv) (vs.map fun kv=>if kv.1=k then (kv.1,u)else kv):=by
 unfold KV at r ⊢
 induction r with
 | nil=>exact .nil
 | @cons p q ps qs h t ih=>
  rw[C4,C4]
  refine .cons ?_ ih
  obtain⟨h1,h2⟩:=h
  by_cases e:p.1=k
  ·rw[if_pos e,if_pos (h1.symm.trans e)];exact⟨h1,ry⟩
  ·rw[if_neg e,if_neg (fun z=>e (h1.trans z))];exact⟨h1,h2⟩
theorem KV.put{kvs:List (κ×V)}{vs:List (κ×Value)}(r:KV kvs vs)(k:κ)(ry:C1 y u):KV (a3h kvs k y) (stored vs k u):=by
 unfold a3h stored
 rw[r.any k]
 by_cases e:(vs.any fun kv=>decide (kv.1=k))=true
 ·rw[if_pos e,if_pos e];exact r.repl k ry
 ·rw[if_neg e,if_neg e];exact Paired.snoc r ⟨rfl,ry⟩
theorem KV.length{kvs:List (κ×V)}{vs:List (κ×Value)}(r:KV kvs vs):kvs.length=vs.length:=Paired.length r
end
theorem b1X{P:v0}{k:Key}(r:C1 (kV k) u):(Q1 P w).is k u=true:=by
 cases k with
 | inl i=>obtain⟨t,e⟩:=(show ∃t,u=Value.int i t from r);subst e;exact b1S P w i t
 | inr x=>obtain⟨t,e⟩:=(show ∃t,u=Value.str x t from r);subst e;exact b1R P w x t
theorem a9j{P:v0}:∀ {ks:List Key} {us:List Value},D0 (ks.map kV) us->ItemsAre (Q1 P w) ks us
 | [],_,r=>by rw[b4Q]at r;cases r;exact .nil
 | k::ks,_,r=>by
  rw[C4]at r
  cases r with
  | cons h t=>exact .cons (b1X h) (a9j t)
abbrev KT(H:Hp):List (List Key×V)->List (List Key×Addr×Value)->Prop:=Paired fun p q=>p.1=q.1/\H q.2.1=some (.tup (p.1.map kV))/\C1 p.2 q.2.2
theorem KT.val{kvs:List (List Key×V)}{xs:List (List Key×Addr×Value)}(r:KT H kvs xs)(k:List Key):a5v (a6H kvs k) ((atKey xs k).map (·.2)):=by
 induction r with
 | nil=>exact True.intro
 | @cons p q ps qs h t ih=>
  obtain⟨h1,_,h2⟩:=h
  by_cases e:p.1=k
  ·have e':q.1=k:=h1.symm.trans e
   have b:atKey (q::qs) k=some q.2:=by simp[atKey,a0k,e']
   rw[a4Q e,b];exact h2
  ·have e':¬q.1=k:=fun z=>e (h1.trans z)
   have b:atKey (q::qs) k=atKey qs k:=by simp[atKey,a0k,e']
   rw[a4R e,b];exact ih
theorem KT.repl{kvs:List (List Key×V)}{xs:List (List Key×Addr×Value)}(r:KT H kvs xs)(k:List Key)(ry:C1 y u) :
  KT H (kvs.map fun kv=>if kv.1=k then (kv.1,y)else kv) (xs.map (putAt k u)):=by
 induction r with
 | nil=>exact .nil
 | @cons p q ps qs h t ih=>
  rw[C4,C4]
  refine .cons ?_ ih
  obtain⟨h1,h2,h3⟩:=h
  unfold putAt
  by_cases e:p.1=k
  ·rw[if_pos e,if_pos (h1.symm.trans e)];exact⟨h1,h2,ry⟩
  ·rw[if_neg e,if_neg (fun z=>e (h1.trans z))];exact⟨h1,h2,h3⟩
theorem KT.put{kvs:List (List Key×V)}{xs:List (List Key×Addr×Value)}(r:KT H kvs xs)(k:List Key)(hb:H b=some (.tup (k.map kV)))(ry:C1 y u) :
  KT H (a3h kvs k y) (storedH xs k b u):=by
 have e:(kvs.any fun kv=>decide (kv.1=k))=(atKey xs k).isSome:=by
  rw[a7v,(r.val k).isSome_eq,a6E]
 unfold a3h storedH
 rw[e]
 by_cases q:(atKey xs k).isSome=true
 ·rw[if_pos q,if_pos q];exact r.repl k ry
 ·rw[if_neg q,if_neg q];exact Paired.snoc r ⟨rfl,hb,ry⟩
theorem KT.keeps{kvs:List (List Key×V)}{xs:List (List Key×Addr×Value)}(r:KT H kvs xs)(ht:∀b ys,H b=some (.tup ys)->H' b=some (.tup ys)):KT H' kvs xs:=
 Paired.mapP r fun _ _ z=>⟨z.1,ht _ _ z.2.1,z.2.2⟩
section
variable {P:v0}
theorem c1p{u:HO}(ok:HOk P w H h)(e:Rd H a u):Q3 P w H h a u:=e.ok ok
theorem b8F(ok:HOk P w H h)(e:Rd H a (.dK kvs)):kvs.length<=g9/\(a == a1K)=false/\∃vs,KV kvs vs/\h.DictOf (Q1 P w) a vs:=
 show Q3 P w H h a (.dK kvs)from c1p ok e
theorem b4H(ok:HOk P w H h)(e:H a=some (.dK kvs)):kvs.length<=g9/\(a == a1K)=false/\∃vs,KV kvs vs/\h.DictOf (Q1 P w) a vs:=b8F ok (.inl e)
theorem b0j{ks:List Key}(ok:HOk P w H h)(e:H a=some (.tup (ks.map kV))):(b6v (Q1 P w)).is h ks a:=by
 obtain⟨_,its,r,o,h1,h2,n,h3⟩:=(show Q3 P w H h a (.tup (ks.map kV))from ok a _ e)
 exact⟨o,its.toArray,n,h1,h2,h3,by simpa using a9j r⟩
theorem b8E{kvs:List (List Key×V)}(ok:HOk P w H h)(e:Rd H a (.dT kvs)):kvs.length<=g9/\(a == a1K)=false /\
  ∃xs,KT H kvs xs/\h.DictOfH (b6v (Q1 P w)) a xs:=by
 obtain⟨z,y,xs,r,o,es,ep,h1,h2,h3,h4,h5⟩:=(show Q3 P w H h a (.dT kvs)from c1p ok e)
 refine⟨z,y,xs,r,o,es,ep,h1,h2,h3,h4,fun x hx=>?_,h5⟩
 have all:∀ {l:List (List Key×V)} {m:List (List Key×Addr×Value)},KT H l m->∀x∈m,(b6v (Q1 P w)).is h x.1 x.2.1:=by
  intro l m q
  induction q with
  | nil=>intro x hx;exact nomatch hx
  | @cons p q ps qs hq t ih=>
   intro x hx
   rcases c7.mp hx with e | hx
   ·subst e
    exact b0j ok (by rw[<-hq.1];exact hq.2.1)
   ·exact ih x hx
 exact all r x hx
theorem c4R{kvs:List (List Key×V)}(ok:HOk P w H h)(e:H a=some (.dT kvs)):kvs.length<=g9/\(a == a1K)=false /\
  ∃xs,KT H kvs xs/\h.DictOfH (b6v (Q1 P w)) a xs:=b8E ok (.inl e)
end
def a8W(H:Hp)(a:Addr)(y:V)(r:Option V):Prop:=
 (∃kvs k,Rd H a (.dK kvs)/\y=kV k/\r=a6H kvs k)\/∃kvs k b,Rd H a (.dT kvs)/\y=.ref b/\H b=some (.tup (k.map kV))/\r=a6H kvs k
def b4b(H:Hp)(a:Addr)(y v:V)(H':Hp):Prop:=
 (∃kvs k,H a=some (.dK kvs)/\y=kV k/\kvs.length<g9/\H'=upd H a (.dK (a3h kvs k v))) \/
 ∃kvs k b,H a=some (.dT kvs)/\y=.ref b/\H b=some (.tup (k.map kV))/\kvs.length<g9/\H'=upd H a (.dT (a3h kvs k v))
theorem a8W.k{k:Key}(e:H a=some (.dK kvs)):a8W H a (kV k) (a6H kvs k):=.inl ⟨kvs,k,.inl e,rfl,rfl⟩
theorem b4b.k{k:Key}(e:H a=some (.dK kvs))(hl:kvs.length<g9):b4b H a (kV k) v (upd H a (.dK (a3h kvs k v))):=.inl ⟨kvs,k,e,rfl,hl,rfl⟩
section
variable {r:Value}{o:Option V}{A:F7}{E:Value->d7->Prop}
theorem Inv.big(I:Inv X pins σ H s):a1K<s.heap.objs.size:=by
 have h:o3<s.heap.objs.size:=(I.mod.glob.keeps I.bk).lt
 exact b6n (by decide) h
theorem c5z(hu:A.units+1<cLine)(I:Inv X pins σ H s)(g:a8W H a y o)(ry:C1 y u)(h:∀s',Inv X pins σ H s'->Q (.bool o.isSome) s') :
  wpAny (model X.prog X.w) A (o4 .In u (.ref a)) Q E s:=by
 rcases g with ⟨kvs,k,e,ey,l⟩ | ⟨kvs,k,b,e,ey,eb,l⟩
 ·subst ey
  obtain⟨z,hd,vs,rel,dd⟩:=b8F I.hok e
  refine wpAny_in_of (b1X ry) hd dd.mapOf ?_
  rw[<-(rel.val k).isSome_eq,<-l]
  exact h _ (I.tok _)
 ·subst ey
  cases (show u=Value.ref b from ry)
  obtain⟨z,hd,xs,rel,dd⟩:=b8E I.hok e
  refine wpAny_in_heap (b0S hu) (b0j I.hok eb) hd dd ?_
  have q:=(rel.val k).isSome_eq
  rw[a6E]at q
  rw[<-q,<-l]
  exact h _ (I.tok _)
theorem c0P(hu:A.units+1<cLine)(I:Inv X pins σ H s)(g:a8W H a y o)(ry:C1 y u)(h:∀s',Inv X pins σ H s'->Q (.bool (!o.isSome)) s') :
  wpAny (model X.prog X.w) A (o4 .NotIn u (.ref a)) Q E s:=by
 rcases g with ⟨kvs,k,e,ey,l⟩ | ⟨kvs,k,b,e,ey,eb,l⟩
 ·subst ey
  obtain⟨z,hd,vs,rel,dd⟩:=b8F I.hok e
  refine wpAny_notIn_of (b1X ry) hd dd.mapOf ?_
  rw[<-(rel.val k).isSome_eq,<-l]
  exact h _ (I.tok _)
 ·subst ey
  cases (show u=Value.ref b from ry)
  obtain⟨z,hd,xs,rel,dd⟩:=b8E I.hok e
  refine wpAny_notIn_heap (b0S hu) (b0j I.hok eb) hd dd ?_
  have q:=(rel.val k).isSome_eq
  rw[a6E]at q
  rw[<-q,<-l]
  exact h _ (I.tok _)
theorem b0q{ob:HO}(I:Inv X pins σ H s)(mu:Mut (H a))(hs:Heap.SameBut a s.heap h')(he:∃q,h'.get? a=some q)(new:Q3 X.prog X.w (upd H a ob) h' a ob) :
  Inv X pins σ (upd H a ob) { s with heap:=h',toks:=t' }:=
 I.write (x:=a) (e:=a) mu (.inl rfl) (fun b q hb z=>(hs.2 b hb).trans z) he new
theorem b8G{P:v0}{vs:List (Key×Value)}(z:kvs.length<=g9)(hd:(a == a1K)=false)(rel:KV kvs vs)(dd:h'.DictOf (Q1 P w) a vs) :
  Q3 P w H' h' a (.dK kvs):=⟨z,hd,vs,rel,dd⟩
theorem b5W{Q:Unit->d7->Prop}(hu:A.units+1<cLine)(I:Inv X pins σ H s)(g:b4b H a y v H')(ry:C1 y u)(rv:C1 v r)(h:∀s',Inv X pins σ H' s'->Q () s') :
  wpAny (model X.prog X.w) A (c1A (.ref a) u r) Q E s:=by
 rcases g with ⟨kvs,k,e,ey,l,eH⟩ | ⟨kvs,k,b,e,ey,eb,l,eH⟩
 ·subst ey eH
  obtain⟨z,hd,vs,rel,dd⟩:=b4H I.hok e
  have hz:vs.length<=g9:=by rw[<-rel.length];exact z
  have hl:(a3h kvs k v).length<=g9:=by have:=a3l kvs k v;omega
  refine wpAny_setItem_pairs (hsz:=hz) (b1X ry) dd fun h' dd' hs=>h _ ?_
  have he:∃q,h'.get? a=some q:=let⟨q,_,_,hq,_⟩:=dd'; ⟨q,hq⟩
  exact b0q I (by rw[e];exact True.intro) hs he (b8G hl hd (rel.put k rv) dd')
 ·subst ey eH
  cases (show u=Value.ref b from ry)
  obtain⟨z,hd,xs,rel,dd⟩:=c4R I.hok e
  have hz:xs.length<=g9:=by rw[<-Paired.length rel];exact z
  have hl:(a3h kvs k v).length<=g9:=by have:=a3l kvs k v;omega
  refine wpAny_setItem_heap (hsz:=hz) (b0S hu) (b0j I.hok eb) dd fun h' dd' hs=>h _ ?_
  obtain⟨q,es,ep,hq,h2,h3,h4,_,h5⟩:=dd'
  refine b0q I (by rw[e];exact True.intro) hs ⟨q,hq⟩ ⟨hl,hd,_,(rel.put k eb rv).keeps fun c ys ec=>?_,q,es,ep,hq,h2,h3,h4,h5⟩
  rw[c9 (L3 ec e (fun z=>nomatch z))]
  exact ec
end
section
variable {k:Key}{A:F7}{E:Value->d7->Prop}
end
def a9F(ty td:TE):TE:=fun σ H Q=>ty σ H fun y H1=>td σ H1 fun x H2=>∃a o,x=.ref a/\a8W H2 a y o/\Q (.bl o.isSome) H2
def a3z(ty td:TE):TE:=fun σ H Q=>ty σ H fun y H1=>td σ H1 fun x H2=>∃a o,x=.ref a/\a8W H2 a y o/\Q (.bl (!o.isSome)) H2
def a5d(td ty tv:TE):TS:=fun D σ H=>tv σ H fun v H1=>td σ H1 fun x H2=>ty σ H2 fun y H3=>∃a H4,x=.ref a/\b4b H3 a y v H4/\D.nx σ H4
section
variable {o i value:Expr}{pos' tpos:Pos}{td ty tv:TE}
theorem b8a(hu:X.A.units+1<cLine)(hi:PE X i ty)(ho:PE X o td):PC X .In i o (a9F ty td):=by
 intro pins s σ H Q I h
 refine thn (hi pins s σ H _ I h) fun iv s1 ⟨y,H1,I1,ry,q1⟩=>thn (ho pins s1 σ H1 _ I1 q1) fun u s2 ⟨x,H2,I2,rx,a,ov,ex,g,q2⟩=>?_
 subst ex
 obtain rfl:u=Value.ref a:=rx
 exact c5z hu I2 g ry fun s3 I3=>⟨.bl ov.isSome,H2,I3,rfl,q2⟩
theorem b5A(hu:X.A.units+1<cLine)(hi:PE X i ty)(ho:PE X o td):PC X .NotIn i o (a3z ty td):=by
 intro pins s σ H Q I h
 refine thn (hi pins s σ H _ I h) fun iv s1 ⟨y,H1,I1,ry,q1⟩=>thn (ho pins s1 σ H1 _ I1 q1) fun u s2 ⟨x,H2,I2,rx,a,ov,ex,g,q2⟩=>?_
 subst ex
 obtain rfl:u=Value.ref a:=rx
 exact c0P hu I2 g ry fun s3 I3=>⟨.bl (!ov.isSome),H2,I3,rfl,q2⟩
theorem b9R(hu:X.A.units+1<cLine)(ho:PE X o td)(hi:PE X i ty)(hv:PE X value tv)(hs:Z5 value (some (.Subscript o i pos')) pos.line X.env=pure false) :
  PS X (.Assign [.Subscript o i pos'] value pos) (a5d td ty tv):=by
 intro pins s σ H D I h
 refine wpAny_Assign_Subscript (thn (hv pins s σ H _ I h) fun r s1 ⟨v,H1,I1,rv,q1⟩=>thn (ho pins s1 σ H1 _ I1 q1) fun u s2 ⟨x,H2,I2,rx,q2⟩=>thn (hi pins s2 σ H2 _ I2 q2) fun iv s3 ⟨y,H3,I3,ry,a,H4,ex,g,q3⟩=>?_) hs
 subst ex
 obtain rfl:u=Value.ref a:=rx
 exact b5W hu I3 g ry rv fun s4 I4=>⟨σ,H4,I4,q3⟩
end
theorem b2e{P:v0}(h:Heap)(hb:a1K<h.objs.size):Q3 P w H (h.push { cls:=.type "dict",data:=.dict #[] }) h.objs.size (.dK []):=
 ⟨J8 _,beq_eq_false_iff_ne.mpr (Ne.symm (t5 hb)),[],.nil,Heap.DictOf.new h⟩
def a7F:TE:=fun _ H Q=>∀p,H p=none->Q (.ref p) (upd H p (.dK []))
section
theorem b7W:PE X (.Dict [] [] pos) a7F:=fun pins s σ H Q I h=>
 wpAny_Dict_empty ⟨.ref s.heap.objs.size,_,I.laid (a:=s.heap.objs.size) (o:=.dK []) (t':=s.toks) (fun _ _ q=>d8 _ q) (d5 _) (b2e s.heap I.big),rfl,h _ (I.hok.fresh (d5 _))⟩
end
def b2H:List (TE×TE)->St->Hp->(List (V×V)->Hp->Prop)->Prop
 | [],_,H,Q=>Q [] H
 | (tk,tv)::r,σ,H,Q=>tk σ H fun x H1=>tv σ H1 fun y H2=>b2H r σ H2 fun ps H3=>Q ((x,y)::ps) H3
abbrev VV:List (V×V)->List (Value×Value)->Prop:=Paired fun p q=>C1 p.1 q.1/\C1 p.2 q.2
def PPs(X:Cx)(pos:Pos)(keys:List (Option Expr))(values:List Expr)(trs:List (TE×TE)):Prop:=
 ∀(pins:List (Addr×Obj)) (s:d7) (σ:St) (H:Hp) (Q:List (V×V)->Hp->Prop),Inv X pins σ H s->b2H trs σ H Q ->
  wpAny (model X.prog X.w) X.A (evalPairs (pairTrees keys values X.env pos)) (fun vs s'=>∃ps H',Inv X pins σ H' s'/\VV ps vs/\Q ps H') X.xe s
theorem b9T:PPs X pos [] [] []:=fun pins s σ H Q I h=>pairTrees_nil_walk ⟨[],H,I,.nil,h⟩
theorem b7R{k v:Expr}{ks:List (Option Expr)}{vs:List Expr}{tk tv:TE}{trs:List (TE×TE)}(hk:PE X k tk)(hv:PE X v tv)(hr:PPs X pos ks vs trs) :
  PPs X pos (some k::ks) (v::vs) ((tk,tv)::trs):=fun pins s σ H Q I h=>
 pairTrees_cons_walk (thn (hk pins s σ H _ I h) fun u s1 ⟨x,H1,I1,rx,q1⟩=>thn (hv pins s1 σ H1 _ I1 q1) fun w2 s2 ⟨y,H2,I2,ry,q2⟩=>
  thn (hr pins s2 σ H2 _ I2 q2) fun ws s3 ⟨ps,H3,I3,rel,q3⟩=>⟨(x,y)::ps,H3,I3,.cons ⟨rx,ry⟩ rel,q3⟩)
def a6b(kvs more:List (Key×V)):List (Key×V):=more.foldl (fun acc kv=>a3h acc kv.1 kv.2) kvs
theorem KV.merge:∀ {more:List (Key×V)} {rs:List (Key×Value)} {kvs:List (Key×V)} {vs:List (Key×Value)},KV more rs->KV kvs vs->KV (a6b kvs more) (merged vs rs):=by
 intro more rs kvs vs r
 unfold KV at r
 induction r generalizing kvs vs with
 | nil=>intro q;exact q
 | @cons p q ps qs h t ih=>
  intro r0
  have e:KV (a3h kvs p.1 p.2) (stored vs q.1 q.2):=by
   have:=r0.put p.1 h.2
   rw[<-h.1];exact this
  exact ih e
theorem a4d:∀(more kvs:List (Key×V)),(a6b kvs more).length<=kvs.length+more.length
 | [],kvs=>by show kvs.length<=kvs.length+0;omega
 | p::r,kvs=>by
  have h1:=a4d r (a3h kvs p.1 p.2)
  have h2:=a3l kvs p.1 p.2
  show(a6b (a3h kvs p.1 p.2) r).length<=_
  rw[q9];omega
theorem a8u{P:v0}{w:World}:∀ {kvs:List (Key×V)} {ws:List (Value×Value)},VV (kvs.map fun kv=>(kV kv.1,kv.2)) ws->∃rs,Carries (Q1 P w) ws rs/\KV kvs rs
 | [],_,r=>by rw[b4Q]at r;cases r;exact⟨[],True.intro,.nil⟩
 | p::kvs,_,r=>by
  rw[C4]at r
  cases r with
  | @cons a b as bs h t=>
   obtain⟨rs,c,q⟩:=a8u (P:=P) (w:=w) t
   obtain⟨b1,b2⟩:=b
   exact⟨(p.1,b2)::rs,⟨b1X h.1,rfl,c⟩,.cons ⟨rfl,h.2⟩ q⟩
def b7c(trs:List (TE×TE)):TE:=fun σ H Q=>∀p,H p=none->b2H trs σ (upd H p (.dK [])) fun ps H2=>H2 p=some (.dK [])/\∃kvs:List (Key×V),ps=kvs.map (fun kv=>(kV kv.1,kv.2))/\kvs.length<=15/\Q (.ref p) (upd H2 p (.dK (a6b [] kvs)))
theorem c0b{keys:List (Option Expr)}{values:List Expr}{trs:List (TE×TE)}(h:PPs X pos keys values trs)(hall:keys.all (·.isSome)=true)(hl:keys.length=values.length)(h0:keys≠[])
  (h15:keys.length<=15):PE X (.Dict keys values pos) (b7c trs):=by
 intro pins s σ H Q I q
 have hn:=I.hok.fresh (d5 s.heap.objs.size)
 have I1:=I.laid (a:=s.heap.objs.size) (o:=.dK []) (h':=s.heap.push { cls:=.type "dict",data:=.dict #[] }) (t':=s.toks) (fun _ _ q=>d8 _ q) (d5 _) (b2e s.heap I.big)
 refine wpAny_Dict_walk (knd:=Q1 X.prog X.w) hall hl h0 h15 (thn (h pins _ σ _ _ I1 (q _ hn)) fun ws s2 ⟨ps,H2,I2,rel,e,kvs,ep,lk,q2⟩=>?_)
 subst ep
 obtain⟨rs,c,rk⟩:=a8u (P:=X.prog) (w:=X.w) rel
 obtain⟨z,hd,vs0,r0,dd⟩:=b4H I2.hok e
 cases r0
 refine⟨rs,c,dd,fun h' dd' hs=>⟨.ref s.heap.objs.size,_,?_,rfl,q2⟩⟩
 have hz:(a6b [] kvs).length<=g9:=by
  have h1:=a4d kvs []
  rw[a3S]at h1
  rw[sizeLine_eq];omega
 have he:∃q,h'.get? s.heap.objs.size=some q:=let⟨q,_,_,hq,_⟩:=dd'; ⟨q,hq⟩
 exact b0q I2 (by rw[e];exact True.intro) hs he (b8G hz hd (rk.merge .nil) dd')
structure M1(X:Cx)(o:Expr)(m:Str)(apos:Pos)(e:Expr)(cpos:Pos):Prop where
 base:W8 o m X.env (eval o X.env)=eval o X.env
 few:((V5 cpos (d4 [e] X.env)).all (fun x => !x.1)&&(b0U cpos (a2W [] X.env)).all (fun x=>x.1.isSome)
  && decide (([e]:List Expr).length+([]:List a9z).length+(if([]:List a9z).isEmpty then 0 else 1)<30))=true
 line:(apos.endLine == cpos.line)=true
 trees:V5 cpos (d4 [e] X.env)=[(false,eval e X.env)]
structure M2(X:Cx)(o:Expr)(m:Str)(apos:Pos)(e f:Expr)(cpos:Pos):Prop where
 base:W8 o m X.env (eval o X.env)=eval o X.env
 few:((V5 cpos (d4 [e,f] X.env)).all (fun x => !x.1)&&(b0U cpos (a2W [] X.env)).all (fun x=>x.1.isSome)
  && decide (([e,f]:List Expr).length+([]:List a9z).length+(if([]:List a9z).isEmpty then 0 else 1)<30))=true
 line:(apos.endLine == cpos.line)=true
 trees:V5 cpos (d4 [e,f] X.env)=[(false,eval e X.env),(false,eval f X.env)]
section
variable {d:V}{r:Value}{o:Option V}{A:F7}{E:Value->d7->Prop}
end
section
variable {o f:Expr}{apos cpos:Pos}{td ty tx:TE}
end
section
variable {A:F7}{E:Value->d7->Prop}
end
section
variable {A:F7}{E:Value->d7->Prop}
end
end L2
namespace HT
open PySem PyProof.Rows
section
open PySem.SeqAt
open PySem.AutoSeq1 (wpAny_loadPart')
open PySem.MeetsSeq PySem.MeetsSeq2 PySem.MeetsSeq3
end
section
variable {prog:v0}{w:World}{A:F7}{E:Value->d7->Prop}{s:d7}
def sIx(n d:Nat):Option Int->Nat
 | none=>d
 | some v=>if v<0 then (v+(n:Int)).toNat else min v.toNat n
theorem b1z(n d:Nat):sIx n d none=d:=rfl
theorem a5c(n d k:Nat):sIx n d (some (k:Int))=min k n:=by
 show(if(k:Int)<0 then ((k:Int)+(n:Int)).toNat else min (k:Int).toNat n)=min k n
 rw[if_neg (by omega),A3]
theorem c1S(n d:Nat)(hd:d<=n)(o:Option Int):sIx n d o<=n:=by
 cases o with
 | none=>exact hd
 | some v=>
  show(if v<0 then (v+(n:Int)).toNat else min v.toNat n)<=n
  by_cases hv:v<0
  ·rw[if_pos hv];omega
  ·rw[if_neg hv];exact Nat.min_le_right _ _
theorem b4M(v:Int)(n d:Nat):(if v<0 then max (v+(n:Int)) 0 else min v (n:Int))=((sIx n d (some v):Nat):Int):=by
 show(if v<0 then max (v+(n:Int)) 0 else min v (n:Int))=(((if v<0 then (v+(n:Int)).toNat else min v.toNat n):Nat):Int)
 by_cases hv:v<0
 ·simp only[if_pos hv];omega
 ·simp only[if_neg hv];omega
theorem b3X(lo hi:Option Int)(n:Nat):Builtin.Slice.sliceAdjust lo hi 1 (n:Int)=(((sIx n 0 lo:Nat):Int),((sIx n n hi:Nat):Int)):=by
 have h1:¬((1:Int)<0):=by omega
 unfold Builtin.Slice.sliceAdjust
 simp only[h1,if_false]
 refine Prod.ext ?_ ?_
 ·cases lo with
  | none=>rfl
  | some v=>exact b4M v n 0
 ·cases hi with
  | none=>rfl
  | some v=>exact b4M v n n
theorem b3h(i j:Nat):Builtin.Slice.slicePlaces (i:Int) (j:Int) 1=j - i:=by
 unfold Builtin.Slice.slicePlaces
 have h1:(1:Int) > 0:=by omega
 simp only[h1,if_true,Int.ediv_one]
 split <;> omega
theorem a7L{v:Value}{o:Option Int}{Q:Option Int->d7->Prop}(p:c1h v o)(h:Q o s):wpAny (model prog w) A (Builtin.Slice.slicePartIndex v) Q E s:=by
 cases p with
 | none=>exact slicePart_none h
 | int i t=>exact slicePart_int h
theorem a5L{sl:Addr}{vl vu:Value}{lo hi:Option Int}{n:Nat}{Q:Int×Int×Nat->d7->Prop}(hs:s.heap.IsSliceOf sl vl vu .none)(pl:c1h vl lo)(pu:c1h vu hi)
  (h:Q (((sIx n 0 lo:Nat):Int),1,sIx n n hi - sIx n 0 lo) s):wpAny (model prog w) A (Builtin.Slice.sliceApplied (.ref sl) (pure (n:Int))) Q E s:=by
 obtain⟨os,hos,hcs,hds⟩:=id hs
 unfold Builtin.Slice.sliceApplied Builtin.Slice.sliceFields
 refine l6 (l6 (c5e hos hds (x:=vl) rfl (l6 (c5e hos hds (x:=vu) rfl (l6 (c5e hos hds (x:=.none) rfl (z7 ?_)))))))
 refine l6 (slicePart_none ?_)
 show wpAny _ _ (if((1:Int) == 0)=true then _ else _) _ _ s
 rw[if_neg (by decide)]
 refine l6 (a7L pl (l6 (a7L pu (l6 (z7 ?_)))))
 show wpAny _ _ (match Builtin.Slice.sliceAdjust lo hi 1 (n:Int)with | (lo,hi)=>pure (lo,(1:Int),Builtin.Slice.slicePlaces lo hi 1)) _ _ s
 rw[b3X lo hi n]
 show wpAny _ _ (pure (((sIx n 0 lo:Nat):Int),(1:Int),Builtin.Slice.slicePlaces ((sIx n 0 lo:Nat):Int) ((sIx n n hi:Nat):Int) 1)) _ _ s
 rw[b3h]
 exact z7 h
theorem b7S(xs:Array Value)(i k:Nat):((D9 k).filterMap fun(m:Nat)=>xs[((i:Int)+(m:Int) * 1).toNat]?).toArray=((xs.toList.drop i).take k).toArray:=by
 have e:(fun(m:Nat)=>xs[((i:Int)+(m:Int) * 1).toNat]?)=fun m=>xs[i+m]?:=by
  funext m
  have:((i:Int)+(m:Int) * 1).toNat=i+m:=by omega
  rw[this]
 rw[e]
 have:=pick_run xs i k
 rw[List.filterMap_map]at this
 have e2:((fun x=>xs[x]?) ∘ fun x=>i+x)=fun m=>xs[i+m]?:=rfl
 rw[e2]at this
 rw[this]
theorem a5l{t sl:Addr}{items:Array Value}{vl vu:Value}{lo hi:Option Int}{Q:Value->d7->Prop}(ht:IsTup s.heap t items)(hs:s.heap.IsSliceOf sl vl vu .none)(pl:c1h vl lo)(pu:c1h vu hi)
  (hw:¬(sIx items.size 0 lo=0/\sIx items.size items.size hi=items.size))
  (h:Q (.ref s.heap.objs.size) { s with heap:=s.heap.push { cls:=.type "tuple",data:=.seq ((items.toList.drop (sIx items.size 0 lo)).take (sIx items.size items.size hi - sIx items.size 0 lo)).toArray } })
  (hsz:items.size<=g9):wpAny (model prog w) A (c1B (.ref t) (.ref sl)) Q E s:=by
 have htake:sizeOk (.seq ((items.toList.drop (sIx items.size 0 lo)).take (sIx items.size items.size hi - sIx items.size 0 lo)).toArray):=by
  show((items.toList.drop (sIx items.size 0 lo)).take (sIx items.size items.size hi - sIx items.size 0 lo)).toArray.size<=g9
  rw[d6,C8,a0T,u5]
  omega
 have hj:sIx items.size items.size hi<=items.size:=c1S _ _ (d5 _) hi
 obtain⟨os,hos,hcs,hds⟩:=id hs
 have hTs:s.TypeIs (.ref sl) "slice" := ⟨os,hos,hcs⟩
 unfold c1B
 try with_reducible refine b0R ?_
 first | refine l6 (z7 ?_) | skip
 refine l6 (wpAny_sequenceKey ht.typeIs (by decide) ?_)
 refine l6 (wpAny_callSpecial?_slot (name:=Str.ofString "__getitem__") ht.typeIs Z2
  (wpAny_call_entry Z2 ht.typeIs entry_tuple_getitem ?_ (args_tuple_getitem _ _)))
 show wpAny _ _ (Builtin.Tuple.tupleItemsOf (.ref t) >>= _) _ _ s
 refine l6 (tupleItemsOf_ ht ?_)
 refine l6 (wpAny_typeOf hTs ?_)
 rw[if_pos (by decide)]
 refine l6 (a5L hs pl pu ?_)
 have hno:¬((((sIx items.size 0 lo:Nat):Int) == 0&&(1:Int) == 1&&(sIx items.size items.size hi - sIx items.size 0 lo) == items.size)=true):=by
  intro q
  rw[O8,O8]at q
  have q1:((sIx items.size 0 lo:Nat):Int)=0:=eq_of_beq q.1.1
  have q2:sIx items.size items.size hi - sIx items.size 0 lo=items.size:=eq_of_beq q.2
  exact hw ⟨by omega,by omega⟩
 show wpAny _ _ (if(((sIx items.size 0 lo:Nat):Int) == 0&&(1:Int) == 1&&(sIx items.size items.size hi - sIx items.size 0 lo) == items.size)=true then _ else _) _ _ s
 rw[if_neg hno,b7S]
 first
  | exact l6 (m:=Builtin.Tuple.tupleExact _) (a0n (z7 ⟨_,rfl,z7 h⟩) htake)
  | exact l6 (m:=Builtin.Tuple.tupleExact _) (a0n (l6 (z7 (z7 ⟨_,rfl,z7 h⟩))) htake)
  | exact l6 (l6 (m:=Builtin.Tuple.tupleExact _) (a0n (z7 (z7 ⟨_,rfl,z7 h⟩)) htake))
  | exact l6 (l6 (m:=Builtin.Tuple.tupleExact _) (a0n (z7 ⟨_,rfl,z7 h⟩) htake))
end
end HT
namespace L2
open PySem PySem.Spec PyProof.Rows
variable{X:Cx}{n:Nat}{pins:List (Addr×Obj)}{σ:St}{H:Hp}{s:d7}{xs:List V}{x:V}{us:List Value}
abbrev TO:=St->Hp->(Option Int->Hp->Prop)->Prop
def PO(X:Cx)(e:Option Expr)(t:TO):Prop:=
 ∀(pins:List (Addr×Obj)) (s:d7) (σ:St) (H:Hp) (Q:Option Int->Hp->Prop),Inv X pins σ H s->t σ H Q ->
  wpAny (model X.prog X.w) X.A (evalPart e X.env) (fun u s'=>∃o H',Inv X pins σ H' s'/\c1h u o/\Q o H') X.xe s
def a0B:TO:=fun _ H Q=>Q none H
def a4c(t:TE):TO:=fun σ H Q=>t σ H fun x H1=>∃i,x=.int i/\Q (some i) H1
section
variable {e:Expr}{te:TE}{lo hi:Option Expr}{tl th:TO}{pos p2:Pos}
theorem b9V:PO X none a0B:=by
 intro pins s σ H Q I h
 rw[evalPart_none]
 exact z7 ⟨none,H,I,.none,h⟩
theorem b9U(h:PE X e te):PO X (some e) (a4c te):=by
 intro pins s σ H Q I hw
 rw[evalPart_some]
 refine thn (h pins s σ H _ I hw) fun u s1 ⟨x,H1,I1,r1,q1⟩=>?_
 obtain⟨i,rfl,q⟩:=q1
 obtain⟨t,rfl⟩:=r1
 exact⟨some i,H1,I1,.int i t,q⟩
def SlR(X:Cx)(r:V->Option Int->Option Int->Hp->VK->Prop):Prop:=
 ∀(pins:List (Addr×Obj)) (s:d7) (σ:St) (H:Hp) (x:V) (v vl vu:Value) (lo hi:Option Int) (sl:Addr) (Q:VK),Inv X pins σ H s->C1 x v->s.heap.IsSliceOf sl vl vu .none->c1h vl lo->c1h vu hi->r x lo hi H Q ->
  ∃T id,typeLookup (.type T) "__getitem__" = pure (some (.builtin id))/\s.TypeIs v T/\wpAny (model X.prog X.w) X.A (c1B v (.ref sl)) (EP X pins σ Q) X.xe s
theorem SlR.or{r r':V->Option Int->Option Int->Hp->VK->Prop}(h:SlR X r)(h':SlR X r'):SlR X (fun x lo hi H Q=>r x lo hi H Q\/r' x lo hi H Q):=by
 intro pins s σ H x v vl vu lo hi sl Q I rx hs pl pu q
 rcases q with q | q
 ·exact h pins s σ H x v vl vu lo hi sl Q I rx hs pl pu q
 ·exact h' pins s σ H x v vl vu lo hi sl Q I rx hs pl pu q
def tSl(r:V->Option Int->Option Int->Hp->VK->Prop)(te:TE)(tl th:TO):TE:=fun σ H Q=>te σ H fun x H1=>tl σ H1 fun l H2=>th σ H2 fun u H3=>r x l u H3 Q
theorem b7U{r:V->Option Int->Option Int->Hp->VK->Prop}(hr:SlR X r)(he:PE X e te)(hl:PO X lo tl)(hu:PO X hi th):PE X (.Subscript e (.Slice lo hi none p2) pos) (tSl r te tl th):=by
 intro pins s σ H Q I h
 refine Subscript_ (thn (he pins s σ H _ I h) fun v s1 ⟨x,H1,I1,r1,q1⟩=>?_)
 refine wpAny_Slice (thn (hl pins s1 σ H1 _ I1 q1) fun vl s2 ⟨l,H2,I2,pl,q2⟩=>thn (hu pins s2 σ H2 _ I2 q2) fun vu s3 ⟨u,H3,I3,pu,q3⟩=>?_)
 rw[evalPart_none]
 refine z7 ?_
 have I4:Inv X pins σ H3 { s3 with heap:=s3.heap.push { cls:=.type "slice",data:=.fields #[vl,vu,.none] } }:=I3.kept (t':=s3.toks) fun b ob q=>d8 _ q
 obtain⟨T,id,hT,ht,hg⟩:=hr pins { s3 with heap:=s3.heap.push { cls:=.type "slice",data:=.fields #[vl,vu,.none] } } σ H3 x v vl vu l u s3.heap.objs.size Q I4 r1 (Heap.IsSliceOf.new ..) pl pu q3
 show wpAny (model X.prog X.w) X.A (subscriptTail e (.Slice lo hi none p2) v (.ref s3.heap.objs.size)) (EP X pins σ Q) X.xe { s3 with heap:=s3.heap.push { cls:=.type "slice",data:=.fields #[vl,vu,.none] } }
 exact tail_any (ops:=[.ref s3.heap.objs.size,v]) ht hT hg (by with_unfolding_all rfl)
def a1r(xs:List V)(lo hi:Option Int):List V:=(xs.drop (HT.sIx xs.length 0 lo)).take (HT.sIx xs.length xs.length hi - HT.sIx xs.length 0 lo)
theorem a6y(xs:List V)(lo hi:Option Int):(a1r xs lo hi).length<=xs.length:=by
 unfold a1r
 rw[C8,a0T]
 omega
def c5m(K:Fg):V->Option Int->Option Int->Hp->VK->Prop:=fun x lo hi H Q=>∃a xs,x=.ref a/\SqT K H a xs /\
 ¬(HT.sIx xs.length 0 lo=0/\HT.sIx xs.length xs.length hi=xs.length)/\∀p,H p=none->Q (.ref p) (upd H p (.tup (a1r xs lo hi)))
theorem c1E:SlR X (c5m X.K):=by
 intro pins s σ H x v vl vu lo hi sl Q I rx hs pl pu h
 obtain⟨a,xs,rfl,hx,hw,q⟩:=h
 cases rx
 obtain⟨its,r,ht,hz⟩:=I.tuple hx
 have hlen:its.toArray.size=xs.length:=by rw[d6];exact r.length.symm
 refine⟨"tuple",_,Z2.lookup,ht.typeIs,?_⟩
 refine HT.a5l ht hs pl pu (by rw[hlen];exact hw) ?_ (by rw[hlen];exact hz)
 rw[hlen]
 refine⟨.ref s.heap.objs.size,_,I.laid (t':=s.toks) (o:=.tup (a1r xs lo hi)) (fun b ob q=>d8 _ q) (d5 _) ?_,rfl,q _ (I.hok.fresh (d5 _))⟩
 exact⟨v9 (a6y xs lo hi) hz,_,(r.drop (HT.sIx xs.length 0 lo)).take (HT.sIx xs.length xs.length hi - HT.sIx xs.length 0 lo),IsTup.new _ _⟩
end
def ixN(n:Nat)(i:Int):Option Nat:=if 0<=i then (if i<n then some i.toNat else none)else if -(n:Int)<=i then some (i+n).toNat else none
def atI{α:Type}(xs:List α)(i:Int):Option α:=(ixN xs.length i).bind fun j=>xs[j]?
theorem b4C{i:Int}{j:Nat}(h:ixN n i=some j):seqIndex? i n=some j/\j<n /\ -(n:Int)<=i/\i<n:=by
 unfold ixN at h
 by_cases h0:0<=i
 ·rw[if_pos h0]at h
  by_cases h1:i<n
  ·rw[if_pos h1]at h
   have e:i.toNat=j:=Option.some.inj h
   exact⟨by rw[c5f h0 h1,e],by omega,by omega,h1⟩
  ·rw[if_neg h1]at h;cases h
 ·rw[if_neg h0]at h
  by_cases h1 : -(n:Int)<=i
  ·rw[if_pos h1]at h
   have e:(i+n).toNat=j:=Option.some.inj h
   exact⟨by rw[c3R (by omega) h1,e],by omega,h1,by omega⟩
  ·rw[if_neg h1]at h;cases h
theorem b0E{α:Type}{xs:List α}{i:Int}{v:α}(h:atI xs i=some v):∃j,seqIndex? i xs.length=some j/\xs[j]? = some v/\j<xs.length /\ -(xs.length:Int)<=i/\i<xs.length:=by
 unfold atI at h
 cases e:ixN xs.length i with
 | none=>rw[e]at h;cases h
 | some j=>
  rw[e]at h
  obtain⟨h1,h2,h3,h4⟩:=b4C e
  exact⟨j,h1,h,h2,h3,h4⟩
theorem U9{α:Type}{xs:List α}{j:Nat}{v:α}(h:xs[j]? = some v):atI xs (j:Int)=some v:=by
 have hj:j<xs.length:=(i9.mp h).1
 have e:ixN xs.length (j:Int)=some j:=by
  unfold ixN
  rw[if_pos (by omega),if_pos (by omega)];simp
 unfold atI;rw[e];exact h
def b0I(b:Expr):Prop:=∀o i,subscripted b false o i=operate [o,i] (c1B o i)
def IxR(X:Cx)(r:R2):Prop:=
 ∀(value slice:Expr) (pins:List (Addr×Obj)) (s:d7) (σ:St) (H:Hp) (x y:V) (v u:Value) (Q:VK),Inv X pins σ H s->C1 x v->C1 y u->r x y H Q ->
  subscripted slice false v u=operate [v,u] (c1B v u)->wpAny (model X.prog X.w) X.A (subscriptTail value slice v u) (EP X pins σ Q) X.xe s
def MtR(X:Cx)(id:String)(r:V->List V->Hp->VK->Prop):Prop:=
 ∀(pins:List (Addr×Obj)) (s:d7) (σ:St) (H:Hp) (x:V) (xs:List V) (v:Value) (us:List Value) (Q:VK),Inv X pins σ H s->C1 x v->D0 xs us->r x xs H Q ->
  wpAny (model X.prog X.w) X.A (call (.builtin id) (v::us)) (EP X pins σ Q) X.xe s
section
variable {a b:Expr}{ta tb:TE}{pos:Pos}
theorem IxR.or{r r':R2}(h:IxR X r)(h':IxR X r'):IxR X (fun x y H Q=>r x y H Q\/r' x y H Q):=by
 intro value slice pins s σ H x y v u Q I rx ry q hs
 rcases q with q | q
 ·exact h value slice pins s σ H x y v u Q I rx ry q hs
 ·exact h' value slice pins s σ H x y v u Q I rx ry q hs
theorem c4C{r:R2}(hr:IxR X r)(ha:PE X a ta)(hb:PE X b tb)(hs:b0I b):PE X (.Subscript a b pos) (tOp r ta tb):=by
 intro pins s σ H Q I h
 exact Subscript_ (c3r ha hb I h fun v u s2 x y H2 I2 rx ry q=>hr a b pins s2 σ H2 x y v u Q I2 rx ry q (hs _ _))
def c4m(K:Fg):R2:=fun x y H Q=>∃p xs i v,x=.ref p/\y=.int i/\SqL K H p xs/\atI xs i=some v/\Q v H
def c4k(K:Fg):R2:=fun x y H Q=>∃p xs i v,x=.ref p/\y=.int i/\SqT K H p xs/\atI xs i=some v/\Q v H
def c4l:R2:=fun x y H Q=>∃z i c,x=.str z/\y=.int i/\z.length<=g9/\atI z.cps.toList i=some c/\Q (.str ⟨#[c]⟩) H
theorem c0I:IxR X (c4m X.K):=by
 intro value slice pins s σ H x y v u Q I rx ry h hs
 obtain⟨p,xs,i,z,rfl,rfl,hq,he,q⟩:=h
 cases rx
 obtain⟨t,rfl⟩:=ry
 obtain⟨its,r,pl,hz⟩:=I.list hq
 obtain⟨j,h1,h2,h3,h4,h5⟩:=b0E he
 obtain⟨w,ew,rw'⟩:=r.get h2
 have hl:=r.length
 have hn:=a4A
 have fin:EP X pins σ Q w s:=⟨z,H,I,rw',q⟩
 by_cases h0:0<=i
 ·have hj:i.toNat=j:=by
   rw[c5f h0 h5]at h1
   exact Option.some.inj h1
  exact item_listR pl.isList h0 (by omega) (by rw[hj];simpa using ew) fin hs
 ·have hj:(i+(its.toArray.size:Int)).toNat=j:=by
   rw[c3R (by omega) h4]at h1
   rw[d6,<-hl]
   exact Option.some.inj h1
  exact c3I (x:=w) pl.isList.typeIs slot_list_getitem.lookup
   (wpAny_getItem_list_neg (Q:=fun r s'=>r=w/\EP X pins σ Q r s') pl.isList (by omega) (by rw[d6] <;> omega) (by omega) (by rw[hj];simpa using ew) ⟨rfl,fin⟩) hs
theorem c3i:IxR X (c4k X.K):=by
 intro value slice pins s σ H x y v u Q I rx ry h hs
 obtain⟨p,xs,i,z,rfl,rfl,hq,he,q⟩:=h
 cases rx
 obtain⟨t,rfl⟩:=ry
 obtain⟨its,r,pl,hz⟩:=I.tuple hq
 obtain⟨j,h1,h2,h3,h4,h5⟩:=b0E he
 obtain⟨w,ew,rw'⟩:=r.get h2
 have hl:=r.length
 have hn:=a4A
 have fin:EP X pins σ Q w s:=⟨z,H,I,rw',q⟩
 exact c3I (x:=w) pl.typeIs slot_tuple_getitem.lookup
  (getItem_tuple (j:=j) (Q:=fun r s'=>r=w/\EP X pins σ Q r s') pl (by omega) (by omega) (by rw[d6,<-hl];exact h1) (by simpa using ew) ⟨rfl,fin⟩) hs
theorem c3j:IxR X c4l:=by
 intro value slice pins s σ H x y v u Q I rx ry h hs
 obtain⟨z,i,c,rfl,rfl,hz,he,q⟩:=h
 obtain⟨t,rfl⟩:=rx
 obtain⟨t',rfl⟩:=ry
 obtain⟨j,h1,h2,h3,h4,h5⟩:=b0E he
 have hl:z.cps.toList.length=z.length:=by simp[Str.length]
 rw[hl]at h1 h4 h5
 have hn:=a4A
 exact tail_any (typeIs_str s z t) slot_str_getitem.lookup (getItem_str (c:=c) (by
  have e1:decide (i < -(2 ^ 63:Int))=false:=c6F (by omega)
  have e2:decide (i ≥ 2 ^ 63)=false:=c6F (by omega)
  rw[e1,e2,Bool.or_false]) (by rw[h1];simpa using h2) ⟨.str ⟨#[c]⟩,H,I.tok _,⟨_,rfl⟩,q⟩) hs
def rIx(K:Fg):R2:=fun x y H Q=>c4m K x y H Q\/c4k K x y H Q\/c4l x y H Q
theorem c3k:IxR X (rIx X.K):=c0I.or (c3i.or c3j)
theorem b3w(its:List Value)(n j:Nat)(u:Value):Obj.mapSeq (·.setIfInBounds j u) { cls:=.type "list",data:=.seq its.toArray n }={ cls:=.type "list",data:=.seq (its.set j u).toArray n }:=by
 simp[Obj.mapSeq]
theorem Inv.lst{pins:List (Addr×Obj)}{σ:St}{H:Hp}{s:d7}{p:Addr}{xs:List V}(I:Inv X pins σ H s)(h:H p=some (.lst xs)) :
  ∃(its:List Value) (n:Nat),D0 xs its/\s.heap.get? p=some { cls:=.type "list",data:=.seq its.toArray n }/\xs.length<=g9:=by
 obtain⟨z,its,n,r,e⟩:=I.hok p _ h
 exact⟨its,n,r,e,z⟩
theorem Inv.lstUpd{p:Addr}{ys:List V}{its its':List Value}{n':Nat}{f:Obj->Obj}(I:Inv X pins σ H s)(h:H p=some (.lst xs))
  (ho:s.heap.get? p=some { cls:=.type "list",data:=.seq its.toArray n }) (hf:f { cls:=.type "list",data:=.seq its.toArray n }={ cls:=.type "list",data:=.seq its'.toArray n' }) (r:D0 ys its') (hz:ys.length<=g9) (t:Nat) :
  Inv X pins σ (upd H p (.lst ys)) { s with heap:=s.heap.update p f,toks:=t }:=by
 have e:(s.heap.update p f).get? p=some { cls:=.type "list",data:=.seq its'.toArray n' }:=by
  rw[Heap.get?_update_self f ho (by rw[hf] <;> rfl),hf]
 refine I.write (x:=p) (e:=p) (by rw[h];trivial) (.inl rfl) (fun b u hb q=>(b4V _ _ (Ne.symm hb)).trans q) ⟨_,e⟩ ?_
 exact⟨hz,its',n',r,e⟩
def c4j:V->V->V->Hp->(Hp->Prop)->Prop:=fun o i v H Q=>∃p xs k j,o=.ref p/\i=.int k/\H p=some (.lst xs)/\ixN xs.length k=some j/\Q (upd H p (.lst (xs.set j v)))
theorem b7e:b8Q X c4j:=by
 intro pins s σ H o i v ov iv u Q I ro ri rv h
 obtain⟨p,xs,k,j,rfl,rfl,hp,hj,q⟩:=h
 cases ro
 obtain⟨t,rfl⟩:=ri
 obtain⟨its,n,r,ho,hz⟩:=I.lst hp
 obtain⟨h1,h2,h3,h4⟩:=b4C hj
 have hl:=r.length
 have hn:=a4A
 have I':Inv X pins σ (upd H p (.lst (xs.set j v))) { s with heap:=s.heap.update p (Obj.mapSeq (·.setIfInBounds j u)) }:=
  I.lstUpd hp ho (b3w its n j u) (r.set rv j) (by rw[a0j];exact hz) s.toks
 by_cases h0:0<=k
 ·have hk:k.toNat=j:=by
   rw[c5f h0 h4]at h1
   exact Option.some.inj h1
  exact PySem.W.ki_setAt ho h0 (by omega) (by rw[d6,<-hl];exact h4) (by rw[hk];exact⟨_,I',q⟩)
 ·have hk:(k+(its.toArray.size:Int)).toNat=j:=by
   rw[c3R (by omega) h3]at h1
   rw[d6,<-hl]
   exact Option.some.inj h1
  exact PySem.W.ki_setBack ho (by omega) (by rw[d6,<-hl];exact h3) (by omega) (by rw[hk];exact⟨_,I',q⟩)
theorem a9K(lo hi:Option Int)(n:Nat):(a2U lo hi none n).1=((HT.sIx n 0 lo:Nat):Int)/\(a2U lo hi none n).2.1=((HT.sIx n n hi:Nat):Int)/\(a2U lo hi none n).2.2=1:=by
 refine⟨?_,?_,rfl⟩
 ·cases lo with
  | none=>simp[a2U,HT.sIx]
  | some i=>
   simp only[a2U,HT.sIx,b9b,show(1:Int) > 0 by decide,if_true]
   by_cases h:i<0
   ·simp only[h,if_true] <;> omega
   ·simp only[h,if_false] <;> omega
 ·cases hi with
  | none=>simp[a2U,HT.sIx]
  | some i=>
   simp only[a2U,HT.sIx,b9b,show(1:Int) > 0 by decide,if_true]
   by_cases h:i<0
   ·simp only[h,if_true] <;> omega
   ·simp only[h,if_false] <;> omega
theorem a8G(its:List Value)(lo hi:Option Int):slicePick its.toArray lo hi none=((its.drop (HT.sIx its.length 0 lo)).take (HT.sIx its.length its.length hi - HT.sIx its.length 0 lo)).toArray:=by
 obtain⟨h1,h2,h3⟩:=a9K lo hi its.toArray.size
 unfold slicePick
 rw[h1,h2,h3]
 simp only[sliceRange_one,pick_run,d6] <;> rfl
def c1V(K:Fg):V->Option Int->Option Int->Hp->VK->Prop:=fun x lo hi H Q=>∃a xs,x=.ref a/\SqL K H a xs/\∀p,H p=none->Q (.ref p) (upd H p (.lst (a1r xs lo hi)))
theorem b4r:SlR X (c1V X.K):=by
 intro pins s σ H x v vl vu lo hi sl Q I rx hs pl pu h
 obtain⟨a,xs,rfl,hx,q⟩:=h
 cases rx
 obtain⟨its,r,ht,hz⟩:=I.list hx
 have hlen:=r.length
 refine⟨"list",_,slot_list_getitem.lookup,ht.isList.typeIs,?_⟩
 refine wpAny_getItem_list_slice ht.isList hs pl pu .none (by simp) ?_ (by rw[d6] <;> omega)
 rw[a8G,<-hlen]
 refine⟨.ref s.heap.objs.size,_,I.laid (t':=s.toks) (o:=.lst (a1r xs lo hi)) (fun b ob q=>d8 _ q) (d5 _) ?_,rfl,q _ (I.hok.fresh (d5 _))⟩
 exact⟨v9 (a6y xs lo hi) hz,_,0,(r.drop (HT.sIx xs.length 0 lo)).take (HT.sIx xs.length xs.length hi - HT.sIx xs.length 0 lo),u6 _ rfl⟩
def E5:V->Bool
 | .non=>true
 | .bl _=>true
 | .int _=>true
 | .str _=>true
 | _=>false
def eqV:V->V->Bool
 | .non,.non=>true
 | .bl a,.bl b=>a == b
 | .bl a,.int b=>(if a then 1 else 0) == b
 | .int a,.bl b=>a == (if b then 1 else 0)
 | .int a,.int b=>a == b
 | .str a,.str b=>a == b
 | _,_=>false
theorem b3L{A:F7}{y:V}{u v:Value}(ry:C1 y u)(rx:C1 x v)(fy:E5 y=true)(fx:E5 x=true):SeqAt.EqAt A s u v (eqV y x):=by
 cases y with
 | non=>
  cases ry
  cases x with
  | non=>cases rx;exact SeqAt.EqAt.same _
  | bl b=>cases rx;exact SeqAt.EqAt.none_bool b
  | int b=>obtain⟨t,rfl⟩:=rx;exact SeqAt.EqAt.none_int b t
  | str b=>obtain⟨t,rfl⟩:=rx;exact SeqAt.EqAt.none_str b t
  | _=>exact absurd (show false=true from fx) j7
 | bl a=>
  cases ry
  cases x with
  | non=>cases rx;exact SeqAt.EqAt.bool_none a
  | bl b=>cases rx;exact SeqAt.EqAt.bool_bool a b
  | int b=>obtain⟨t,rfl⟩:=rx;exact SeqAt.EqAt.bool_int a b t
  | str b=>obtain⟨t,rfl⟩:=rx;exact SeqAt.EqAt.bool_str a b t
  | _=>exact absurd (show false=true from fx) j7
 | int a=>
  obtain⟨t',rfl⟩:=ry
  cases x with
  | non=>cases rx;exact SeqAt.EqAt.int_none a t'
  | bl b=>cases rx;exact SeqAt.EqAt.int_bool a t' b
  | int b=>obtain⟨t,rfl⟩:=rx;exact SeqAt.EqAt.int_int a t' b t
  | str b=>obtain⟨t,rfl⟩:=rx;exact SeqAt.EqAt.int_str a t' b t
  | _=>exact absurd (show false=true from fx) j7
 | str a=>
  obtain⟨t',rfl⟩:=ry
  cases x with
  | non=>cases rx;exact SeqAt.EqAt.str_none a t'
  | bl b=>cases rx;exact SeqAt.EqAt.str_bool a t' b
  | int b=>obtain⟨t,rfl⟩:=rx;exact SeqAt.EqAt.str_int a t' b t
  | str b=>obtain⟨t,rfl⟩:=rx;exact SeqAt.EqAt.str_str a t' b t
  | _=>exact absurd (show false=true from fx) j7
 | _=>exact absurd (show false=true from fy) j7
def eqU(x:V)(u:Value):Bool:=match u with
 | .none=>eqV .non x
 | .bool b=>eqV (.bl b) x
 | .int i _=>eqV (.int i) x
 | .str z _=>eqV (.str z) x
 | _=>false
theorem b3K{y:V}{u:Value}(r:C1 y u)(f:E5 y=true):eqU x u=eqV y x:=by
 cases y with
 | non=>cases r;rfl
 | bl b=>cases r;rfl
 | int i=>obtain⟨t,rfl⟩:=r;rfl
 | str z=>obtain⟨t,rfl⟩:=r;rfl
 | _=>exact absurd (show false=true from f) j7
theorem a5s:∀ {xs:List V} {us:List Value},D0 xs us->xs.all E5=true->us.any (eqU x)=xs.any fun y=>eqV y x
 | _,_,.nil,_=>rfl
 | y::xs,u::us,.cons r t,f=>by
  rw[Z3,O8]at f
  rw[W3,W3,b3K r f.1,a5s t f.2]
theorem a2a{A:F7}{v:Value}(rx:C1 x v)(fx:E5 x=true):∀ {xs:List V} {us:List Value},D0 xs us->xs.all E5=true->∀u∈us,SeqAt.EqAt A s u v (eqU x u)
 | _,_,.nil,_=>fun u hu=>by cases hu
 | y::xs,u::us,.cons r t,f=>fun u' hu=>by
  rw[Z3,O8]at f
  rcases c7.mp hu with rfl | hu
  ·rw[b3K r f.1];exact b3L r rx f.1 fx
  ·exact a2a rx fx t f.2 u' hu
def inV(x:V)(xs:List V):Bool:=xs.any fun y=>eqV y x
def rIn(K:Fg)(neg:Bool):R2:=fun x y H Q=>∃p xs,y=.ref p/\(SqL K H p xs\/SqT K H p xs)/\E5 x=true/\xs.all E5=true/\Q (.bl (if neg then !inV x xs else inV x xs)) H
theorem a9f:OpR X (o4 .In) (rIn X.K false):=by
 intro pins s σ H x y v u Q I rx ry h
 obtain⟨p,xs,rfl,hq,fx,fs,q⟩:=h
 cases ry
 rcases hq with hq | hq
 ·obtain⟨its,r,pl,hz⟩:=I.list hq
  refine SeqAt.in_listAt (eqU x) pl.isList (fun w hw=>a2a rx fx r fs w (by simpa using hw)) ⟨.bl _,H,I,rfl,?_⟩
  rw[show its.toArray.any (eqU x)=its.any (eqU x) by simp,a5s r fs]
  exact q
 ·obtain⟨its,r,pl,hz⟩:=I.tuple hq
  refine SeqAt.in_tupleAt (eqU x) pl (fun w hw=>a2a rx fx r fs w (by simpa using hw)) ⟨.bl _,H,I,rfl,?_⟩
  rw[show its.toArray.any (eqU x)=its.any (eqU x) by simp,a5s r fs]
  exact q
theorem b0f:OpR X (o4 .NotIn) (rIn X.K true):=by
 intro pins s σ H x y v u Q I rx ry h
 obtain⟨p,xs,rfl,hq,fx,fs,q⟩:=h
 cases ry
 rcases hq with hq | hq
 ·obtain⟨its,r,pl,hz⟩:=I.list hq
  refine SeqAt.notIn_listAt (eqU x) pl.isList (fun w hw=>a2a rx fx r fs w (by simpa using hw)) ⟨.bl _,H,I,rfl,?_⟩
  rw[show its.toArray.any (eqU x)=its.any (eqU x) by simp,a5s r fs]
  exact q
 ·obtain⟨its,r,pl,hz⟩:=I.tuple hq
  refine SeqAt.notIn_tupleAt (eqU x) pl (fun w hw=>a2a rx fx r fs w (by simpa using hw)) ⟨.bl _,H,I,rfl,?_⟩
  rw[show its.toArray.any (eqU x)=its.any (eqU x) by simp,a5s r fs]
  exact q
theorem b0e:OpR X (o4 .NotIn) (fun x y H Q=>∃i j,x=.str i/\y=.str j/\Q (.bl (!(!(Builtin.Str.occurrences j i 0 j.length 1).isEmpty))) H):=by
 intro pins s σ H x y v u Q I rx ry h
 obtain⟨i,j,rfl,rfl,q⟩:=h
 obtain⟨t,rfl⟩:=rx
 obtain⟨t',rfl⟩:=ry
 exact notIn_str ⟨.bl _,H,I,rfl,q⟩
theorem b0z:O7 X (.builtin "len") (fun xs H Q=>∃p ys,xs=[.ref p]/\(SqL X.K H p ys\/SqT X.K H p ys)/\Q (.int ys.length) H):=by
 intro pins s σ H xs us Q I r h
 obtain⟨p,ys,rfl,hq,q⟩:=h
 obtain⟨u,rfl,rx⟩:=a1V r
 cases rx
 have hn:=a4A
 rcases hq with hq | hq
 ·obtain⟨its,r',pl,hz⟩:=I.list hq
  have hlen:=r'.length
  exact Calls.call_len_list pl.isList (by simp only[d6] <;> omega) ⟨.int ys.length,H,I.tok _,⟨s.toks+1,by rw[d6,hlen]⟩,q⟩
 ·obtain⟨its,r',pl,hz⟩:=I.tuple hq
  have hlen:=r'.length
  exact len_tuple pl (by simp only[d6] <;> omega) ⟨.int ys.length,H,I.tok _,⟨s.toks+1,by rw[d6,hlen]⟩,q⟩
theorem b0y:O7 X (.builtin "len") (fun xs H Q=>∃z,xs=[.str z]/\z.length<=g9/\Q (.int z.length) H):=by
 intro pins s σ H xs us Q I r h
 obtain⟨z,rfl,hz,q⟩:=h
 obtain⟨u,rfl,t,rfl⟩:=a1V r
 have hn:=a4A
 exact len_str (by omega) ⟨.int z.length,H,I.tok _,⟨_,rfl⟩,q⟩
theorem O7.or{f:Value}{r r':List V->Hp->VK->Prop}(h:O7 X f r)(h':O7 X f r'):O7 X f (fun xs H Q=>r xs H Q\/r' xs H Q):=by
 intro pins s σ H xs us Q I rs q
 rcases q with q | q
 ·exact h pins s σ H xs us Q I rs q
 ·exact h' pins s σ H xs us Q I rs q
theorem b0x:O7 X (.type "list") (fun xs H Q=>∃p ys,xs=[.ref p]/\(SqL X.K H p ys\/SqT X.K H p ys)/\∀l,H l=none->Q (.ref l) (upd H l (.lst ys))):=by
 intro pins s σ H xs us Q I r h
 obtain⟨p,ys,rfl,hq,q⟩:=h
 obtain⟨u,rfl,rx⟩:=a1V r
 cases rx
 have fin:∀(its:List Value),D0 ys its->ys.length<=g9->∀(h':Heap) (c':Nat),(∀b o',s.heap.get? b=some o'->h'.get? b=some o') ->
   h'.get? s.heap.objs.size=some { cls:=.type "list",dict:=none,data:=.seq its.toArray c',slots := #[] }->EP X pins σ Q (.ref s.heap.objs.size) { s with heap:=h' }:=fun its r' hz h' c' kp e=>
  ⟨.ref s.heap.objs.size,_,I.laid (t':=s.toks) kp (d5 _) (show Q3 X.prog X.w _ h' _ (.lst ys)from⟨hz,its,c',r',e⟩),rfl,q _ (I.hok.fresh (d5 _))⟩
 rcases hq with hq | hq
 ·obtain⟨its,r',pl,hz⟩:=I.list hq
  have hlen:=r'.length
  obtain⟨o,ho,hc,n,hd⟩:=pl.isList
  exact call_list_seq p (.inl rfl) ho hc hd (fun h' c' kp e=>fin its r' hz h' c' kp e) (by simp only[d6] <;> omega)
 ·obtain⟨its,r',pl,hz⟩:=I.tuple hq
  have hlen:=r'.length
  obtain⟨o,ho,hc,n,hd⟩:=pl
  exact call_list_seq p (.inr rfl) ho hc hd (fun h' c' kp e=>fin its r' hz h' c' kp e) (by simp only[d6] <;> omega)
theorem a8S:O7 X (.type "tuple") (fun xs H Q=>∃p ys,xs=[.ref p]/\((SqL X.K H p ys/\∀l,H l=none->Q (.ref l) (upd H l (.tup ys)))\/(SqT X.K H p ys/\Q (.ref p) H))):=by
 intro pins s σ H xs us Q I r h
 obtain⟨p,ys,rfl,h⟩:=h
 obtain⟨u,rfl,rx⟩:=a1V r
 cases rx
 rcases h with ⟨hq,q⟩ | ⟨hq,q⟩
 ·obtain⟨its,r',pl,hz⟩:=I.list hq
  have hlen:=r'.length
  refine call_tuple_list pl.isList (fun h' kp=>?_) (by simp only[d6] <;> omega)
  have I1:Inv X pins σ H { s with heap:=h' }:=I.kept (t':=s.toks) kp
  have I2:Inv X pins σ (upd H h'.objs.size (.tup ys)) { s with heap:=h'.push { cls:=.type "tuple",data:=.seq its.toArray } }:=
   I1.laid (t':=s.toks) (fun b o e=>d8 _ e) (d5 _) (show Q3 X.prog X.w _ _ _ (.tup ys)from⟨hz,its,r',IsTup.new _ _⟩)
  exact⟨.ref h'.objs.size,_,I2,rfl,q _ (I1.hok.fresh (d5 _))⟩
 ·obtain⟨its,r',pl,hz⟩:=I.tuple hq
  exact call_tuple_same pl ⟨.ref p,H,I,rfl,q⟩
def tyV(K:Fg)(T:String)(x:V)(H:Hp):Prop:=match x with
 | .str _=>T = "str"
 | .int _=>T = "int"
 | .ref p=>(T = "list" /\ ∃xs,SqL K H p xs)\/(T = "tuple" /\ ∃o,K.lookup p=some o/\o.cls=.type "tuple" /\ o.dict=none) \/
   (T = "dict" /\ ((∃kvs,H p=some (.dK kvs))\/∃kvs,H p=some (.dT kvs)))\/(T = "set" /\ ∃S n,H p=some (.set S n))
 | _=>False
theorem b6R{T:String}{v:Value}(I:Inv X pins σ H s)(r:C1 x v)(ty:tyV X.K T x H) :
  s.TypeIs v T/\∀a,v=.ref a->∃ob,s.heap.get? a=some ob/\ob.dict=none:=by
 cases x with
 | str z=>
  obtain⟨t,rfl⟩:=r
  cases (show T = "str" from ty)
  exact⟨typeIs_str s z t,fun _ e=>nomatch e⟩
 | int i=>
  obtain⟨t,rfl⟩:=r
  cases (show T = "int" from ty)
  exact⟨typeIs_int s i t,fun _ e=>nomatch e⟩
 | ref p=>
  cases r
  rcases ty with ⟨rfl,xs,hq⟩ | ⟨rfl,o,hk,hc,hd⟩ | ⟨rfl,hk⟩ | ⟨rfl,S,n,hk⟩
  ·obtain⟨its,_,pl,_⟩:=I.list hq
   refine⟨pl.isList.typeIs,fun a e=>?_⟩
   cases e
   obtain⟨o,n,e,c,hd,_⟩:=pl
   exact⟨o,e,hd⟩
  ·refine⟨⟨o,I.kIn p o hk,hc⟩,fun a e=>?_⟩
   cases e
   exact⟨o,I.kIn _ o hk,hd⟩
  ·have z:∃o,s.heap.get? p=some o/\o.ExactDict:=by
    rcases hk with ⟨kvs,hk⟩ | ⟨kvs,hk⟩
    ·obtain⟨_,_,_,_,o,_,_,e,ex,_⟩:=I.hok p _ hk
     exact⟨o,e,ex⟩
    ·obtain⟨_,_,_,_,o,_,_,e,ex,_⟩:=I.hok p _ hk
     exact⟨o,e,ex⟩
   obtain⟨o,e,ex⟩:=z
   refine⟨⟨o,e,ex.1⟩,fun a e2=>?_⟩
   cases e2
   exact⟨o,e,ex.2.1⟩
  ·obtain⟨o,_,_,_,e,ex,_⟩:=I.hok p _ hk
   refine⟨⟨o,e,ex.1⟩,fun a e2=>?_⟩
   cases e2
   exact⟨o,e,ex.2.1⟩
 | _=>exact False.elim ty
def b9p(K:Fg)(T:String)(r:V->List V->Hp->VK->Prop)(to:TE):TE:=fun σ H Q=>to σ H fun x H1=>tyV K T x H1/\r x [] H1 Q
def tBM(K:Fg)(T:String)(r:V->List V->Hp->VK->Prop)(to:TE)(t:TA):TE:=fun σ H Q=>to σ H fun x H1=>tyV K T x H1/\t σ H1 fun xs H2=>r x xs H2 Q
variable {o e:Expr}{es:List Expr}{to:TE}{t:TA}{name:Str}{apos cpos:Pos}{T id:String}{r:V->List V->Hp->VK->Prop}
theorem c2B(pa:c1g T)(slot:Slot T name id)(hty:typeOf (.builtin id)=pure (.type "method_descriptor"))(hm:MtR X id r)(ho:PE X o to)
  (hbase:W8 o name X.env (eval o X.env)=eval o X.env:=by rfl) (hline:(apos.endLine == cpos.line)=true:=by rfl):PE X (.Call (.Attribute o name apos) [] [] cpos) (b9p X.K T r to):=by
 intro pins s σ H Q I h
 refine wpAny_Call_method0_late hbase hline (thn (ho pins s σ H _ I h) fun v s1 ⟨x,H1,I1,r1,ty,q1⟩=>?_)
 obtain⟨h1,h2⟩:=b6R I1 r1 ty
 exact⟨T,id,pa,slot,hty,h1,h2,Calls.callWith_builtin rfl (PySem.evalArgs_none (hm pins s1 σ H1 x [] v [] Q I1 r1 .nil q1))⟩
theorem c4D(pa:c1g T)(slot:Slot T name id)(hty:typeOf (.builtin id)=pure (.type "method_descriptor"))(hm:MtR X id r)(ho:PE X o to)(ha:PA X (e::es) t)
  (hbase:W8 o name X.env (eval o X.env)=eval o X.env:=by rfl)
  (hfew:((V5 cpos (d4 (e::es) X.env)).all (fun x => !x.1)&&(b0U cpos (a2W [] X.env)).all (fun x=>x.1.isSome)
   && decide ((e::es).length+([]:List a9z).length+(if([]:List a9z).isEmpty then 0 else 1)<30))=true:=by rfl)
  (hline:(apos.endLine == cpos.line)=true:=by rfl) (hs:d4 (e::es) X.env=(false,eval e X.env)::d4 es X.env:=by rfl) (hplain:(V5 cpos (d4 es X.env)).any (·.1)=false:=by rfl) :
  PE X (.Call (.Attribute o name apos) (e::es) [] cpos) (tBM X.K T r to t):=by
 intro pins s σ H Q I h
 refine wpAny_Call_method_late hbase hfew hline rfl (thn (ho pins s σ H _ I h) fun v s1 ⟨x,H1,I1,r1,ty,q1⟩=>?_)
 obtain⟨h1,h2⟩:=b6R I1 r1 ty
 refine⟨T,id,pa,slot,hty,h1,h2,?_⟩
 have hA:=ha cpos pins s1 σ H1 _ I1 q1
 rw[hs]at hA ⊢
 refine Calls.callWith_builtin (by show(false||(V5 cpos (d4 es X.env)).any (·.1))=false;rw[hplain] <;> rfl) (Calls.evalArgs_plain ?_)
 exact thn hA fun us s2 ⟨vs,H2,I2,r2,q2⟩=>hm pins s2 σ H2 x vs v us Q I2 r1 r2 q2
end
def MtM(X:Cx)(id:String)(r:V->List V->Hp->VK->Prop):Prop:=
 ∀(pins:List (Addr×Obj)) (s:d7) (σ:St) (H:Hp) (x:V) (xs:List V) (v:Value) (us:List Value) (Q:VK),Inv X pins σ H s->C1 x v->D0 xs us->r x xs H Q ->
  wpAny (model X.prog X.w) X.A (call (.builtin id) (v::us)) (EP X pins σ Q) X.xe s
theorem D0.one:∀ {x:V} {us:List Value},D0 [x] us->∃u,us=[u]/\C1 x u
 | _,_,.cons r .nil=>⟨_,rfl,r⟩
theorem D0.zero:∀ {us:List Value},D0 [] us->us=[]
 | _,.nil=>rfl
theorem D0.dropLast(h:D0 xs us):D0 xs.dropLast us.dropLast:=by
 induction h with
 | nil=>exact .nil
 | cons r t ih=>
  cases t with
  | nil=>exact .nil
  | cons q t'=>exact .cons r ih
theorem b3J{α:Type}(l:List α):l.eraseIdx (l.length - 1)=l.dropLast:=by
 induction l with
 | nil=>rfl
 | cons a r ih=>
  cases r with
  | nil=>rfl
  | cons b r=>
   have e:(a::b::r).length - 1=((b::r).length - 1)+1:=by
    have h1:(a::b::r).length=r.length+2:=rfl
    have h2:(b::r).length=r.length+1:=rfl
    omega
   rw[e,List.eraseIdx_cons_succ,ih]
   all_goals rfl
section
variable {l b:Addr}{ys zs:List V}
theorem Inv.lset{its its':List Value}{f:Array Value->Array Value}{t':Nat}(I:Inv X pins σ H s)(hH:H l=some (.lst xs))
  (e:s.heap.get? l=some { cls:=.type "list",data:=.seq its.toArray n }) (hf:f its.toArray=its'.toArray) (hv:D0 ys its') (hz:ys.length<=g9) :
  Inv X pins σ (upd H l (.lst ys)) { s with heap:=s.heap.update l (Obj.mapSeq f),toks:=t' }:=by
 have q:=PySem.IsL.update e f
 rw[hf]at q
 refine I.write (x:=l) (e:=l) (by rw[hH];exact trivial) (.inl rfl) (fun b' u hb hu=>(b4V s.heap (Obj.mapSeq f) (Ne.symm hb)).trans hu) ⟨_,q⟩ ?_
 exact⟨hz,its',_,hv,q⟩
theorem Inv.lnew{its:List Value}{t':Nat}(I:Inv X pins σ H s)(hv:D0 ys its)(hz:ys.length<=g9) :
  Inv X pins σ (upd H s.heap.objs.size (.lst ys)) { s with heap:=s.heap.push { cls:=.type "list",data:=.seq its.toArray },toks:=t' }:=
 I.laid (fun _ _ q=>d8 _ q) (d5 _) ⟨hz,its,0,hv,u6 _ rfl⟩
theorem Inv.fresh(I:Inv X pins σ H s):H s.heap.objs.size=none:=I.hok.fresh (d5 _)
theorem Inv.lstM(I:Inv X pins σ H s)(hH:H l=some (.lst xs)):xs.length<=g9/\∃(its:List Value) (n:Nat),D0 xs its/\xs.length=its.length/\s.heap.get? l=some { cls:=.type "list",data:=.seq its.toArray n }:=by
 obtain⟨z,its,n,r,e⟩:=I.hok l _ hH
 exact⟨z,its,n,r,r.length,e⟩
theorem b1N(h:n<=g9):Builtin.List.listTooLong n=false:=by
 unfold Builtin.List.listTooLong
 exact c6F (by omega)
end
section
def b9G:V->List V->Hp->VK->Prop:=fun x vs H Q=>∃l xs y,x=.ref l/\vs=[y]/\H l=some (.lst xs)/\xs.length<g9/\Q .non (upd H l (.lst (xs++[y])))
theorem a6a:MtM X "list.append" b9G:=by
 intro pins s σ H x vs v us Q I rx rv h
 obtain⟨l,xs,y,rfl,rfl,hH,hz,q⟩:=h
 cases rx
 obtain⟨u,rfl,ru⟩:=rv.one
 obtain⟨z,its,n,r,hl,e⟩:=I.lstM hH
 refine a1M F.slot_list_append ⟨_,e,rfl⟩ F.entry_list_append (F.args_list_append_2 _ _) (PySem.list_append l its.toArray n u (by rw[d6];omega)) ⟨e,?_⟩
 refine⟨.non,_,I.lset (its':=its++[u]) hH e (by simp) (r.append (.cons ru .nil)) ?_,rfl,q⟩
 rw[j4,G8]
 omega
def b9F:V->List V->Hp->VK->Prop:=fun x vs H Q=>∃l b xs zs,x=.ref l/\vs=[.ref b]/\H l=some (.lst xs)/\H b=some (.lst zs)/\xs.length+zs.length<=g9/\Q .non (upd H l (.lst (xs++zs)))
theorem b5K:MtM X "list.extend" b9F:=by
 intro pins s σ H x vs v us Q I rx rv h
 obtain⟨l,b,xs,zs,rfl,rfl,hH,hB,hz,q⟩:=h
 cases rx
 obtain⟨u,rfl,ru⟩:=rv.one
 cases ru
 obtain⟨z,its,n,r,hl,e⟩:=I.lstM hH
 obtain⟨z2,its2,n2,r2,hl2,e2⟩:=I.lstM hB
 have hsz:its.toArray.size+its2.toArray.size<=g9:=by rw[d6,d6];omega
 have hlong:¬(!its.toArray.isEmpty&&Builtin.List.listTooLong (its.toArray.size+its2.toArray.size))=true:=by
  rw[b1N hsz,c3P]
  exact j7
 refine a1M F.slot_list_extend ⟨_,e,rfl⟩ F.entry_list_extend (F.args_list_extend_2 _ _)
  (AutoSeq1.list_extend_list_list_0 l its.toArray n b its2.toArray n2 hlong (by rw[d6];omega) (by omega)) ⟨e,e2,?_⟩
 refine⟨.non,_,I.lset (its':=its++its2) hH e (by simp) (r.append r2) ?_,rfl,q⟩
 rw[j4]
 omega
def c5n:V->List V->Hp->VK->Prop:=fun x vs H Q=>∃l xs y,x=.ref l/\vs=[]/\H l=some (.lst xs)/\xs[xs.length - 1]? = some y/\Q y (upd H l (.lst xs.dropLast))
theorem c2Y:MtM X "list.pop" c5n:=by
 intro pins s σ H x vs v us Q I rx rv h
 obtain⟨l,xs,y,rfl,rfl,hH,hy,q⟩:=h
 cases rx
 have hus:=rv.zero
 subst hus
 obtain⟨z,its,n,r,hl,e⟩:=I.lstM hH
 obtain⟨u,hu,ru⟩:=r.get hy
 have hy':its.toArray[its.toArray.size - 1]? = some u:=by
  show its.toArray[its.length - 1]? = some u
  rw[<-P5,<-hl]
  exact hu
 refine a1M F.slot_list_pop ⟨_,e,rfl⟩ F.entry_list_pop (F.args_list_pop_1 _) (MeetsSeq.list_pop_last l its.toArray n u hy' (by rw[d6];omega)) ⟨e,?_⟩
 refine⟨y,_,I.lset (its':=its.dropLast) hH e ?_ r.dropLast ?_,ru,q⟩
 ·show its.toArray.eraseIdxIfInBounds (its.toArray.size - 1)=its.dropLast.toArray
  rw[d6,List.eraseIdxIfInBounds_toArray,b3J]
 ·rw[List.length_dropLast]
  omega
def c5o:R2:=fun x y H Q=>∃l b xs zs,x=.ref l/\y=.ref b/\H l=some (.lst xs)/\H b=some (.lst zs)/\xs.length+zs.length<=g9/\∀p,H p=none->Q (.ref p) (upd H p (.lst (xs++zs)))
theorem c2R:OpR X (Q6 .Add) c5o:=by
 intro pins s σ H x y v u Q I rx ry h
 obtain⟨l,b,xs,zs,rfl,rfl,hH,hB,hz,q⟩:=h
 cases rx
 cases ry
 obtain⟨z,its,n,r,hl,e⟩:=I.lstM hH
 obtain⟨z2,its2,n2,r2,hl2,e2⟩:=I.lstM hB
 refine PySem.P.add_list e e2 ?_ (by rw[d6,d6];omega)
 have ea:its.toArray++its2.toArray=(its++its2).toArray:=by simp
 rw[ea]
 exact⟨.ref _,_,I.lnew (t':=s.toks) (r.append r2) (by rw[j4];omega),rfl,q _ I.fresh⟩
end
section
variable {prog:v0}{w:World}{A:F7}{E:Value->d7->Prop}
set_option maxRecDepth 100000 in
end
section
end
end L2
namespace Att
open PySem PySem.W PySem.Calls PyProof.Rows
theorem a6O{P:Params}{h:Heap}:∀(ns:List Int) (vs:List Value),WellAll P h vs (ns.map WData.int)->c1C vs ns:=by
 intro ns
 induction ns with
 | nil=>
  intro vs w
  rw[b4Q]at w
  cases w
  exact .nil
 | cons n ns ih=>
  intro vs w
  rw[C4]at w
  cases w with
  | cons a b=>
   cases a
   exact .cons _ _ (ih _ b)
theorem b5n{l:OpenLaw}{n:Nat}(hn:l.most=some n){P:Params}{h:Heap}{args:List WData}{vals:List Value}
  (hpre:l.row.toRowW.claim.pre args=true) (hwl:WellAll P h vals args) :
  ∃a vs ns,vals=[Value.ref a]/\args=[WData.list (ns.map WData.int)]/\h.get? a=some { cls:=.type "list",data:=.seq vs.toArray }/\c1C vs ns/\ns.length<=n:=by
 have hsh:WShape.hasAll [] args [.list .int]=true:=(pre_splitW hpre).1
 have hc:l.pre.holds [] { args:=args }=true:=(pre_splitW hpre).2
 obtain⟨d,r,rfl,h1,h2⟩:=hasAllW_cons hsh
 obtain rfl:=hasAllW_nil h2
 obtain⟨xs,rfl,h3⟩:=hasW_list h1
 obtain⟨ns,rfl⟩:=items_int h3
 have hlen:ns.length<=n:=by
  unfold OpenLaw.pre at hc
  have h4:(WTm.not (.lt (.lit (.int (n:Int))) (.len (.arg 0)))).holds [] { args:=[.list (ns.map .int)] }=true:=by
   have h4:=(holds_andW hc).1
   rw[hn]at h4
   exact h4
  have h5:=condW_of h4 (w_not (w_lt w_lit (w_len_list (w_arg rfl))))
  rw[a9]at h5
  refine Nat.le_of_not_lt fun q=>?_
  have q':(n:Int)<((ns.length:Nat):Int):=by omega
  first
   | (rw[c6G q']at h5;exact absurd h5 (by decide))
   | (simp at h5;omega)
 cases hwl with
 | cons w1 w2=>
  cases w2
  cases w1 with
  | list ho hall=>exact⟨_,_,ns,rfl,rfl,ho,a6O ns _ hall,hlen⟩
theorem b5x(l:OpenLaw)(args:List WData):l.row.toRowW.claim.post args (.bool true) args=true:=
 postW_of (r:=l.row.toRowW) (X:=(true == true))
  (show WShape.has [] (.bool true) .bool=true by first | rfl | decide | simp[WShape.has,WShape.arms,WShape.armsAll])
  (show(WTm.eq .res (.lit (.bool true))).value [] { args:=args,res:=some (.bool true),after:=args }=some (.bool (true == true))from w_eq_bool (w_res rfl) w_lit) rfl
theorem b2r{l:OpenLaw}{n:Nat}{q:v0}{loose:List Str}{XP:(Str->Option Value)->Heap->Prop}{YP:World->Heap->Prop}{d:DefRec}
  (hn:l.most=some n) (hdf:d.params.defaults=[])
  (call:∀(w:World) (s₀ s₁:d7) (mg mb:Str->Option Value) (fa:Addr) (o:Obj) (pm cd doc:Value) (a:Addr) (vs:List Value) (ns:List Int),
   Ground q loose [] XP w s₀ mg mb s₁.heap->YP w s₁.heap ->
   s₁.heap.get? fa=some o->o.data=.func (docDef d.name d.params d.body d.scope pm cd doc)->s₁.heap.CodeRec cd d.name->mg d.name=some (.ref fa) ->
   s₁.heap.get? a=some { cls:=.type "list",data:=.seq vs.toArray }->c1C vs ns->ns.length<=n->s₁.gens = #[] ->
   a5E (model l.prog w) b6y (.call (.ref fa) ⟨[.ref a],[]⟩) (fun r s'=>r=.ok (.ret (.bool true))/\OldK s₁.heap s'.heap/\s'.os=s₁.os/\a9A s'.gens) s₁) :
  WalkO q loose XP YP l.row.toRowW d [] (fun f vs=>b0J f vs):=by
 intro w s₀ s₁ mg mb G Y fa o pm cd doc dV kV ho hd hcd hD hmg hg args vals as hpre hlay hrd hwl hlo
 obtain rfl:dV=.none:=Dflts.none hD hdf
 obtain rfl:kV=.none:=Dflts.noKw hD
 obtain⟨a,vs,ns,rfl,rfl,hobj,hints,hlen⟩:=b5n hn hpre hwl
 refine enter_call (b4e (call w s₀ s₁ mg mb fa o pm cd doc a vs ns G Y ho (fd_plain hd) hcd hmg hobj hints hlen hg) fun r s' hq=>?_)
 obtain⟨rfl,h2,h3,h4⟩:=hq
 exact⟨.inl ⟨.bool true,.bool true,[],rfl,fun _=>rfl,.bool true,b5x l _,fun _=>⟨List.Pairwise.nil,fun _ hm=>(nomatch hm)⟩⟩,h2,h3,h4⟩
section
variable {prog:v0}{w:World}{A:F7}{E:Value->d7->Prop}{s:d7}{K:Frag}
end
end Att
namespace L2
open PySem PySem.Spec PyProof.Rows
variable{x:Str}
theorem a5I:∀ {vs:List Value} {ns:List Int},c1C vs ns->D0 (ns.map V.int) vs
 | _,_,.nil=>.nil
 | _,_,.cons n t h=>.cons ⟨t,rfl⟩ (a5I h)
def c0Y(H:Hp):Prop:=∀b,H b=none\/∃o xs,H b=some (.frz o (.lst xs))
theorem b8r{P:v0}{w:World}{K:Fg}{mg mb:Str->Option Value}{CX:CXT}{k:Nat}{fa a:Addr}{fd:V2}{sp:Sp}{s₁:d7}{vs:List Value}{ns:List Int}
  (KX:K.In s₁.heap) (hns:s₁.heap.Ns o3 mg) (hb:s₁.heap.Ns builtinsNs mb) (hbb:∀x:Str,x ≠ "__name__" -> mb x=Z6 x) (hlim:s₁.heap.NoLimit) (hg:s₁.gens = #[])
  (ha:s₁.heap.get? a=some { cls:=.type "list",data:=.seq vs.toArray }) (hi:c1C vs ns) (hl:ns.length<=g9) (hr:O0 k b6y)
  (F:∀base:Heap,K.In base->base.Ns o3 mg->J0 P w K mg base CX k fa fd [x] sp) (hbind:∀(s:d7) (u:Value),b6z s fd ⟨[u],[]⟩ [(x,u)])
  (hsp:∀H:Hp,c0Y H->SqL K H a (ns.map V.int)->sp [.ref a] H (fun v _=>v=.bl true) fun _ _ _=>False)
  (hCX:∀H e s',CX [] H s₁ (fun _ _ _=>False) e s'->False) :
  a5E (model P w) b6y (.call (.ref fa) ⟨[.ref a],[]⟩) (fun r s'=>r=.ok (.ret (.bool true))/\OldK s₁.heap s'.heap/\s'.os=s₁.os/\a9A s'.gens) s₁:=by
 have rv:=a5I hi
 have lenV:=hi.length
 have core:∀H:Hp,c0Y H->SqL K H a (ns.map V.int)->HOk P w H s₁.heap->(∀b,H b≠none->b=a)->(H a≠none->K.lookup a=none) ->
   a5E (model P w) b6y (.call (.ref fa) ⟨[.ref a],[]⟩) (fun r s'=>r=.ok (.ret (.bool true))/\OldK s₁.heap s'.heap/\s'.os=s₁.os/\a9A s'.gens) s₁:=by
  intro H hO hS hok hA hK
  have base_of:∀ {b:Addr} {o:Obj},s₁.heap.get? b=some o->H b=none->(b0m s₁.heap H).get? b=some o:=fun e n=>b8y e n
  have noA:∀ {b:Addr} {o:Obj} {es:Array DictEntry} {ep:Nat},s₁.heap.get? b=some o->o.data=.dict es ep->H b=none:=fun {b o es ep} e d=>by
   cases q:H b with
   | none=>rfl
   | some u=>
    have e':b=a:=hA b (by rw[q];simp)
    subst e'
    rw[ha]at e;cases e
    have d':Data.seq vs.toArray _=Data.dict es ep:=d
    cases d'
  have nsK:∀ {b:Addr} {m:Str->Option Value},s₁.heap.Ns b m->(b0m s₁.heap H).Ns b m:=fun {b m} ⟨o,es,ep,e,d,r⟩=>⟨o,es,ep,base_of e (noA e d),d,r⟩
  have hKb:K.In (b0m s₁.heap H):=fun b o e=>base_of (KX b o e) (by
   cases q:H b with
   | none=>rfl
   | some u=>
    have e':b=a:=hA b (by rw[q];simp)
    subst e'
    rw[hK (by rw[q];simp)]at e;cases e)
  have hM:Mod K mg (b0m s₁.heap H):=⟨hKb,nsK hns,⟨mb,nsK hb,hbb⟩,let⟨mc,h1,h2⟩:=hlim; ⟨mc,nsK h1,h2⟩⟩
  have e0:b4a P w K mg (b0m s₁.heap H) b6y [] s₁ H:=⟨rfl,hM,fun b o e=>c0x e,Nat.le_of_eq (b5U _ _),trivial,fun b hb=>absurd (show b∈([]:List Addr)from hb) (by simp),hok,.of_eq hg⟩
  refine b4e ((F _ hKb (nsK hns)).run b6y [] s₁ H ⟨[.ref a],[]⟩ [.ref a] [.ref a] _ _ hr e0 (hbind s₁ (.ref a)) (.cons rfl .nil) (hsp H hO hS)) fun r s' h=>?_
  cases r with
  | error e=>exact(hCX H e s' h).elim
  | ok fl=>
   cases fl with
   | next=>exact False.elim h
   | brk=>exact False.elim h
   | cont=>exact False.elim h
   | ret u=>
    obtain⟨v,H',os,bare,un,hok',r',q⟩:=h
    have q':v=.bl true:=q
    subst q'
    obtain rfl:u=Value.bool true:=r'
    refine⟨rfl,OldK.of_keep fun b o e=>?_,os,bare⟩
    cases q:H b with
    | none=>exact un.keep b o e q (by intro z;exact absurd (show b∈([]:List Addr)from z) (by simp)) (by simp)
    | some u=>
     rcases hO b with z | ⟨ob,xs,z⟩
     ·rw[q]at z;cases z
     ·have z2:=un.frzs b ob _ z
      obtain⟨e1,_⟩:=hok b _ z
      obtain⟨e2,_⟩:=hok' b _ z2
      rw[e]at e1;cases e1
      exact e2
 cases hk:K.lookup a with
 | some o=>
  have e:=KX a o hk
  rw[ha]at e
  cases e
  refine core (fun _=>none) (fun _=>.inl rfl) (.inr ⟨_,vs.toArray,_,hk,rfl,rfl,rfl,by rw[d6,lenV];exact hl,by simpa using rv⟩) (fun b u z=>by have z':(none:Option HO)=some u:=z;cases z') (fun b z=>absurd rfl z) fun z=>absurd rfl z
 | none=>
  refine core (fun b=>if b=a then some (.frz { cls:=.type "list",data:=.seq vs.toArray } (.lst (ns.map V.int)))else none) (fun b=>?_) (.inl (.inr ⟨{ cls:=.type "list",data:=.seq vs.toArray },if_pos rfl⟩)) (fun b u z=>?_) (fun b z=>?_) fun _=>hk
  ·by_cases hb:b=a
   ·exact .inr ⟨_,_,if_pos hb⟩
   ·exact .inl (if_neg hb)
  ·by_cases hb:b=a
   ·have z':=(if_pos hb).symm.trans z
    cases z'
    subst hb
    exact⟨ha,by rw[a9];exact hl,vs,_,rv,ha⟩
   ·have z':=(if_neg hb).symm.trans z
    cases z'
  ·by_cases hb:b=a
   ·exact hb
   ·exact absurd (if_neg hb) z
theorem b9m{l:PySem.W.OpenLaw}{n k:Nat}{q:v0}{loose:List Str}{XP:(Str->Option Value)->Heap->Prop}{YP:World->Heap->Prop}{d:DefRec}{K:Params->Fg}{CX:World->CXT}{sp:World->Sp}
  (hn:l.most=some n) (hn2:n<=g9) (hdf:d.params.defaults=[]) (hr:O0 k b6y)
  (hY:∀(w:World) (h:Heap),YP w h->(K w.params).In h)
  (F:∀(w:World) (mg:Str->Option Value) (fa:Addr) (h:Heap),(K w.params).In h->h.Ns o3 mg->mg d.name=some (.ref fa) ->
   ∃fd:V2,(∀(s:d7) (u:Value),b6z s fd ⟨[u],[]⟩ [(x,u)]) /\
    ∀base:Heap,(K w.params).In base->base.Ns o3 mg->J0 l.prog w (K w.params) mg base (CX w) k fa fd [x] (sp w))
  (hsp:∀(w:World) (H:Hp) (a:Addr) (ns:List Int),ns.length<=n->c0Y H->SqL (K w.params) H a (ns.map V.int)->sp w [.ref a] H (fun v _=>v=.bl true) fun _ _ _=>False)
  (hCX:∀(w:World) (H:Hp) (s:d7) (e:Value) (s':d7),CX w [] H s (fun _ _ _=>False) e s'->False) :
  PySem.W.WalkO q loose XP YP l.row.toRowW d [] (fun f vs=>b0J f vs):=by
 refine Att.b2r hn hdf fun w s₀ s₁ mg mb fa o pm cd doc a vs ns G Y ho hd hcd hmg hobj hints hlen hg=>?_
 have KX:=hY w _ Y
 obtain⟨fd,hb,hF⟩:=F w mg fa _ KX G.T.g hmg
 exact b8r KX G.T.g G.T.b G.T.builtins G.T.nolimit hg hobj hints (v9 hlen hn2) hr hF hb (fun H hO hS=>hsp w H a ns hlen hO hS) fun H e s'=>hCX w H s₁ e s'
abbrev CX0:CXT:=fun _ _ _ _ _ _=>False
abbrev E0:XK:=fun _ _ _=>False
theorem b8b{X:Cx}:a6m CX0 X E0:=fun _ _ _ _ _ _ _ h=>h.elim
structure Fun(K:Fg)(x qual:Str)(st:Stmt)(f:Addr)(fd:V2):Prop where
 ex:∃(oc:Value) (od:Option Addr) (kV doc pm:Value) (an:Option Addr) (cdv ct:Value) (osl:Array (Option Value)),
  fd=X0 x qual (a1E st) (a0d st) (d3 st) .none kV doc pm an cdv ct/\K.lookup f=some ⟨oc,od,.func fd,osl⟩/\a3Q K cdv qual=true
 kp:O6 K (.ref f)=true
section
variable {P:v0}{w:World}{K:Fg}{mg:Str->Option Value}{base:Heap}
theorem Fun.ok{qual:Str}{st:Stmt}{f:Addr}{fd:V2}{N ps:List Str}{k:Nat}{sp:Sp}(F:Fun K x qual st f fd)(S:u0 N ps (d3 st))(len:∀vs H Q E,sp vs H Q E->vs.length=ps.length)
  (hbody:∀(cdv:Value) (A:F7) (outer:List Env) (s:d7) (H:Hp) (vs:List V) (Q:VK) (E:XK),O0 k (A.deeper (b0T qual (d3 st) s.heap.objs.size f cdv))->sp vs H Q E ->
   ∃t,PSs (b2g CX0 P w K mg base N qual (d3 st) f cdv A outer s H E).nox (a0d st) t/\t { nx:=fun _ H'=>Q .non H',rt:=Q } (a4V N vs) H):J0 P w K mg base CX0 (k+1) f fd ps sp:=by
 obtain⟨oc,od,kV,doc,pm,an,cdv,ct,osl,rfl,lk,hcd⟩:=F.ex
 refine c4Q lk hcd S len fun A outer s H vs Q E hr hsp=>?_
 obtain⟨t,h,q⟩:=hbody cdv A outer s H vs Q E hr hsp
 exact⟨t,h.nox,q⟩
theorem Fun.binds{qual:Str}{st:Stmt}{f:Addr}{fd:V2}{ps:List Str}(F:Fun K x qual st f fd)
  (h:∀(kV doc pm:Value) (an:Option Addr) (cdv ct:Value) (us:List Value),us.length=ps.length->bindArgs (X0 x qual (a1E st) (a0d st) (d3 st) .none kV doc pm an cdv ct) ⟨us,[]⟩=pure (ps.zip us)):a2O K fd ps []:=by
 obtain⟨oc,od,kV,doc,pm,an,cdv,ct,osl,rfl,lk,hcd⟩:=F.ex
 exact .all (h kV doc pm an cdv ct)
theorem c3o{qual:Str}{st:Stmt}{f:Addr}{oc:Value}{od an:Option Addr}{osl:Array (Option Value)}{kV doc pm cdv ct:Value}(l:K.lookup f=some ⟨oc,od,.func (X0 x qual (a1E st) (a0d st) (d3 st) .none kV doc pm an cdv ct),osl⟩)
  (c:a3Q K cdv qual=true) (k:O6 K (.ref f)=true):Fun K x qual st f (X0 x qual (a1E st) (a0d st) (d3 st) .none kV doc pm an cdv ct):=⟨⟨oc,od,kV,doc,pm,an,cdv,ct,osl,rfl,l,c⟩,k⟩
end
theorem b4E{A:F7}{k:Nat}(hr:O0 k A):A.units+1<cLine:=Nat.lt_of_le_of_lt (Nat.add_le_add_left (by decide:1<=64) _) hr.units
section
variable {X:Cx}
end
theorem c3l{A B:Prop}(h:B):if false=true then A else B:=by
 rw[if_neg j7]
 exact h
theorem a6N{A B:Prop}(h:A):if true=true then A else B:=by
 rw[if_pos rfl]
 exact h
theorem a0p{c A B:Prop}[Decidable c](h1:c->A)(h2:¬c->B):if c then A else B:=by
 by_cases h:c
 ·rw[if_pos h]
  exact h1 h
 ·rw[if_neg h]
  exact h2 h
def o6(H H':Hp):Prop:=∀b o,H b=some o->H' b=some o
theorem o6.refl(H:Hp):o6 H H:=fun _ _ h=>h
theorem o6.trans{H H1 H2:Hp}(a:o6 H H1)(b:o6 H1 H2):o6 H H2:=fun c o h=>b c o (a c o h)
theorem o6.free{H H':Hp}(e:o6 H H'){l:Addr}(h:H' l=Option.none):H l=Option.none:=by
 cases q:H l with
 | none=>rfl
 | some o=>
  rw[e l o q]at h
  cases h
section
variable {κ:Type}[DecidableEq κ]
end
end L2
set_option maxHeartbeats 4000000
namespace L2
open PySem PySem.Spec PyProof.Rows
variable{env:Env}{scope:Scope}{x y:Str}{X:Cx}{w:World}{s:d7}{elt iter:Expr}{elts ifs:List Expr}{p pos tp:Pos}{pins:List (Addr×Obj)}{σ:St}{H:Hp}{cl:List (Str×Addr)}{fp:List Addr}{tt:TT}{te:TE}{wi:TI}{i:Nat}{xs:List V}{us:List Value}{u:Value}{ps:List Str}{sp:Sp}
theorem b0s:∀(names:List (Str×a3V)) (cs:List (Str×Addr)),(∀y∈names,y.2=.free->∃c,env.cells.lookup y.1=some c) ->
  (∀y c,cs.lookup y=some c->env.cells.lookup y=some c) ->
  ∃cl,(forIn names cs (fun(x:Str×a3V) (r:List (Str×Addr))=>(if(x.2 == NameKind.free)=true then (do let c <-cellOf env x.1;pure (ForInStep.yield ((x.1,c)::r)))else pure (ForInStep.yield r):Sem (ForInStep (List (Str×Addr)))))=(pure cl:Sem (List (Str×Addr)))) /\
   (∀y c,cl.lookup y=some c->env.cells.lookup y=some c)/\(∀y,(y,NameKind.free)∈names\/(cs.lookup y).isSome=true->(cl.lookup y).isSome=true)
 | [],cs,_,h=>⟨cs,rfl,h,fun y q=>q.elim (fun z=>absurd z (by simp)) id⟩
 | (n,k)::r,cs,hc,h=>by
  by_cases e:(k == NameKind.free)=true
  ·have ek:k=.free:=by simpa using e
   obtain⟨c,hcc⟩:=hc (n,k) y0 ek
   have h':∀y d,((n,c)::cs).lookup y=some d->env.cells.lookup y=some d:=by
    intro y d q
    rw[C7]at q
    cases eq:y == n with
    | true=>
     rw[eq]at q
     have e2:y=n:=by simpa using eq
     cases q;rw[e2];exact hcc
    | false=>rw[eq]at q;exact h y d q
   obtain⟨cl,h1,h2,h3⟩:=b0s r ((n,c)::cs) (fun y hy=>hc y (t8 _ hy)) h'
   refine⟨cl,?_,h2,fun y q=>h3 y ?_⟩
   ·rw[c3F]
    show((if(k == NameKind.free)=true then (do let c <-cellOf env n;pure (ForInStep.yield ((n,c)::cs)))else pure (ForInStep.yield cs):Sem (ForInStep (List (Str×Addr)))) >>= _)=_
    rw[if_pos e]
    have ec:cellOf env n=pure c:=by unfold cellOf;rw[hcc]
    rw[ec]
    exact h1
   ·rcases q with q | q
    ·rcases c7.mp q with q | q
     ·cases q
      right
      simp[C7]
     ·exact .inl q
    ·right
     rw[C7]
     cases y == n
     ·exact q
     ·rfl
  ·obtain⟨cl,h1,h2,h3⟩:=b0s r cs (fun y hy=>hc y (t8 _ hy)) h
   refine⟨cl,?_,h2,fun y q=>h3 y ?_⟩
   ·rw[c3F]
    show((if(k == NameKind.free)=true then (do let c <-cellOf env n;pure (ForInStep.yield ((n,c)::cs)))else pure (ForInStep.yield cs):Sem (ForInStep (List (Str×Addr)))) >>= _)=_
    rw[if_neg e]
    exact h1
   ·rcases q with q | q
    ·rcases c7.mp q with q | q
     ·cases q
      exact absurd rfl e
     ·exact .inl q
    ·exact .inr q
theorem a2z(hc:∀y∈scope.names,y.2=.free->∃c,env.cells.lookup y.1=some c) :
  ∃cl,closureFor scope env=pure cl/\(∀y c,cl.lookup y=some c->env.cells.lookup y=some c)/\∀y,(y,NameKind.free)∈scope.names->(cl.lookup y).isSome=true:=by
 obtain⟨cl,h1,h2,h3⟩:=b0s scope.names [] hc (fun y c q=>by cases q)
 refine⟨cl,?_,h2,fun y q=>h3 y (.inl q)⟩
 unfold closureFor
 first
  | exact h1
  | (show(forIn scope.names [] _ >>= fun r=>pure r)=_;rw[h1];rfl)
theorem J5{env:Env}:∀ {names:List (Str×a3V)} {y:Str} {k:a3V},
  (names.map fun(n,k)=>if(k == NameKind.free&&env.scope.kind == .function&&env.kindOf n == some .cell)then (n,NameKind.cell)else (n,k)).lookup y=some k ->
  names.lookup y=some k\/(names.lookup y=some .free/\k=.cell)
 | [],_,_,h=>by cases h
 | (n,k0)::r,y,k,h=>by
  have ih := @J5 env r y k
  rw[C4]at h
  rw[C7]
  cases hx:y == n with
  | true=>
   by_cases hc:(k0 == NameKind.free&&env.scope.kind == .function&&env.kindOf n == some .cell)=true
   ·have e2:k0=.free:=by simp at hc;exact hc.1.1
    dsimp only at h
    rw[if_pos hc,C7,hx]at h
    cases h
    exact .inr ⟨by rw[e2],rfl⟩
   ·dsimp only at h
    rw[if_neg hc,C7,hx]at h
    exact .inl h
  | false=>
   by_cases hc:(k0 == NameKind.free&&env.scope.kind == .function&&env.kindOf n == some .cell)=true
   ·dsimp only at h
    rw[if_pos hc,C7,hx]at h
    exact ih h
   ·dsimp only at h
    rw[if_neg hc,C7,hx]at h
    exact ih h
def hid(x:Str)(N:List Str):List Str:=N.map fun y=>if y=x then ("." : Str)++x else y
def P0(X:Cx)(scope:Scope)(cl:List (Str×Addr))(C:Addr)(x:Str)(fp:List Addr)(s3:d7)(H3:Hp):Cx:=
 { X with N:=x::hid x X.N,s₀:=s3,H₀:=H3,env:=b6p scope cl C X.env,outer:=X.stack,stack:=X.stack,ex:=fp,fn:=fun _=>false,pn:=[],xe:=fun _ _=>False }
structure J1(N:List Str)(osc sc:Scope)(x:Str):Prop where
 kind:sc.kind=.function
 cell:∀y∈sc.names,y.2≠.cell
 names:∀y∈sc.names,y.2=.local->sc.names.lookup y.1=some .local
 own:sc.names.lookup x=some .local
 fr:∀y∈sc.names,y.2=.free->osc.names.lookup y.1=some .cell\/osc.names.lookup y.1=some .free
 see:∀y∈hid x N,sc.names.lookup y≠some .local
 dot:sc.names.lookup (("." : Str)++x)=none
 nd:(x::hid x N).Nodup
def M4(wi:TI)(tt:TT)(te:TE):TE:=fun σ H Q=>wi σ H fun J H1=>∀D,H1 D=none->∃W:Nat->Nat->List V->Hp->Prop,
 (∃m,W 0 m [] (upd H1 D (.lst [])))/\∀i m ys H2,W i m ys H2->H2 D=some (.lst ys) /\
  ((J.stop i H2 /\ Q (.ref D) H2) \/ (J.go i H2 /\ ∀ x H3,J.yld i H2 x H3 -> tt (some x :: σ) H3 fun ok H4 => if ok = true then
    te (some x::σ) H4 (fun y H5=>H5 D=some (.lst ys)/\ys.length<g9/\∃m',m'<m/\W (i+1) m' (ys++[y]) (upd H5 D (.lst (ys++[y]))))
    else ∃m',m'<m/\W (i+1) m' ys H4))
def PTs(X:Cx)(ifs:List Expr)(t:TT):Prop:=
 ∀(pins:List (Addr×Obj)) (s:d7) (σ:St) (H:Hp) (Q:Bool->Hp->Prop),Inv X pins σ H s->t σ H Q ->
  wpAny (model X.prog X.w) X.A (forIn ifs true fun c r=>if r=true then do let ok <-isTrue c X.env (eval c X.env);pure (ForInStep.yield ok)else pure (ForInStep.yield r)) (TP X pins σ Q) X.xe s
def L7:TT:=fun _ H Q=>Q true H
theorem b9M:PTs X [] L7:=fun _ _ _ H _ I h=>wpAny_tests_nil ⟨H,I,h⟩
theorem b9L{c:Expr}{t:TT}(h:PT X c t):PTs X [c] t:=fun pins s σ H Q I hq=>wpAny_tests_one (h pins s σ H Q I hq)
theorem a9m{prog:v0}{A:F7}{R:c3U->d7->Prop}{target:Expr}{it acc:Value}(I:Nat->d7->Prop)
  (turn:∀n s,I n s->wpAny (model prog w) A (pyNext it) (fun r s₁=>match r with
   | none=>R (.ok .next) s₁
   | some v=>wpAny (model prog w) A (a2V target it v) (fun _ s₂=>wpAny (model prog w) A (a3U target env v) (fun _ s₃=>
     wpAny (model prog w) A (forIn ifs true fun c r=>if r=true then do let ok <-isTrue c env (eval c env);pure (ForInStep.yield ok)else pure (ForInStep.yield r)) (fun ok s₄=>
      if ok=true then wpAny (model prog w) A (eval elt env) (fun x s₅=>
       wpAny (model prog w) A (call (.builtin "list.append") [acc,x]) (fun _ s₆=>∃m,m<n/\I m s₆) (fun _ _=>False) s₅) (fun _ _=>False) s₄
      else ∃m,m<n/\I m s₄) (fun _ _=>False) s₃) (fun _ _=>False) s₂) (fun _ _=>False) s₁) (fun _ _=>False) s)
  (n:Nat) (h:I n s) :
  a5E (model prog w) A (.compLoop (.ListComp elt [⟨target,iter,ifs,0⟩] scope pos) 0 it acc env) R s:=by
 have up:∀ {α:Type} {m:Sem α} {Q:α->d7->Prop} {E:Value->d7->Prop} {s:d7},wpAny (model prog w) A m Q (fun _ _=>False) s->wpAny (model prog w) A m Q E s:=
  fun h=>V4 h (fun _ _ q=>q) fun _ _ f=>f.elim
 refine codeAny_loop rfl I (fun n s hI=>?_) n h
 refine wpAny_noted ?_
 rw[compTurn_list]
 refine l6 (b0Q (l6 (up (thn (turn n s hI) fun r s₁ h₁=>?_))))
 cases r with
 | none=>exact z7 h₁
 | some v=>
  refine l6 (up (thn h₁ fun _ s₂ h₂=>l6 (up (thn h₂ fun _ s₃ h₃=>l6 (up (thn h₃ fun ok s₄ h₄=>?_))))))
  cases ok with
  | false=>exact z7 ⟨rfl,by simpa using h₄⟩
  | true=>
   rw[if_pos rfl]at h₄
   exact l6 (l6 (up (thn h₄ fun x s₅ h₅=>l6 (up (thn h₅ fun _ s₆ h₆=>z7 (z7 ⟨rfl,h₆⟩))))))
section
variable {px:Pos}
theorem b8J{s3:d7}{h4:Heap}{tk:Nat}(hc:J1 X.N X.env.scope scope x)(I:Inv X pins σ H s3)
  (hcl:∀y c,cl.lookup y=some c->X.env.cells.lookup y=some c) (hcl2:∀y,(y,NameKind.free)∈scope.names->(cl.lookup y).isSome=true)
  (fpo:∀b∈fp,a3N X pins H b) (fpl:∀b∈fp,b<s3.heap.objs.size)
  (hn:h4.Ns s3.heap.objs.size (fun _=>none)) (k:∀b o,s3.heap.get? b=some o->h4.get? b=some o) :
  Inv (P0 X scope cl s3.heap.objs.size x fp s3 H) [] (none::σ) H { s3 with heap:=h4,toks:=tk }:=by
 have low:∀x y,(P0 X scope cl s3.heap.objs.size x fp s3 H).env.cells.lookup y=cl.lookup y:=fun _ _=>rfl
 have below:∀y c,cl.lookup y=some c->c<s3.heap.objs.size:=fun y c e=>by
  obtain⟨v,q⟩:=I.cell y c (hcl y c e)
  exact q.lt
 have kinds:∀y,((P0 X scope cl s3.heap.objs.size x fp s3 H).env.kindOf y=some .cell\/(P0 X scope cl s3.heap.objs.size x fp s3 H).env.kindOf y=some .free)->scope.names.lookup y=some .free:=by
  intro y hy
  rcases hy with hy | hy
  ·rcases J5 hy with q | ⟨q,_⟩
   ·exact absurd rfl (hc.cell _ (u4 q))
   ·exact q
  ·rcases J5 hy with q | ⟨q,z⟩
   ·exact q
   ·cases z
 refine⟨⟨I.ok.mod,?_,I.ok.glob,I.ok.blt,d5 _,fun y z c h1 h2=>?_,fun y hy=>?_,fun y c h=>?_,I.ok.hd,I.ok.frames,.inl rfl,fun b hb=>⟨?_,fun y c e z=>?_⟩,fun b o e=>I.bs b o e,v9 I.ok.bsz I.sz,fun b o e hb=>?_,fun b hb hf=>?_,I.stack,I.stkFree⟩,
  rfl,I.bare,Un.kept k,⟨_,hn,fun i y v h1 h2 h3=>?_⟩,fun y c e=>?_,I.fresh,fun y c e=>?_,fun p hp=>absurd (show p∈([]:List (Addr×Obj))from hp) (by simp),I.hok.kept k,?_⟩
 ·exact hc.kind
 ·exact I.ok.inj y z c (hcl _ _ h1) (hcl _ _ h2)
 ·have:=hcl2 y (u4 (kinds y hy))
  exact R4.mp this
 ·cases h
 ·exact t5 (fpl b hb)
 ·exact(fpo b hb).2.2.2.2.1 y c (hcl y c e) z
 ·rcases(fpo b hb).2.2.2.1 with q | q
  ·exact I.ok.noex b o e q
  ·exact absurd (p9 (g6 (I.ok.bs b o e).1) q) (E4 _)
 ·rcases c7.mp (I.stkSub b hf)with e | e
  ·exact(fpo b hb).2.1 e
  ·exact(fpo b hb).2.2.1 e
 ·-- the names
  have h1:(x::hid x X.N)[i]? = some y:=h1
  cases i with
  | zero=>cases h2
  | succ i=>
   have h1:(hid x X.N)[i]? = some y:=h1
   have h2:σ[i]? = some (some v):=h2
   have my:y∈hid x X.N:=X3 h1
   have h3:(a5D scope X.env).names.lookup y=some .local\/(a5D scope X.env).names.lookup y=some .cell\/(a5D scope X.env).names.lookup y=some .free:=h3
   have hf:scope.names.lookup y=some .free:=by
    rcases h3 with q | q
    ·rcases J5 q with q | ⟨_,z⟩
     ·exact absurd q (hc.see y my)
     ·cases z
    ·exact kinds y q
   have hy:X.N[i]? = some y:=by
    unfold hid at h1
    rw[b7]at h1
    cases e:X.N[i]? with
    | none=>rw[e]at h1;cases h1
    | some z=>
     rw[e]at h1
     by_cases ez:z=x
     ·rw[a3s,if_pos ez]at h1
      have h1:=Option.some.inj h1
      subst h1
      rw[hc.dot]at hf
      cases hf
     ·rw[a3s,if_neg ez]at h1
      exact h1
   obtain⟨m,_,hl⟩:=I.loc
   obtain⟨c,hcc⟩:=R4.mp (hcl2 y (u4 hf))
   have vis:Vis X.env.scope y:=by
    rcases hc.fr _ (u4 hf) rfl with q | q
    ·exact .inr (.inl q)
    ·exact .inr (.inr q)
   obtain⟨u,ru,lk⟩:=hl i y v hy h2 vis
   refine⟨u,ru,.inr ⟨?_,c,hcc,?_⟩⟩
   ·rcases h3 with q | q
    ·rcases J5 q with q | ⟨_,z⟩
     ·exact absurd q (hc.see y my)
     ·cases z
    ·exact q
   ·have hce:=hcl y c hcc
    rcases lk with ⟨q,_⟩ | ⟨_,c',e',z⟩
    ·rcases hc.fr _ (u4 hf) rfl with q' | q'
     ·have q:X.env.scope.names.lookup y=some .local:=q
      rw[show X.env.scope.names.lookup y=some NameKind.cell from q']at q
      cases q
     ·have q:X.env.scope.names.lookup y=some .local:=q
      rw[show X.env.scope.names.lookup y=some NameKind.free from q']at q
      cases q
    ·rw[e']at hce
     cases hce
     obtain⟨o,ho,hd⟩:=z
     exact⟨o,k _ _ ho,hd⟩
 ·obtain⟨v,o,ho,hd⟩:=I.cell y c (hcl y c e)
  exact⟨v,o,k _ _ ho,hd⟩
 ·exact I.freeC y c (hcl y c e)
 ·show(none::σ).length=(x::hid x X.N).length
  have:=I.len
  simp[hid,this]
theorem a8n{H1:Hp}{s2:d7}{it:Addr}{tn:Nat->Heap->Prop}{J:It}{Q:VK}{E:Value->d7->Prop}
  {RR:Value->Addr->c3U->d7->Prop} (hc:J1 X.N X.env.scope scope x) (hcalm:X.calm=true)
  (hcl:∀y c,cl.lookup y=some c->X.env.cells.lookup y=some c) (hcl2:∀y,(y,NameKind.free)∈scope.names->(cl.lookup y).isSome=true)
  (ht:∀C fp s3 H3,PTs (P0 X scope cl C x fp s3 H3) ifs tt) (he:∀C fp s3 H3,PE (P0 X scope cl C x fp s3 H3) elt te)
  (I:Inv X pins σ H1 s2) (T:b0G X.prog X.w X.K (.Name x px) J fp it tn) (st:tn 0 s2.heap) (fpo:∀b∈fp,a3N X pins H1 b)
  (h:∀D,H1 D=none->∃W:Nat->Nat->List V->Hp->Prop,
   (∃m,W 0 m [] (upd H1 D (.lst [])))/\∀i m ys H2,W i m ys H2->H2 D=some (.lst ys) /\
   ((J.stop i H2 /\ Q (.ref D) H2) \/ (J.go i H2 /\ ∀ x H3,J.yld i H2 x H3 -> tt (some x :: σ) H3 fun ok H4 => if ok = true then
     te (some x::σ) H4 (fun y H5=>H5 D=some (.lst ys)/\ys.length<g9/\∃m',m'<m/\W (i+1) m' (ys++[y]) (upd H5 D (.lst (ys++[y]))))
     else ∃m',m'<m/\W (i+1) m' ys H4)))
  (hRR:∀D C s' H' m,Inv X pins σ H' s'->s'.heap.Ns C m->H' C=none->C≠X.env.locals->X.s₀.heap.objs.size<=C->(∀y c,X.env.cells.lookup y=some c->c≠C)->(∀p∈X.pn++pins,p.1≠C)->Q (.ref D) H'->RR (.ref D) C (.ok .next) s') :
  wpAny (model X.prog X.w) X.A (newList []) (fun acc s₃=>wpAny (model X.prog X.w) X.A (newFunctionEnv scope X.env.globals cl [] X.env.qual none .none (some X.env)) (fun cenv s₄=>
   a5E (model X.prog X.w) X.A (.compStart (.ListComp elt [⟨.Name x px,iter,ifs,0⟩] scope pos) 0 (.ref it) acc { cenv with scope:=a5D scope X.env }) (RR acc cenv.locals) s₄) E s₃) E s2:=by
 refine a0n (hd:=by size_fits) ?_
 have I3:=I.lnew (ys:=[]) (its:=[]) (t':=s2.toks) .nil (by show 0<=g9;exact J8 _)
 obtain⟨W,⟨m0,w0⟩,turn⟩:=h _ I.fresh
 generalize hD:s2.heap.objs.size=D at I3 w0 turn ⊢
 generalize hs3:({ s2 with heap:=s2.heap.push { cls:=.type "list",data:=.seq ([]:List Value).toArray } }:d7)=s3
 have hs3':({ s2 with heap:=s2.heap.push { cls:=.type "list",data:=.seq ([]:List Value).toArray },toks:=s2.toks }:d7)=s3:=hs3
 rw[hs3']at I3
 have keep3:∀b o,s2.heap.get? b=some o->s3.heap.get? b=some o:=fun b o e=>by rw[<-hs3];exact d8 _ e
 have fpl:∀b∈fp,b<s3.heap.objs.size:=fun b hb=>by
  obtain⟨o,e,_⟩:=T.obj _ _ st b hb
  exact g6 (keep3 b o e)
 have fpD:∀b∈fp,b≠D:=fun b hb z=>by
  obtain⟨o,e,_⟩:=T.obj _ _ st b hb
  exact absurd (g6 e) (by rw[z,hD];exact E4 _)
 have fpo3:∀b∈fp,a3N X pins (upd H1 D (.lst [])) b:=fun b hb=>⟨by rw[c9 (fpD b hb)];exact(fpo b hb).1,(fpo b hb).2⟩
 show wpAny _ _ _ _ _ s3
 refine c5d hc.cell (by intro y hy;simp at hy) (fun h₁ hns₁ hsb₁=>?_) hc.kind
 dsimp only[newEnv]at hns₁ hsb₁ ⊢
 have keep4:∀b o,s3.heap.get? b=some o->h₁.get? b=some o:=fun b o e=>hsb₁.extBut b o (t5 (g6 e)) (d8 _ e)
 have I4:=b8J (tk:=s3.toks+([]:List (Str×Value)).length) hc I3 hcl hcl2 fpo3 fpl hns₁ keep4
 have st4:tn 0 h₁:=T.keep _ _ _ st fun b hb o e=>keep4 b o (keep3 b o e)
 have loop:∀s₄:d7,s₄={ s3 with heap:=h₁,toks:=s3.toks+([]:List (Str×Value)).length } ->
   a5E (model X.prog X.w) X.A (.compLoop (.ListComp elt [⟨.Name x px,iter,ifs,0⟩] scope pos) 0 (.ref it) (.ref D) (b6p scope cl s3.heap.objs.size X.env)) (RR (.ref D) s3.heap.objs.size) s₄:=by
  rintro s₄ rfl
  have stat:∀ {H':Hp},(∀b∈fp,H' b=none)->∀b∈fp,a3N (P0 X scope cl s3.heap.objs.size x fp s3 (upd H1 D (.lst []))) [] H' b:=fun hn b hb=>
   ⟨hn b hb,t5 (fpl b hb),fun hf=>by
    rcases c7.mp (I3.stkSub b hf)with e | e
    ·exact(fpo b hb).2.1 e
    ·exact(fpo b hb).2.2.1 e,.inl hb,fun y c e=>(fpo b hb).2.2.2.2.1 y c (hcl y c e),fun p hp=>absurd (show p∈([]:List (Addr×Obj))from hp) (by simp)⟩
  refine a9m (env:=b6p scope cl s3.heap.objs.size X.env) (fun n s'=>∃i ys H',Inv (P0 X scope cl s3.heap.objs.size x fp s3 (upd H1 D (.lst []))) [] (none::σ) H' s'/\tn i s'.heap/\(∀b∈fp,H' b=none)/\W i n ys H') ?_ m0
   ⟨0,[],_,I4,st4,fun b hb=>(fpo3 b hb).1,w0⟩
  rintro n s5 ⟨i,ys,H5,I5,st5,fr5,w5⟩
  obtain⟨hDy,alt⟩:=turn i n ys H5 w5
  rcases alt with ⟨stop,q⟩ | ⟨go,step⟩
  ·refine V4 (T.done (P0 X scope cl s3.heap.objs.size x fp s3 (upd H1 D (.lst []))) rfl rfl rfl hcalm i [] s5 _ H5 (fun _ _=>False) I5 (stat fr5) st5 stop) (fun r s6 ⟨hr,I6⟩=>?_) fun _ _ f=>f
   subst hr
   obtain⟨m6,n6,_⟩:=I6.loc
   have J6:Inv X pins σ H5 s6:=by
    refine I3.call' (ch:=fp) I6.os I6.base I6.hok I6.bare fun b hb=>?_
    obtain⟨_,f1,f2,f3,f4,f5⟩:=fpo3 b hb
    exact⟨f3,f1,f4,f5⟩
   refine hRR D _ s6 H5 m6 J6 n6 I6.free (b6m I3.lt) I3.sz (fun y c e z=>?_) (fun p hp z=>?_) q
   ·obtain⟨v,q⟩:=I3.cell y c e
    exact absurd q.lt (by rw[z];exact E4 _)
   ·exact absurd (g6 (I3.pin p hp).1) (by rw[z];exact E4 _)
  ·refine V4 (T.item (P0 X scope cl s3.heap.objs.size x fp s3 (upd H1 D (.lst []))) rfl rfl rfl hcalm i [] s5 _ H5 (fun _ _=>False) I5 (stat fr5) st5 go) (fun r s6 ⟨u,hr,h6⟩=>?_) fun _ _ f=>f
   subst hr
   refine thn h6 fun _ s6 ⟨xv,H6,I6,r6,y6,st6,fr6⟩=>?_
   have I6':=I6.pinned (stat fr6) (T.obj _ _ st6)
   refine a4H (a7H (i:=0) I6' ?nd rfl (.inl ?loc) r6 (fun s7 I7=>?_) (.inr ?loc))
   case nd=>exact hc.nd
   case loc=>exact a0u hc.own
   have I7:Inv (P0 X scope cl s3.heap.objs.size x fp s3 (upd H1 D (.lst []))) ([]++a4r fp s6.heap) (some xv::σ) H6 s7:=I7
   have again:∀ {s8:d7} {H8:Hp} {ys8:List V},Inv (P0 X scope cl s3.heap.objs.size x fp s3 (upd H1 D (.lst []))) ([]++a4r fp s6.heap) (some xv::σ) H8 s8->(∃m',m'<n/\W (i+1) m' ys8 H8) ->
     ∃m,m<n/\∃i ys H',Inv (P0 X scope cl s3.heap.objs.size x fp s3 (upd H1 D (.lst []))) [] (none::σ) H' s8/\tn i s8.heap/\(∀b∈fp,H' b=none)/\W i m ys H':=by
    rintro s8 H8 ys8 I8 ⟨m',hm,w8⟩
    refine⟨m',hm,i+1,ys8,H8,(I8.unpinned (pins:=[])).weak rfl (fun j v e=>?_),T.keep _ _ _ st6 fun b hb o e=>(I8.pin (b,o) (l4 _ (l4 _ (a0y hb e)))).1,fun b hb=>?_,w8⟩
    ·cases j with
     | zero=>cases e
     | succ j=>exact e
    ·obtain⟨o,e,d⟩:=T.obj _ _ st6 b hb
     exact(I8.pin (b,o) (l4 _ (l4 _ (a0y hb e)))).2.1
   refine thn (ht _ fp s3 _ _ s7 _ H6 _ I7 (step xv H6 y6)) (fun ok s8 ⟨H8,I8,q8⟩=>?_)
   cases ok with
   | false=>exact again I8 (by simpa using q8)
   | true=>
    rw[if_pos rfl]at q8
    rw[if_pos rfl]
    refine thn (he _ fp s3 _ _ s8 _ H8 _ I8 q8) (fun v s9 ⟨y,H9,I9,r9,hD9,hz9,w9⟩=>?_)
    refine V4 (a6a (X:=P0 X scope cl s3.heap.objs.size x fp s3 (upd H1 D (.lst []))) _ s9 _ H9 (.ref D) [y] (.ref D) [v] (fun _ H'=>H'=upd H9 D (.lst (ys++[y]))) I9 rfl (.cons r9 .nil) ⟨D,ys,y,rfl,rfl,hD9,hz9,rfl⟩) (fun _ s10 ⟨_,H10,I10,_,e10⟩=>?_) fun _ _ f=>f
    subst e10
    exact again I10 w9
 exact c3J (loop _ rfl) (T.self X.A 0 _ _ _ st4 (loop _ rfl))
theorem a8m(hc:J1 X.N X.env.scope scope x)(I:Inv X pins σ H s):∀y∈scope.names,y.2=.free->∃c,X.env.cells.lookup y.1=some c:=by
 intro y hy e
 rcases hc.fr y hy e with q | q
 ·exact I.ok.has y.1 (.inl q)
 ·exact I.ok.has y.1 (.inr q)
theorem c0c(hc:J1 X.N X.env.scope scope x)(hcalm:X.calm=true)(hi:PI X (.Name x px) iter wi)
  (ht:∀cl C fp s3 H3,PTs (P0 X scope cl C x fp s3 H3) ifs tt) (he:∀cl C fp s3 H3,PE (P0 X scope cl C x fp s3 H3) elt te)
  (hs:∀x,K8 iter X.env x=pure x:=by intro _;rfl) :
  PE X (.ListComp elt [⟨.Name x px,iter,ifs,0⟩] scope pos) (M4 wi tt te):=by
 intro pins s σ H Q I h
 obtain⟨cl,hclos,hcl,hcl2⟩:=a2z (a8m hc I)
 rw[eval_ListComp]
 refine a0R (use:=none) rfl hs hclos hc.kind hc.names (thn (hi pins s σ H _ I h) fun v s1 h1=>thn h1 fun itv s2 ⟨it,fp,tn,J,H2,e,I2,T,st,fpo,R⟩=>?_)
 subst e
 refine a8n (RR:=fun acc C=>compPost (model X.prog X.w) X.A X.xe none (EP X pins σ Q) acc C) (Q:=Q) hc hcalm hcl hcl2 (ht cl) (he cl) I2 T st fpo R ?_
 intro D C s' H' m I' n f1 f2 f3 f4 f5 q
 exact⟨m,n,fun h' sb=>⟨.ref D,H',I'.turned (t':=s'.toks) (fun b o hb e=>(sb.2 b hb).trans e) f1 f2 (.inr f3) f4 f5,rfl,q⟩⟩
theorem b3f{py spos:Pos}(hN:X.N.Nodup)(hiy:X.N[i]? = some y)(hy:X.env.scope.names.lookup y=some .local)(hc:J1 X.N X.env.scope scope x)(hcalm:X.calm=true)(hi:PI X (.Name x px) iter wi)
  (ht:∀cl C fp s3 H3,PTs (P0 X scope cl C x fp s3 H3) ifs tt) (he:∀cl C fp s3 H3,PE (P0 X scope cl C x fp s3 H3) elt te)
  (hsw:Z5 (.ListComp elt [⟨.Name x px,iter,ifs,0⟩] scope pos) (some (.Name y py)) spos.line X.env=pure true:=by rfl)
  (hs:∀x,K8 iter X.env x=pure x:=by intro _;rfl) :
  PS X (.Assign [.Name y py] (.ListComp elt [⟨.Name x px,iter,ifs,0⟩] scope pos) spos) (fun D σ H=>M4 wi tt te σ H fun v H1=>D.nx (σ.set i (some v)) H1):=by
 intro pins s σ H D I h
 obtain⟨cl,hclos,hcl,hcl2⟩:=a2z (a8m hc I)
 rw[c3T _ _ _ _ hsw]
 refine l6 (b0Q (l6 ?_))
 show wpAny _ X.A (do let _ <-comprehension (.ListComp elt [⟨.Name x px,iter,ifs,0⟩] scope pos) scope X.env _ (newList []) false (eval iter X.env) (some (a3U (.Name y py) X.env))) _ _ s
 refine l6 (V4 (a0R (use:=some (a3U (.Name y py) X.env)) (Q:=fun _ s'=>SP X pins D .next s') rfl hs hclos hc.kind hc.names
  (thn (hi pins s σ H _ I h) fun v s1 h1=>thn h1 fun itv s2 ⟨it,fp,tn,J,H2,e,I2,T,st,fpo,R⟩=>?_)) (fun _ s' hq=>z7 (z7 hq)) fun _ _ e=>e)
 subst e
 refine a8n (RR:=fun acc C=>compPost (model X.prog X.w) X.A X.xe (some (a3U (.Name y py) X.env)) (fun _ s'=>SP X pins D .next s') acc C) (Q:=fun v H1=>D.nx (σ.set i (some v)) H1) hc hcalm hcl hcl2 (ht cl) (he cl) I2 T st fpo R ?_
 intro E C s' H' m I' n f1 f2 f3 f4 f5 q
 show wpAny _ _ (a3U (.Name y py) X.env (.ref E)) _ _ _
 refine a4H (a5K (v:=.ref E) I' hN hiy (.inl hy) rfl (fun s'' I'' ch=>?_) (.inr hy))
 obtain⟨a,sb,ha⟩:=ch
 have hCa:C≠a:=by
  rcases ha with e | e
  ·rw[e];exact f2
  ·exact fun z=>f4 y a e z.symm
 exact⟨m,n.sameBut sb hCa,fun h' sb'=>⟨_,_,I''.turned (t':=s''.toks) (fun b o hb e=>(sb'.2 b hb).trans e) f1 f2 (.inr f3) f4 f5,q⟩⟩
end
section
theorem OpR.imp{f:Value->Value->Sem Value}{r r':R2}(h:OpR X f r)(i:∀x y H Q,r' x y H Q->r x y H Q):OpR X f r':=fun pins s σ H x y u v Q I rx ry q=>h pins s σ H x y u v Q I rx ry (i _ _ _ _ q)
theorem O7.imp{f:Value}{r r':List V->Hp->VK->Prop}(h:O7 X f r)(i:∀xs H Q,r' xs H Q->r xs H Q):O7 X f r':=fun pins s σ H xs us Q I rx q=>h pins s σ H xs us Q I rx (i _ _ _ q)
theorem IxR.imp{r r':R2}(h:IxR X r)(i:∀x y H Q,r' x y H Q->r x y H Q):IxR X r':=by
 intro value slice pins s σ H x y v u Q I rx ry q hs
 exact h value slice pins s σ H x y v u Q I rx ry (i _ _ _ _ q) hs
theorem SlR.imp{r r':V->Option Int->Option Int->Hp->VK->Prop}(h:SlR X r)(i:∀x lo hi H Q,r' x lo hi H Q->r x lo hi H Q):SlR X r':=fun pins s σ H x v vl vu lo hi sl Q I rx hs pl pu q=>h pins s σ H x v vl vu lo hi sl Q I rx hs pl pu (i _ _ _ _ _ q)
def Z0:R2:=fun x y H Q=>match x,y with
 | .int i,.int j=>Q (.int (i+j)) H
 | .str i,.str j=>i.length+j.length<=g9/\Q (.str (i++j)) H
 | .ref a,.ref b=>match H a,H b with
  | some (.lst xs),some (.lst ys)=>xs.length+ys.length<=g9/\∀p,H p=none->Q (.ref p) (upd H p (.lst (xs++ys)))
  | _,_=>False
 | _,_=>False
theorem c0p:OpR X (Q6 .Add) Z0:=by
 refine(c2S.or (b3o.or c2R)).imp fun x y H Q h=>?_
 unfold Z0 at h
 split at h
 ·exact .inl ⟨_,_,rfl,rfl,h⟩
 ·exact .inr (.inl ⟨_,_,rfl,rfl,h.1,h.2⟩)
 ·split at h
  ·exact .inr (.inr ⟨_,_,_,_,rfl,rfl,by assumption,by assumption,h.1,h.2⟩)
  ·exact h.elim
 ·exact h.elim
def q2I(C:Int->Int->Prop)(g:Int->Int->V):R2:=fun x y H Q=>match x,y with
 | .int i,.int j=>C i j/\Q (g i j) H
 | _,_=>False
def b1D(g:Int->Int->V):R2:=fun x y H Q=>match x,y with
 | .int i,.int j=>Q (g i j) H
 | _,_=>False
theorem a9W{f:Value->Value->Sem Value}{C:Int->Int->Prop}{g:Int->Int->V}(h:OpR X f (rI C g)):OpR X f (q2I C g):=h.imp fun x y H Q q=>by
 unfold q2I at q
 split at q
 ·exact⟨_,_,rfl,rfl,q.1,q.2⟩
 ·exact q.elim
theorem a5g{f:Value->Value->Sem Value}{g:Int->Int->V}(h:OpR X f (rI0 g)):OpR X f (b1D g):=h.imp fun x y H Q q=>by
 unfold b1D at q
 split at q
 ·exact⟨_,_,rfl,rfl,q⟩
 ·exact q.elim
abbrev b3d:R2:=b1D fun i j=>.int (i - j)
abbrev b1C:R2:=q2I c1a fun i j=>.int (i * j)
abbrev a7V:R2:=q2I (fun _ j=>0<j) fun i j=>.int (i % j)
abbrev c1Y:R2:=q2I c4W fun i j=>.int (i ^ j.toNat)
abbrev b9I:R2:=q2I (fun _ j=>0<j/\j<2 ^ 64) fun i j=>.int (i / j)
abbrev qLt:R2:=b1D fun i j=>.bl (decide (i<j))
abbrev qLe:R2:=b1D fun i j=>.bl (decide (i<=j))
abbrev qGt:R2:=b1D fun i j=>.bl (decide (j<i))
abbrev qGe:R2:=b1D fun i j=>.bl (decide (j<=i))
theorem c0h:OpR X (Q6 .Sub) b3d:=a5g c2E
theorem c0k:OpR X (Q6 .Mult) b1C:=a9W c2O
theorem c0l:OpR X (Q6 .Mod) a7V:=a9W c2P
theorem c0i:OpR X (Q6 .Pow) c1Y:=a9W c2N
theorem c0o:OpR X (Q6 .FloorDiv) b9I:=a9W (opI fun i j _ _ _ _ _ hc q=>by
 have hl:j.natAbs.log2<9000:=by
  have:j.natAbs<2 ^ 64:=by have:=hc.1;have:=hc.2;omega
  by_cases h0:j.natAbs=0
  ·rw[h0];decide +kernel
  ·exact b6n ((b8V h0).mpr this) (by decide)
 refine floordiv_int (by omega) ?_ (.inl (PyProof.noPylong_of_log2 hl))
 rw[Int.fdiv_eq_ediv_of_nonneg _ (by omega)]
 exact q)
theorem c2G:OpR X (o4 .Lt) qLt:=a5g c4G
theorem c2H:OpR X (o4 .LtE) qLe:=a5g c4H
theorem c2K:OpR X (o4 .Gt) qGt:=a5g c4I
theorem c2L:OpR X (o4 .GtE) qGe:=a5g c4J
def qIx:R2:=fun x y H Q=>match x,y with
 | .ref p,.int i=>match H p with
  | some (.lst xs)=>∃v,atI xs i=some v/\Q v H
  | some (.tup xs)=>∃v,atI xs i=some v/\Q v H
  | _=>False
 | .str z,.int i=>z.length<=g9/\∃c,atI z.cps.toList i=some c/\Q (.str ⟨#[c]⟩) H
 | _,_=>False
theorem c5u:IxR X qIx:=c3k.imp fun x y H Q h=>by
 unfold qIx at h
 split at h
 ·split at h
  ·obtain⟨v,e,q⟩:=h
   exact .inl ⟨_,_,_,v,rfl,rfl,SqL.of (by assumption),e,q⟩
  ·obtain⟨v,e,q⟩:=h
   exact .inr (.inl ⟨_,_,_,v,rfl,rfl,SqT.of (by assumption),e,q⟩)
  ·exact h.elim
 ·obtain⟨z,c,e,q⟩:=h
  exact .inr (.inr ⟨_,_,c,rfl,rfl,z,e,q⟩)
 ·exact h.elim
def qSl:V->Option Int->Option Int->Hp->VK->Prop:=fun x lo hi H Q=>match x with
 | .ref a=>match H a with
  | some (.lst xs)=>∀p,H p=none->Q (.ref p) (upd H p (.lst (a1r xs lo hi)))
  | some (.tup xs)=>¬(HT.sIx xs.length 0 lo=0/\HT.sIx xs.length xs.length hi=xs.length)/\∀p,H p=none->Q (.ref p) (upd H p (.tup (a1r xs lo hi)))
  | _=>False
 | _=>False
theorem c5g:SlR X qSl:=(b4r.or c1E).imp fun x lo hi H Q h=>by
 unfold qSl at h
 split at h
 ·split at h
  ·exact .inl ⟨_,_,rfl,SqL.of (by assumption),h⟩
  ·exact .inr ⟨_,_,rfl,SqT.of (by assumption),h.1,h.2⟩
  ·exact h.elim
 ·exact h.elim
def O9:List V->Hp->VK->Prop:=fun xs H Q=>match xs with
 | [.ref p]=>match H p with
  | some (.lst ys)=>Q (.int ys.length) H
  | some (.tup ys)=>Q (.int ys.length) H
  | _=>False
 | [.str z]=>z.length<=g9/\Q (.int z.length) H
 | _=>False
theorem b6e:O7 X (.builtin "len") O9:=(b0z.or b0y).imp fun xs H Q h=>by
 unfold O9 at h
 split at h
 ·split at h
  ·exact .inl ⟨_,_,rfl,.inl (SqL.of (by assumption)),h⟩
  ·exact .inl ⟨_,_,rfl,.inr (SqT.of (by assumption)),h⟩
  ·exact h.elim
 ·exact .inr ⟨_,rfl,h.1,h.2⟩
 ·exact h.elim
def b7L:List V->Hp->VK->Prop:=fun xs H Q=>match xs with
 | [.int i]=>Q (.int (if i<0 then -i else i)) H
 | _=>False
theorem b6i:O7 X (.builtin "abs") b7L:=b8N.imp fun xs H Q h=>by
 unfold b7L at h
 split at h
 ·exact⟨_,rfl,h⟩
 ·exact h.elim
def a6J:V->V->V->Hp->(Hp->Prop)->Prop:=fun o i v H Q=>match o,i with
 | .ref p,.int k=>match H p with
  | some (.lst xs)=>∃j,ixN xs.length k=some j/\Q (upd H p (.lst (xs.set j v)))
  | _=>False
 | _,_=>False
theorem c3X:b8Q X a6J:=by
 intro pins s σ H o i v u1 u2 u3 Q I r1 r2 r3 h
 refine b7e pins s σ H o i v u1 u2 u3 Q I r1 r2 r3 ?_
 unfold a6J at h
 split at h
 ·split at h
  ·obtain⟨j,e,q⟩:=h
   exact⟨_,_,_,j,rfl,rfl,by assumption,e,q⟩
  ·exact h.elim
 ·exact h.elim
def a0A(xs ys:List V):Bool:=(D9 (min xs.length ys.length)).all (fun j=>eqV (xs.getD j .non) (ys.getD j .non))&&xs.length == ys.length
def eqO(x y:V)(H:Hp):Option Bool:=if b1p x y=true then some (decide (x=y))else match x,y with
 | .ref a,.ref b=>match H a,H b with
  | some (.tup xs),some (.tup ys)=>if xs.all E5=true/\ys.all E5=true then some (a0A xs ys)else none
  | some (.lst xs),some (.lst ys)=>if xs.all E5=true/\ys.all E5=true then some (a0A xs ys)else none
  | _,_=>none
 | .non,.ref a=>match H a with
  | some (.tup _)=>some false
  | _=>none
 | .ref a,.non=>match H a with
  | some (.tup _)=>some false
  | _=>none
 | _,_=>none
def qEq:R2:=fun x y H Q=>∃b,eqO x y H=some b/\Q (.bl b) H
def qNe:R2:=fun x y H Q=>∃b,eqO x y H=some b/\Q (.bl (!b)) H
theorem a5m{A:F7}{ys:List V}{ws:List Value}(rx:D0 xs us)(ry:D0 ys ws)(fx:xs.all E5=true)(fy:ys.all E5=true) :
  ∀j (h1:j<us.toArray.size) (h2:j<ws.toArray.size),SeqAt.EqAt A s us.toArray[j] ws.toArray[j] (eqV (xs.getD j .non) (ys.getD j .non)):=by
 intro j h1 h2
 have l1:=rx.length
 have l2:=ry.length
 have h1':j<us.length:=by simpa using h1
 have h2':j<ws.length:=by simpa using h2
 have e1:xs[j]? = some (xs[j]'(by omega)):=by simp
 have e2:ys[j]? = some (ys[j]'(by omega)):=by simp
 obtain⟨u,hu,ru⟩:=rx.get e1
 obtain⟨w,hw,rw'⟩:=ry.get e2
 have z1:us.toArray[j]=u:=by
  have:us[j]? = some us[j]:=by simp
  rw[this]at hu
  simpa using hu
 have z2:ws.toArray[j]=w:=by
  have:ws[j]? = some ws[j]:=by simp
  rw[this]at hw
  simpa using hw
 rw[z1,z2]
 have g1:xs.getD j .non=xs[j]'(by omega):=by simp[N4,e1]
 have g2:ys.getD j .non=ys[j]'(by omega):=by simp[N4,e2]
 rw[g1,g2]
 exact b3L ru rw' (v7.mp fx _ (C0 _)) (v7.mp fy _ (C0 _))
theorem c1q{x y:V}{v:Value}{k:Bool}(I:Inv X pins σ H s)(hu:X.A.units<cLine)(rx:C1 x v)(ry:C1 y u)(hs:¬b1p x y=true)(e:eqO x y H=some k) :
  SeqAt.RcAt X.A s v u k/\SeqAt.RcNeAt X.A s v u (!k):=by
 unfold eqO at e
 rw[if_neg hs]at e
 split at e
 ·rename_i a b
  cases rx
  cases ry
  split at e
  ·rename_i xs ys ha hb
   split at e
   ·rename_i hf
    cases e
    obtain⟨us,r1,t1,_⟩:=I.tuple (SqT.of ha)
    obtain⟨ws,r2,t2,_⟩:=I.tuple (SqT.of hb)
    have l1:=r1.length
    have l2:=r2.length
    have q1:=SeqAt.RcAt.tuples (A:=X.A) t1 t2 hu (a5m r1 r2 hf.1 hf.2)
    have q2:=SeqAt.RcNeAt.tuples (A:=X.A) t1 t2 hu (a5m r1 r2 hf.1 hf.2)
    simp only[d6,<-l1,<-l2]at q1 q2
    exact⟨q1,q2⟩
   ·cases e
  ·rename_i xs ys ha hb
   split at e
   ·rename_i hf
    cases e
    obtain⟨us,r1,t1,_⟩:=I.list (SqL.of ha)
    obtain⟨ws,r2,t2,_⟩:=I.list (SqL.of hb)
    have l1:=r1.length
    have l2:=r2.length
    by_cases hl:us.toArray.size=ws.toArray.size
    ·have q1:=SeqAt.RcAt.lists (A:=X.A) t1.isList t2.isList hl hu (a5m r1 r2 hf.1 hf.2)
     have q2:=SeqAt.RcNeAt.lists (A:=X.A) t1.isList t2.isList hl hu (a5m r1 r2 hf.1 hf.2)
     have hl':xs.length=ys.length:=by simpa[<-l1,<-l2]using hl
     have ef:a0A xs ys=(D9 us.toArray.size).all fun j=>eqV (xs.getD j .non) (ys.getD j .non):=by
      unfold a0A
      rw[hl',Nat.min_self,d6,<-l1,hl']
      simp
     rw[ef]
     exact⟨q1,q2⟩
    ·have hl2:(us.toArray.size != ws.toArray.size)=true:=by simpa using hl
     have q1:=SeqAt.RcAt.lists_lengths (A:=X.A) t1.isList t2.isList hl2 hu
     have q2:=SeqAt.RcNeAt.lists_lengths (A:=X.A) t1.isList t2.isList hl2 hu
     have ef:a0A xs ys=false:=by
      unfold a0A
      have:¬xs.length=ys.length:=by simpa[<-l1,<-l2]using hl
      simp[this]
     rw[ef]
     exact⟨q1,q2⟩
   ·cases e
  ·cases e
 ·cases rx
  cases ry
  split at e
  ·cases e
   obtain⟨us,_,t1,_⟩:=I.tuple (SqT.of (by assumption))
   exact⟨SeqAt.RcAt.none_tuple t1 hu,SeqAt.RcNeAt.none_tuple t1 hu⟩
  ·cases e
 ·cases rx
  cases ry
  split at e
  ·cases e
   obtain⟨us,_,t1,_⟩:=I.tuple (SqT.of (by assumption))
   exact⟨SeqAt.RcAt.tuple_none t1 hu,SeqAt.RcNeAt.tuple_none t1 hu⟩
  ·cases e
 ·cases e
theorem c2M(hu:X.A.units<cLine):OpR X (o4 .Eq) qEq:=by
 intro pins s σ H x y v u Q I rx ry h
 obtain⟨k,e,q⟩:=h
 by_cases hs:b1p x y=true
 ·unfold eqO at e
  rw[if_pos hs]at e
  cases e
  exact c4K pins s σ H x y v u Q I rx ry ⟨hs,q⟩
 ·exact(c1q I hu rx ry hs e).1 _ _ _ _ ⟨.bl k,H,I,rfl,q⟩
theorem c2F(hu:X.A.units<cLine):OpR X (o4 .NotEq) qNe:=by
 intro pins s σ H x y v u Q I rx ry h
 obtain⟨k,e,q⟩:=h
 by_cases hs:b1p x y=true
 ·unfold eqO at e
  rw[if_pos hs]at e
  cases e
  exact c4F pins s σ H x y v u Q I rx ry ⟨hs,q⟩
 ·exact(c1q I hu rx ry hs e).2 _ _ _ _ ⟨.bl (!k),H,I,rfl,q⟩
def qIn(neg:Bool):R2:=fun x y H Q=>match x,y with
 | .str i,.str j=>Q (.bl (if neg then !(!(Builtin.Str.occurrences j i 0 j.length 1).isEmpty)else !(Builtin.Str.occurrences j i 0 j.length 1).isEmpty)) H
 | x,.ref p=>match H p with
  | some (.lst xs)=>E5 x=true/\xs.all E5=true/\Q (.bl (if neg then !inV x xs else inV x xs)) H
  | some (.tup xs)=>E5 x=true/\xs.all E5=true/\Q (.bl (if neg then !inV x xs else inV x xs)) H
  | _=>False
 | _,_=>False
theorem c2J:OpR X (o4 .In) (qIn false):=(b5C.or a9f).imp fun x y H Q h=>by
 unfold qIn at h
 split at h
 ·exact .inl ⟨_,_,rfl,rfl,h⟩
 ·split at h
  ·exact .inr ⟨_,_,rfl,.inl (SqL.of (by assumption)),h.1,h.2.1,h.2.2⟩
  ·exact .inr ⟨_,_,rfl,.inr (SqT.of (by assumption)),h.1,h.2.1,h.2.2⟩
  ·exact h.elim
 ·exact h.elim
theorem b5B:OpR X (o4 .NotIn) (qIn true):=(b0e.or b0f).imp fun x y H Q h=>by
 unfold qIn at h
 split at h
 ·exact .inl ⟨_,_,rfl,rfl,h⟩
 ·split at h
  ·exact .inr ⟨_,_,rfl,.inl (SqL.of (by assumption)),h.1,h.2.1,h.2.2⟩
  ·exact .inr ⟨_,_,rfl,.inr (SqT.of (by assumption)),h.1,h.2.1,h.2.2⟩
  ·exact h.elim
 ·exact h.elim
def X9:V->List V->Hp->VK->Prop:=fun x vs H Q=>match x,vs with
 | .ref l,[y]=>match H l with
  | some (.lst xs)=>xs.length<g9/\Q .non (upd H l (.lst (xs++[y])))
  | _=>False
 | _,_=>False
theorem b3v:MtR X "list.append" X9:=fun pins s σ H x xs v us Q I rx rv h=>by
 refine a6a pins s σ H x xs v us Q I rx rv ?_
 unfold X9 at h
 split at h
 ·split at h
  ·exact⟨_,_,_,rfl,rfl,by assumption,h.1,h.2⟩
  ·exact h.elim
 ·exact h.elim
def a1d:List V->Option (List Str)
 | []=>some []
 | .str s::r=>(a1d r).map (s :: ·)
 | _=>none
theorem a4k(ss:List Str):a1d (ss.map V.str)=some ss:=by
 induction ss with
 | nil=>rfl
 | cons s r ih=>simp[a1d,ih]
theorem a7G:∀ {xs:List V} {us:List Value} {ss:List Str},D0 xs us->a1d xs=some ss->StrsAre us ss
 | _,_,ss,.nil,e=>by cases e;exact .nil
 | x::xs,_,ss,.cons r t,e=>by
  cases x with
  | str s=>
   obtain⟨k,rfl⟩:=r
   cases e2:a1d xs with
   | none=>simp[a1d,e2]at e
   | some ss2=>
    simp[a1d,e2]at e
    subst e
    exact .cons _ _ (a7G t e2)
  | _=>simp[a1d]at e
def a1Z:V->List V->Hp->VK->Prop:=fun x vs H Q=>match x,vs with
 | .str x,[.ref l]=>match H l with
  | some (.lst xs)=>∃ss,a1d xs=some ss/\(ss.map (·.length)).sum+ss.length * x.length<=16777216/\Q (.str (Txt.join x ss)) H
  | _=>False
 | _,_=>False
theorem b8n:MtR X "str.join" a1Z:=fun pins s σ H x xs v us Q I rx rv h=>by
 unfold a1Z at h
 split at h
 ·split at h
  ·obtain⟨ss,e,hk,q⟩:=h
   obtain⟨t,rfl⟩:=rx
   obtain⟨u,rfl,ru⟩:=rv.one
   cases ru
   obtain⟨its,r,p,hz⟩:=I.list (SqL.of (by assumption))
   exact join_list p.isList (a7G r e) hk fun t' k=>⟨.str _,H,I.tok _,⟨_,rfl⟩,q⟩
  ·exact h.elim
 ·exact h.elim
def Y4(x:V)(H:Hp):Option String:=match x with
 | .non=>some "NoneType"
 | .bl _=>some "bool"
 | .int _=>some "int"
 | .str _=>some "str"
 | .ref a=>match H a with
  | some (.lst _)=>some "list"
  | some (.tup _)=>some "tuple"
  | some (.dK _)=>some "dict"
  | some (.dT _)=>some "dict"
  | _=>none
 | _=>none
def a4B(t c:String):Bool:=t == c||(t == "bool" && c == "int")
def a6d:List String:=["int","bool","str","list","tuple","dict"]
theorem c3d(K:Fg):∀t ∈ "NoneType" :: a6d,∀c∈a6d,a3P K (.type t) (.type c)=some (a4B t c):=by
 intro t ht c hc
 simp only[a6d,c7,g7,or_false]at ht hc
 rcases ht with rfl | rfl | rfl | rfl | rfl | rfl | rfl <;> rcases hc with rfl | rfl | rfl | rfl | rfl | rfl <;> kernel_rfl
theorem c3W{K:Fg}{x:V}{t:String}(h:Y4 x H=some t):a6k K H x (.type t)/\t ∈ "NoneType" :: a6d:=by
 unfold Y4 at h
 split at h
 ·cases h;exact⟨.non,by decide⟩
 ·cases h;exact⟨.bl _,by decide⟩
 ·cases h;exact⟨.int _,by decide⟩
 ·cases h;exact⟨.str _,by decide⟩
 ·split at h
  ·cases h;exact⟨.lst (by assumption),by decide⟩
  ·cases h;exact⟨.tup (by assumption),by decide⟩
  ·cases h;exact⟨.dK (by assumption),by decide⟩
  ·cases h;exact⟨.dT (by assumption),by decide⟩
  ·cases h
 ·cases h
def a2R:List V->Hp->VK->Prop:=fun xs H Q=>match xs with
 | [x,.ty c]=>∃t,Y4 x H=some t/\c∈a6d/\Q (.bl (a4B t c)) H
 | _=>False
theorem b6f:O7 X (.builtin "isinstance") a2R:=fun pins s σ H xs us Q I r h=>by
 unfold a2R at h
 split at h
 ·obtain⟨t,e,hc,q⟩:=h
  obtain⟨u,u2,rfl,ru,ru2⟩:=b6Q r
  cases ru2
  obtain⟨ty,ht⟩:=c3W (K:=X.K) e
  exact a9k I ru ty (c3d X.K t ht _ hc) fun tk=>⟨.bl _,H,I.tok _,rfl,q⟩
 ·exact h.elim
def b5w:V->V->Hp->VK->Prop:=fun x y H Q=>match x,y with
 | .ref p,.int i=>match H p with
  | some (.lst xs)=>0<=i/\∃v,xs[i.toNat]? = some v/\Q v H
  | _=>False
 | _,_=>False
theorem c4P:c3w X b5w:=fun pins s σ H o i ov iv Q I r1 r2 h=>by
 unfold b5w at h
 split at h
 ·split at h
  ·obtain⟨h0,v,e,q⟩:=h
   cases r1
   obtain⟨t,rfl⟩:=r2
   obtain⟨its,r,pl,hz⟩:=I.list (SqL.of (by assumption))
   obtain⟨u,eu,ru⟩:=r.get e
   have hl:=(i9.mp e).1
   have hn:=a4A
   exact wpAny_getItem_list pl.isList h0 (by omega) (by simpa using eu) ⟨v,H,I,ru,q⟩
  ·exact h.elim
 ·exact h.elim
def qIs:R2:=fun x y H Q=>y=.non/\Q (.bl (decide (x=.non))) H
theorem c2I:OpR X (o4 .Is) qIs:=c2Q
structure C2(P:v0)(w:World)(K:Fg)(mg:Str->Option Value)(base:Heap)(k:Nat)(x:Str)(ps:List Str)(sp:Sp):Prop where
 ex:∃f fd,J0 P w K mg base CX0 k f fd ps sp/\mg x=some (.ref f)/\O6 K (.ref f)=true/\a2O K fd ps []
theorem c2s{k j:Nat}{e:Expr}{es:List Expr}{t:TA}{p:Pos}(C:C2 X.prog X.w X.K X.mg X.base k x ps sp)(hr:O0 j X.A)(hk:k<=j)(hg:Gl X x)(ha:PA X (e::es) t)
  (hdb:(x == ("__debug__" : Str))=false:=by decide) (he:d4 (e::es) X.env=(false,eval e X.env)::d4 es X.env:=by rfl) (hpl:(V5 pos (d4 es X.env)).any (·.1)=false:=by rfl) :
  PE X (.Call (.Name x p) (e::es) [] pos) (o9 sp [] E0 t):=by
 obtain⟨f,fd,F,hm,hkp,hb⟩:=C.ex
 exact c0e F (hr.mono hk) hg hm hkp hb .nil b8b ha hdb he hpl
theorem b6c{P:v0}{K:Fg}{mg:Str->Option Value}{base:Heap}{k:Nat}{q:Str}{st:Stmt}{f:Addr}{fd:V2}(F:Fun K x q st f fd)(O:J0 P w K mg base CX0 k f fd ps sp)
  (hm:mg x=some (.ref f)) (hb:a2O K fd ps []):C2 P w K mg base k x ps sp:=⟨f,fd,O,hm,F.kp,hb⟩
def a6v:List V->Hp->VK->Prop:=fun xs H Q=>match xs with
 | [.ref p]=>match H p with
  | some (.lst ys)=>∀l,H l=none->Q (.ref l) (upd H l (.lst ys))
  | some (.tup ys)=>∀l,H l=none->Q (.ref l) (upd H l (.lst ys))
  | _=>False
 | _=>False
theorem b3T:O7 X (.type "list") a6v:=b0x.imp fun xs H Q h=>by
 unfold a6v at h
 split at h
 ·split at h
  ·exact⟨_,_,rfl,.inl (SqL.of (by assumption)),h⟩
  ·exact⟨_,_,rfl,.inr (SqT.of (by assumption)),h⟩
  ·exact h.elim
 ·exact h.elim
end
def Its(x:Str):It:=⟨fun i _=>i<x.length,fun i H v H'=>H'=H/\∃c,x.cps[i]? = some c/\v=.str ⟨#[c]⟩,fun i _=>x.length<=i⟩
theorem b6T{P:v0}{K:Fg}{tg:Expr}(x:Str)(t:Tok)(it:Addr):b0G P w K tg (Its x) [it] it (fun i h=>h.IsStrIter it (a1L x) x t i) where
 mem:=by simp
 obj:=fun i h st b hb=>by
  have e:b=it:=by simpa using hb
  subst e
  obtain⟨o,e,c,d⟩:=st
  exact⟨o,e,fun v z=>by rw[d]at z;cases z⟩
 keep:=fun i h h' st k=>let⟨o,ho,r⟩:=st; ⟨o,k it (by simp) o ho,r⟩
 item:=by
  intro X hP hw hK hc i pins s σ H E I hf st hg
  subst hP hw hK
  have hi:i<x.cps.size:=hg
  obtain⟨f0,f1,f2,f3,f4,f5⟩:=hf it (by simp)
  have hx:x.cps[i]? = some x.cps[i]:=by simp[hi]
  have fin:∀h',h'.IsStrIter it (a1L x) x t (i+1)->Heap.SameBut it s.heap h'->∃u,some (Value.str ⟨#[x.cps[i]]⟩ s.toks)=some u /\
    wpAny (model X.prog X.w) X.A (a2V tg (.ref it) u) (fun _ s2=>∃v H',Inv X pins σ H' s2/\C1 v u/\(Its x).yld i H v H'/\s2.heap.IsStrIter it (a1L x) x t (i+1)/\∀b∈[it],H' b=none) E { s with heap:=h',toks:=s.toks+1 }:=by
   intro h' st' sb
   have I1:Inv X pins σ H { s with heap:=h',toks:=s.toks+1 }:=I.turned (t':=s.toks+1) (fun b o hb e=>(sb.2 b hb).trans e) f0 f1 f3 f4 f5
   obtain⟨o,e,c,d⟩:=id st'
   refine⟨_,rfl,b4F (s:={ s with heap:=h',toks:=s.toks+1 }) e c d ?_ ⟨.str ⟨#[x.cps[i]]⟩,H,I1,⟨_,rfl⟩,⟨rfl,_,hx,rfl⟩,st',fun b hb=>(hf b hb).1⟩⟩
   unfold a1L
   split <;> decide
  unfold a1L at st fin ⊢
  split at st
  ·rename_i ha
   simp only[ha]at fin ⊢
   exact wpAny_pyNext_ascii_item st hx fun h' st' sb=>fin h' st' sb
  ·rename_i ha
   simp only[ha]at fin ⊢
   exact wpAny_pyNext_wide_item st hx fun h' st' sb=>fin h' st' sb
 done:=by
  intro X hP hw hK hc i pins s σ H E I hf st hg
  subst hP hw hK
  have hi:x.cps.size<=i:=hg
  obtain⟨f0,f1,f2,f3,f4,f5⟩:=hf it (by simp)
  have hx:x.cps[i]? = none:=by simp[hi]
  unfold a1L at st
  split at st
  ·exact wpAny_pyNext_ascii_end (I.ok.hd hc) st hx fun h' eb=>⟨rfl,I.turned (t':=s.toks) (fun b o hb e=>eb b o hb e) f0 f1 f3 f4 f5⟩
  ·exact wpAny_pyNext_wide_end (I.ok.hd hc) st hx fun h' eb=>⟨rfl,I.turned (t':=s.toks) (fun b o hb e=>eb b o hb e) f0 f1 f3 f4 f5⟩
 self:=fun _ _ _ _ _ st h=>by
  unfold a1L at st
  split at st
  ·exact wpAny_pyIter_striter_ascii st h
  ·exact wpAny_pyIter_striter_wide st h
def b8x(tl:TE):TI:=fun σ H R=>tl σ H fun v H1=>∃x,v=.str x/\R (Its x) H1
section
variable {tg:Expr}
theorem c2n{l:Expr}{tl:TE}(hl:PE X l tl):PI X tg l (b8x tl):=by
 intro pins s σ H R I h
 refine thn (hl pins s σ H _ I h) fun v s1 ⟨y,H1,I1,r1,x,e,q1⟩=>?_
 subst e
 obtain⟨t,rfl⟩:=r1
 refine wpAny_pyIter_strU ?_
 have k:∀b u,s1.heap.get? b=some u->(s1.heap.push { cls:=.type (a1L x),data:=.fields #[.str x t,.int 0 0] }).get? b=some u:=fun b u q=>d8 _ q
 refine⟨s1.heap.objs.size,[s1.heap.objs.size],_,Its x,H1,rfl,I1.kept (t':=s1.toks) k,b6T x t _,⟨_,u6 _ rfl,rfl,rfl⟩,fun b hb=>?_,q1⟩
 have e:b=s1.heap.objs.size:=by simpa using hb
 subst e
 exact I1.fpOk (d5 _) I1.fresh
def M7:List V->Option (List Bool)
 | []=>some []
 | .bl b::r=>(M7 r).map (b :: ·)
 | _=>none
theorem a6i:∀ {xs:List V} {bs:List Bool} {i:Nat} {x:V},M7 xs=some bs->xs[i]? = some x->∃b,bs[i]? = some b/\x=.bl b
 | [],_,_,_,_,h=>by simp at h
 | y::r,bs,i,x,e,h=>by
  cases y with
  | bl b=>
   cases e2:M7 r with
   | none=>simp[M7,e2]at e
   | some bs2=>
    simp[M7,e2]at e
    subst e
    cases i with
    | zero=>simp at h;exact⟨b,rfl,h.symm⟩
    | succ i=>
     obtain⟨b',h1,h2⟩:=a6i (i:=i) e2 (by simpa using h)
     exact⟨b',by simpa using h1,h2⟩
  | _=>simp[M7]at e
theorem a6h:∀ {xs:List V} {bs:List Bool},M7 xs=some bs->xs.length=bs.length
 | [],_,e=>by cases e;rfl
 | y::r,bs,e=>by
  cases y with
  | bl b=>
   cases e2:M7 r with
   | none=>simp[M7,e2]at e
   | some bs2=>
    simp[M7,e2]at e
    subst e
    simp[a6h e2]
  | _=>simp[M7]at e
theorem b6l(bs:List Bool):((D9 bs.length).all fun i=>(bs[i]?).getD true)=bs.all id:=by
 rw[a1m,v7,v7]
 constructor
 ·intro h b hb
  obtain⟨i,hi,rfl⟩:=List.mem_iff_getElem.mp hb
  have:=h i (by simpa using hi)
  simpa[hi]using this
 ·intro h i hi
  have hl:i<bs.length:=by simpa using hi
  have:=h bs[i] (C0 _)
  simpa[hl]using this
def a6K:List V->Hp->VK->Prop:=fun vs H Q=>match vs with
 | [.ref l]=>match H l with
  | some (.lst xs)=>∃bs,M7 xs=some bs/\Q (.bl (bs.all id)) H
  | _=>False
 | _=>False
theorem b6h(hc:X.calm=true):O7 X (.builtin "all") a6K:=fun pins s σ H xs us Q I r h=>by
 unfold a6K at h
 split at h
 ·split at h
  ·rename_i l _ ys hl
   obtain⟨bs,e,q⟩:=h
   obtain⟨u,rfl,ru⟩:=a1V r
   cases ru
   obtain⟨its,rv,pl,hz⟩:=I.list (SqL.of hl)
   have hlt:l<s.heap.objs.size:=by obtain⟨_,e,_⟩:=pl.isList;exact g6 e
   have hlen:=rv.length
   have hbl:=a6h e
   refine call_all_walk (b2z pl.isList ?_)
   refine⟨s.heap.objs.size,[s.heap.objs.size,l],[s.heap.objs.size],its.toArray.size,_,_,fun i=>(bs[i]?).getD true,rfl,Walks.list (A:=X.A.in1) (I.ok.hd hc) _ l (t5 hlt) its.toArray,
    ⟨⟨_,u6 _ rfl,rfl,rfl⟩,pl.isList.push _⟩,fun i v s' Q' E' hP hQ=>?_,fun h' tk hk=>?_⟩
   ·have hP:its[i]? = some v:=by simpa using hP
    have hi:i<ys.length:=by rw[hlen];exact(i9.mp hP).1
    have ey:ys[i]? = some ys[i]:=by simp[hi]
    obtain⟨b,eb,ez⟩:=a6i e ey
    obtain⟨u,eu,ru⟩:=rv.get ey
    rw[hP]at eu
    cases eu
    rw[ez]at ru
    cases ru
    simp only[eb,a2P]at hQ
    exact G5 hQ
   ·have e2:((D9 its.toArray.size).all fun i=>(bs[i]?).getD true)=bs.all id:=by
     rw[d6,<-hlen,hbl]
     exact b6l bs
    rw[e2]
    exact⟨.bl _,H,I.kept (t':=tk) fun b x e=>hk b x (fun hm=>by rw[j3.mp hm]at e;exact E4 _ (g6 e)) (d8 _ e),rfl,q⟩
  ·exact h.elim
 ·exact h.elim
end
section
theorem Inv.turnedL{h':Heap}{t':Nat}(I:Inv X pins σ H s)(k:∀b o,b∉fp->s.heap.get? b=some o->h'.get? b=some o)(hf:∀b∈fp,a3N X pins H b) :
  Inv X pins σ H { s with heap:=h',toks:=t' }:=by
 have nit:∀b u,H b=some u->b∉fp:=fun b u e z=>by rw[(hf b z).1]at e;cases e
 refine I.step (g':=s.gens) (d':=s.drawn) (ch:=fp) (fun b hb=>?_) (fun b o _ _ hc e _=>k b o hc e) (fun b o _ _ hc e _=>⟨o.slots,k b o hc e⟩) (fun _ _ _ _ n=>n)
  (fun b o hc e=>⟨o,k b o hc e⟩) (fun _ _ e=>e) (fun _ _ _ e=>e) (fun b ps e=>⟨#[],by rw[e];simp⟩) (fun m hm=>?_) (fun b u e=>?_) I.bare
 ·obtain⟨_,f1,_,f3,f4,f5⟩:=hf b hb
  exact⟨f3,f1,f4,f5⟩
 ·obtain⟨o,es,ep,ho,r⟩:=hm
  exact⟨o,es,ep,k _ o (fun z=>(hf _ z).2.1 rfl) ho,r⟩
 ·refine(I.hok b u e).stay (fun c v hc q=>k c v ?_ q) (fun _ q=>q) fun _ _ q=>q
  rcases hc with z | z
  ·rw[z];exact nit b u e
  ·exact nit c _ z
theorem Inv.pairL{h':Heap}{t':Nat}{x y:V}{v:Value}(I:Inv X pins σ H s)(hf:∀b∈fp,a3N X pins H b)(fl:∀b∈fp,b≠s.heap.objs.size)
  (rx:C1 x u) (ry:C1 y v) (ht:h'.get? s.heap.objs.size=some { cls:=.type "tuple",data:=.seq #[u,v] }) (k:∀b o,b∉fp->s.heap.get? b=some o->h'.get? b=some o) :
  Inv X pins σ (upd H s.heap.objs.size (.tup [x,y])) { s with heap:=h',toks:=t' }:=by
 have I1:Inv X pins σ (upd H s.heap.objs.size (.tup [x,y])) { s with heap:=s.heap.push { cls:=.type "tuple",data:=.seq #[u,v] },toks:=s.toks }:=
  I.laid (fun b u e=>d8 _ e) (d5 _) ⟨by show 2<=g9;decide,[u,v],.cons rx (.cons ry .nil),⟨_,u6 _ rfl,rfl,_,rfl⟩⟩
 refine Inv.turnedL (s:={ s with heap:=s.heap.push { cls:=.type "tuple",data:=.seq #[u,v] },toks:=s.toks }) (fp:=fp) I1 (fun b o hb e=>?_) fun b hb=>⟨by rw[c9 (fl b hb)];exact(hf b hb).1,(hf b hb).2⟩
 by_cases hz:b=s.heap.objs.size
 ·subst hz
  have e2:=u6 s.heap (o:={ cls:=.type "tuple",data:=.seq #[u,v] }) rfl
  rw[show(s.heap.push { cls:=.type "tuple",data:=.seq #[u,v] }).get? s.heap.objs.size=some o from e]at e2
  cases e2
  exact ht
 ·refine k b o hb ?_
  have e:(s.heap.push { cls:=.type "tuple",data:=.seq #[u,v] }).get? b=some o:=e
  rwa [Heap.get?_push_ne _ _ _ hz]at e
def Ite(K:Fg)(a:Addr):It:=
 ⟨fun i H=>∃xs x,SqL K H a xs/\xs[i]? = some x,fun i H v H'=>∃p x,H p=none/\v=.ref p/\H'=upd H p (.tup [.int i,x])/\∀xs,SqL K H a xs->xs[i]? = some x,fun i H=>∃xs,SqL K H a xs/\xs.length<=i⟩
theorem b5l{P:v0}{K:Fg}{x1}(a e it:Addr)(hne:e≠it):b0G P w K (.Tuple elts x1 tp) (Ite K a) [e,it] e (fun i h=>(∃old,IsEnum h e it i old)/\h.IsListIter it a i) where
 mem:=by simp
 obj:=fun i h st b hb=>by
  obtain⟨⟨old,he⟩,o,e1,c,d⟩:=st
  rcases c7.mp hb with rfl | hb
  ·exact⟨_,he,fun v z=>by
    have z':Data.fields _=Data.cell v:=z
    cases z'⟩
  ·have:b=it:=by simpa using hb
   subst this
   exact⟨o,e1,fun v z=>by rw[d]at z;cases z⟩
 keep:=fun i h h' st k=>by
  obtain⟨⟨old,he⟩,hi⟩:=st
  exact⟨⟨old,k e (by simp) _ he⟩,hi.at fun o q=>k it (by simp) o q⟩
 item:=by
  intro X hP hw hK hc i pins s σ H E I hf st hg
  subst hP hw hK
  obtain⟨⟨old,he⟩,hit⟩:=st
  obtain⟨xs,x,hq,hx⟩:=hg
  obtain⟨its,rv,p,hz⟩:=I.list hq
  obtain⟨u,hu,ru⟩:=rv.get hx
  refine wpAny_pyNext_enum_item he hit p.isList (x:=u) (by simpa using hu) hne fun h1 ho hit1 hT hsz hk=>?_
  refine⟨_,rfl,?_⟩
  refine wpAny_letOwnedTupleGo_enum (s:={ s with heap:=h1,toks:=s.toks+1 }) ho fun h2 he2 hs2=>?_
  have hs2:Heap.SameBut e h1 h2:=hs2
  have le:e≠s.heap.objs.size:=t5 (g6 he)
  have li:it≠s.heap.objs.size:=by obtain⟨_,q,_⟩:=hit;exact t5 (g6 q)
  have fl:∀b∈[e,it],b≠s.heap.objs.size:=fun b hb=>by
   rcases c7.mp hb with rfl | hb
   ·exact le
   ·have:b=it:=by simpa using hb
    subst this;exact li
  have I2:=I.pairL (h':=h2) (t':=s.toks+1) (x:=.int i) (y:=x) (u:=.int i s.toks) (v:=u) hf fl ⟨_,rfl⟩ ru ((hs2.2 _ (Ne.symm le)).trans hT) fun b o hb q=>by
   have n1:b≠e:=fun z=>hb (by simp[z])
   have n2:b≠it:=fun z=>hb (by simp[z])
   exact(hs2.2 b n1).trans (hk b o n1 n2 q)
  refine⟨.ref s.heap.objs.size,_,I2,rfl,⟨_,x,I.fresh,rfl,rfl,fun ys hy=>by rw[I.list_inj hy hq];exact hx⟩,⟨⟨u,by simpa using he2⟩,hit1.at fun o q=>(hs2.2 it (Ne.symm hne)).trans q⟩,fun b hb=>?_⟩
  rw[c9 (fl b hb)];exact(hf b hb).1
 done:=by
  intro X hP hw hK hc i pins s σ H E I hf st hg
  subst hP hw hK
  obtain⟨⟨old,he⟩,hit⟩:=st
  obtain⟨xs,hq,hx⟩:=hg
  obtain⟨its,rv,p,hz⟩:=I.list hq
  obtain⟨f0,f1,f2,f3,f4,f5⟩:=hf it (by simp)
  have hl:=rv.length
  exact wpAny_pyNext_enum_end (I.ok.hd hc) he hit p.isList (by simp;omega) fun h' eb=>⟨rfl,I.turned (t':=s.toks) (fun b o hb e=>eb b o hb e) f0 f1 f3 f4 f5⟩
 self:=fun _ _ _ _ _ st h=>by
  obtain⟨⟨old,he⟩,_⟩:=st
  exact wpAny_pyIter_enum he h
def a8l(K:Fg)(ta:TA):TI:=fun σ H R=>ta σ H fun vs H1=>∃a,vs=[.ref a]/\(∃xs,SqL K H1 a xs)/\R (Ite K a) H1
theorem b9X{x1}{a:Expr}{ta:TA}(hg:Gl X "enumerate")(hm:X.mg "enumerate" = none)(ha:PA X [a] ta)(hs:d4 [a] X.env=[(false,eval a X.env)]:=by rfl) :
  PI X (.Tuple elts x1 tp) (.Call (.Name "enumerate" p) [a] [] pos) (a8l X.K ta):=by
 intro pins s σ H R I h
 refine Call_ (a6c I hg hm boot_enumerate (U2 (thn (ha pos pins s σ H _ I h) fun us s1 ⟨vs,H1,I1,r1,q1⟩=>?_) hs rfl))
 obtain⟨b,e,⟨xs,hq⟩,q⟩:=q1
 subst e
 cases r1 with
 | cons r rr=>
  cases rr
  cases r
  obtain⟨its,rv,pl,hz⟩:=I1.list hq
  refine call_enumerate_list pl.isList fun h' he hit hsz hk=>?_
  have I2:Inv X pins σ H1 { s1 with heap:=h' }:=I1.kept (t':=s1.toks) hk
  refine wpAny_pyIter_enum he ⟨_,[s1.heap.objs.size+1,s1.heap.objs.size],_,_,H1,rfl,I2,b5l b (s1.heap.objs.size+1) s1.heap.objs.size (Nat.succ_ne_self _),⟨⟨_,he⟩,hit⟩,fun c hc=>?_,q⟩
  rcases c7.mp hc with rfl | hc
  ·exact I1.fpOk (by omega) (I1.hok.fresh (by omega))
  ·have:c=s1.heap.objs.size:=by simpa using hc
   subst this
   exact I1.fpOk (d5 _) (I1.hok.fresh (d5 _))
def Itz(K:Fg)(a b:Addr):It:=
 ⟨fun i H=>∃xs ys x y,SqL K H a xs/\SqL K H b ys/\xs[i]? = some x/\ys[i]? = some y,fun i H v H'=>∃p x y,H p=none/\v=.ref p/\H'=upd H p (.tup [x,y])/\(∀xs,SqL K H a xs->xs[i]? = some x)/\∀ys,SqL K H b ys->ys[i]? = some y,
  fun i H=>∃xs ys,SqL K H a xs/\SqL K H b ys/\(xs.length<=i\/ys.length<=i)⟩
theorem M5{h:Heap}{a b:Addr}{o o':Obj}(h1:h.get? a=some o)(h2:h.get? b=some o')(hc:o.cls≠o'.cls):a≠b:=fun z=>by
 subst z;rw[h1]at h2;cases h2;exact hc rfl
theorem b6S{P:v0}{K:Fg}{x1}(a b z TI TO i1 i2:Addr)(n1:TI≠z)(n2:TO≠z)(n3:i1≠z)(n4:i2≠z)(n5:TI≠TO)(n6:TI≠i1)(n7:TI≠i2)(n8:TO≠i1)(n9:TO≠i2)(n10:i1≠i2) :
  b0G P w K (.Tuple elts x1 tp) (Itz K a b) [z,TI,TO,i1,i2] z (fun i h=>IsZip h z TI TO .none/\IsPair h TI (.ref i1) (.ref i2)/\(∃u v,IsPair h TO u v)/\h.IsListIter i1 a i/\h.IsListIter i2 b i) where
 mem:=by simp
 obj:=fun i h st c hb=>by
  obtain⟨hz,hTI,⟨u,v,hTO⟩,⟨o1,e1,c1,d1⟩,⟨o2,e2,c2,d2⟩⟩:=st
  simp only[c7,g7,or_false]at hb
  rcases hb with rfl | rfl | rfl | rfl | rfl
  ·exact⟨_,hz,fun v z=>by
    have z':Data.fields _=Data.cell v:=z
    cases z'⟩
  ·exact⟨_,hTI,fun v z=>by
    have z':Data.seq _ _=Data.cell v:=z
    cases z'⟩
  ·exact⟨_,hTO,fun v z=>by
    have z':Data.seq _ _=Data.cell v:=z
    cases z'⟩
  ·exact⟨o1,e1,fun v z=>by rw[d1]at z;cases z⟩
  ·exact⟨o2,e2,fun v z=>by rw[d2]at z;cases z⟩
 keep:=fun i h h' st k=>by
  obtain⟨hz,hTI,⟨u,v,hTO⟩,h1,h2⟩:=st
  exact⟨k z (by simp) _ hz,k TI (by simp) _ hTI,⟨u,v,k TO (by simp) _ hTO⟩,h1.at fun o q=>k i1 (by simp) o q,h2.at fun o q=>k i2 (by simp) o q⟩
 item:=by
  intro X hP hw hK hc i pins s σ H E I hf st hg
  subst hP hw hK
  obtain⟨hz,hTI,⟨u,v,hTO⟩,h1,h2⟩:=st
  obtain⟨xs,ys,x,y,hqa,hqb,hx,hy⟩:=hg
  obtain⟨ia,ra,pa,za⟩:=I.list hqa
  obtain⟨ib,rb,pb,zb⟩:=I.list hqb
  obtain⟨ux,hux,rux⟩:=ra.get hx
  obtain⟨uy,huy,ruy⟩:=rb.get hy
  obtain⟨oa,la,ca,_⟩:=id pa.isList
  obtain⟨ob,lb,cb,_⟩:=id pb.isList
  obtain⟨o1,e1,c1,_⟩:=id h1
  obtain⟨o2,e2,c2,_⟩:=id h2
  have D:ZipApart z TI TO i1 i2 a b:=⟨n1,n2,n3,n4,n5,n6,n7,n8,n9,n10,
   M5 la hz (by rw[ca];intro z;injection z with z;revert z;decide),M5 la hTO (by rw[ca];intro z;injection z with z;revert z;decide),M5 la e1 (by rw[ca,c1];intro z;injection z with z;revert z;decide),M5 la e2 (by rw[ca,c2];intro z;injection z with z;revert z;decide),
   M5 lb hz (by rw[cb];intro z;injection z with z;revert z;decide),M5 lb hTO (by rw[cb];intro z;injection z with z;revert z;decide),M5 lb e1 (by rw[cb,c1];intro z;injection z with z;revert z;decide),M5 lb e2 (by rw[cb,c2];intro z;injection z with z;revert z;decide)⟩
  refine wpAny_pyNext_zip_item D hz hTI hTO h1 h2 pa.isList pb.isList (x:=ux) (y:=uy) (by simpa using hux) (by simpa using huy) fun h3 a1 a2 a3 a4 a5 a6 hk=>?_
  refine⟨_,rfl,?_⟩
  refine wpAny_letOwnedTupleGo_zip (s:={ s with heap:=h3 }) a1 fun h4 hz4 hs4=>?_
  have hs4:Heap.SameBut z h3 h4:=hs4
  have lz:z≠s.heap.objs.size:=t5 (g6 hz)
  have fl:∀c∈[z,TI,TO,i1,i2],c≠s.heap.objs.size:=fun c hc=>by
   simp only[c7,g7,or_false]at hc
   rcases hc with rfl | rfl | rfl | rfl | rfl
   ·exact lz
   ·exact t5 (g6 hTI)
   ·exact t5 (g6 hTO)
   ·exact t5 (g6 e1)
   ·exact t5 (g6 e2)
  have I2:=I.pairL (h':=h4) (t':=s.toks) (x:=x) (y:=y) (u:=ux) (v:=uy) hf fl rux ruy ((hs4.2 _ (Ne.symm lz)).trans a5) fun c o hc q=>by
   have m1:c≠z:=fun z=>hc (by simp[z])
   have m3:c≠TO:=fun z=>hc (by simp[z])
   have m4:c≠i1:=fun z=>hc (by simp[z])
   have m5:c≠i2:=fun z=>hc (by simp[z])
   exact(hs4.2 c m1).trans (hk c o m1 m3 m4 m5 q)
  refine⟨.ref s.heap.objs.size,_,I2,rfl,⟨_,x,y,I.fresh,rfl,rfl,fun zs hy=>by rw[I.list_inj hy hqa];exact hx,fun zs hy'=>by rw[I.list_inj hy' hqb];exact hy⟩,
   ⟨hz4,hs4.extBut _ _ n1 (hk _ _ n1 n5 n6 n7 hTI),⟨_,_,hs4.extBut _ _ n2 a2⟩,a3.extBut hs4.extBut n3,a4.extBut hs4.extBut n4⟩,fun c hc=>?_⟩
  rw[c9 (fl c hc)];exact(hf c hc).1
 done:=by
  intro X hP hw hK hc i pins s σ H E I hf st hg
  subst hP hw hK
  obtain⟨hz,hTI,⟨u,v,hTO⟩,h1,h2⟩:=st
  obtain⟨xs,ys,hqa,hqb,hx⟩:=hg
  obtain⟨ia,ra,pa,za⟩:=I.list hqa
  obtain⟨ib,rb,pb,zb⟩:=I.list hqb
  obtain⟨oa,la,ca,_⟩:=id pa.isList
  obtain⟨ob,lb,cb,_⟩:=id pb.isList
  obtain⟨o1,e1,c1,_⟩:=id h1
  obtain⟨o2,e2,c2,_⟩:=id h2
  have D:ZipApart z TI TO i1 i2 a b:=⟨n1,n2,n3,n4,n5,n6,n7,n8,n9,n10,
   M5 la hz (by rw[ca];intro z;injection z with z;revert z;decide),M5 la hTO (by rw[ca];intro z;injection z with z;revert z;decide),M5 la e1 (by rw[ca,c1];intro z;injection z with z;revert z;decide),M5 la e2 (by rw[ca,c2];intro z;injection z with z;revert z;decide),
   M5 lb hz (by rw[cb];intro z;injection z with z;revert z;decide),M5 lb hTO (by rw[cb];intro z;injection z with z;revert z;decide),M5 lb e1 (by rw[cb,c1];intro z;injection z with z;revert z;decide),M5 lb e2 (by rw[cb,c2];intro z;injection z with z;revert z;decide)⟩
  have la':=ra.length
  have lb':=rb.length
  have hend:ia.toArray[i]? = none\/ib.toArray[i]? = none:=by
   rcases hx with hx | hx
   ·left;simp;omega
   ·right;simp;omega
  refine wpAny_pyNext_zip_end (I.ok.hd hc) D hz hTI hTO h1 h2 pa.isList pb.isList hend fun h' hk=>⟨rfl,?_⟩
  refine I.turnedL (t':=s.toks) (fp:=[z,TI,TO,i1,i2]) (fun c o hc q=>?_) hf
  exact hk c o (fun z=>hc (by simp[z])) (fun z=>hc (by simp[z])) (fun z=>hc (by simp[z])) (fun z=>hc (by simp[z])) q
 self:=fun _ _ _ _ _ st h=>wpAny_pyIter_zip st.1 h
def b8w(K:Fg)(ta:TA):TI:=fun σ H R=>ta σ H fun vs H1=>∃a b,vs=[.ref a,.ref b]/\(∃xs,SqL K H1 a xs)/\(∃xs,SqL K H1 b xs)/\R (Itz K a b) H1
theorem c2l{x1}{a b:Expr}{ta:TA}(hg:Gl X "zip")(hm:X.mg "zip" = none)(ha:PA X [a,b] ta)(hs:d4 [a,b] X.env=[(false,eval a X.env),(false,eval b X.env)]:=by rfl)(hs2:d4 [b] X.env=[(false,eval b X.env)]:=by rfl) :
  PI X (.Tuple elts x1 tp) (.Call (.Name "zip" p) [a,b] [] pos) (b8w X.K ta):=by
 intro pins s σ H R I h
 refine Call_ (a6c I hg hm boot_zip (U2 (thn (ha pos pins s σ H _ I h) fun us s1 ⟨vs,H1,I1,r1,q1⟩=>?_) (by rw[hs,hs2]) (by rw[hs2];rfl)))
 obtain⟨c,d,e,⟨xs,hq⟩,⟨ys,hq'⟩,q⟩:=q1
 subst e
 cases r1 with
 | cons r rr=>
  cases rr with
  | cons r' rr=>
   cases rr
   cases r
   cases r'
   obtain⟨ia,ra,pa,za⟩:=I1.list hq
   obtain⟨ib,rb,pb,zb⟩:=I1.list hq'
   refine call_zip_2 pa.isList pb.isList fun h' hz hTI hTO h1 h2 hsz hk=>?_
   have I2:Inv X pins σ H1 { s1 with heap:=h' }:=I1.kept (t':=s1.toks) hk
   have N:∀n:Nat,n+2≠n+4/\n+3≠n+4/\n≠n+4/\n+1≠n+4/\n+2≠n+3/\n+2≠n/\n+2≠n+1/\n+3≠n/\n+3≠n+1/\n≠n+1:=fun n=>by omega
   obtain⟨m1,m2,m3,m4,m5,m6,m7,m8,m9,m10⟩:=N s1.heap.objs.size
   refine wpAny_pyIter_zip hz ⟨_,[s1.heap.objs.size+4,s1.heap.objs.size+2,s1.heap.objs.size+3,s1.heap.objs.size,s1.heap.objs.size+1],_,_,H1,rfl,I2,
    b6S c d (s1.heap.objs.size+4) (s1.heap.objs.size+2) (s1.heap.objs.size+3) s1.heap.objs.size (s1.heap.objs.size+1) m1 m2 m3 m4 m5 m6 m7 m8 m9 m10,⟨hz,hTI,⟨_,_,hTO⟩,h1,h2⟩,fun y hy=>?_,q⟩
   have:s1.heap.objs.size<=y:=by
    simp only[c7,g7,or_false]at hy
    rcases hy with rfl | rfl | rfl | rfl | rfl
    ·exact a3t _ _
    ·exact a3t _ _
    ·exact a3t _ _
    ·exact d5 _
    ·exact a3t _ _
   exact I1.fpOk this (I1.hok.fresh this)
end
def b0n(x y:Str)(N:List Str):List Str:=N.map fun z=>if z=x then ("." : Str)++x else if z=y then ("." : Str)++y else z
def J7(X:Cx)(scope:Scope)(cl:List (Str×Addr))(C:Addr)(x y:Str)(fp:List Addr)(s3:d7)(H3:Hp):Cx:=
 { X with N:=x::y::b0n x y X.N,s₀:=s3,H₀:=H3,env:=b6p scope cl C X.env,outer:=X.stack,stack:=X.stack,ex:=fp,fn:=fun _=>false,pn:=[],xe:=fun _ _=>False }
structure a0i(N:List Str)(osc sc:Scope)(x y:Str):Prop where
 kind:sc.kind=.function
 cell:∀y∈sc.names,y.2≠.cell
 names:∀y∈sc.names,y.2=.local->sc.names.lookup y.1=some .local
 own:sc.names.lookup x=some .local
 own2:sc.names.lookup y=some .local
 fr:∀y∈sc.names,y.2=.free->osc.names.lookup y.1=some .cell\/osc.names.lookup y.1=some .free
 see:∀z∈b0n x y N,sc.names.lookup z≠some .local
 dot:sc.names.lookup (("." : Str)++x)=none
 dot2:sc.names.lookup (("." : Str)++y)=none
 nd:(x::y::b0n x y N).Nodup
def a2j(K:Fg)(wi:TI)(tt:TT)(te:TE):TE:=fun σ H Q=>wi σ H fun J H1=>∀D,H1 D=none->∃W:Nat->Nat->List V->Hp->Prop,
 (∃m,W 0 m [] (upd H1 D (.lst [])))/\∀i m ys H2,W i m ys H2->H2 D=some (.lst ys) /\
  ((J.stop i H2 /\ Q (.ref D) H2) \/ (J.go i H2 /\ ∀ x H3,J.yld i H2 x H3 -> ∃ a u v,x = .ref a /\ SqT K H3 a [u,v] /\ tt (some u :: some v :: σ) H3 fun ok H4 => if ok = true then
    te (some u::some v::σ) H4 (fun y H5=>H5 D=some (.lst ys)/\ys.length<g9/\∃m',m'<m/\W (i+1) m' (ys++[y]) (upd H5 D (.lst (ys++[y]))))
    else ∃m',m'<m/\W (i+1) m' ys H4))
section
variable {x2:Str}{px py2 pt:Pos}{kt}
theorem b5X{s3:d7}{h4:Heap}{tk:Nat}(hc:a0i X.N X.env.scope scope x x2)(I:Inv X pins σ H s3)
  (hcl:∀y c,cl.lookup y=some c->X.env.cells.lookup y=some c) (hcl2:∀y,(y,NameKind.free)∈scope.names->(cl.lookup y).isSome=true)
  (fpo:∀b∈fp,a3N X pins H b) (fpl:∀b∈fp,b<s3.heap.objs.size)
  (hn:h4.Ns s3.heap.objs.size (fun _=>none)) (k:∀b o,s3.heap.get? b=some o->h4.get? b=some o) :
  Inv (J7 X scope cl s3.heap.objs.size x x2 fp s3 H) [] (none::none::σ) H { s3 with heap:=h4,toks:=tk }:=by
 have low:∀x y,(J7 X scope cl s3.heap.objs.size x x2 fp s3 H).env.cells.lookup y=cl.lookup y:=fun _ _=>rfl
 have below:∀y c,cl.lookup y=some c->c<s3.heap.objs.size:=fun y c e=>by
  obtain⟨v,q⟩:=I.cell y c (hcl y c e)
  exact q.lt
 have kinds:∀y,((J7 X scope cl s3.heap.objs.size x x2 fp s3 H).env.kindOf y=some .cell\/(J7 X scope cl s3.heap.objs.size x x2 fp s3 H).env.kindOf y=some .free)->scope.names.lookup y=some .free:=by
  intro y hy
  rcases hy with hy | hy
  ·rcases J5 hy with q | ⟨q,_⟩
   ·exact absurd rfl (hc.cell _ (u4 q))
   ·exact q
  ·rcases J5 hy with q | ⟨q,z⟩
   ·exact q
   ·cases z
 refine⟨⟨I.ok.mod,?_,I.ok.glob,I.ok.blt,d5 _,fun y z c h1 h2=>?_,fun y hy=>?_,fun y c h=>?_,I.ok.hd,I.ok.frames,.inl rfl,fun b hb=>⟨?_,fun y c e z=>?_⟩,fun b o e=>I.bs b o e,v9 I.ok.bsz I.sz,fun b o e hb=>?_,fun b hb hf=>?_,I.stack,I.stkFree⟩,
  rfl,I.bare,Un.kept k,⟨_,hn,fun i y v h1 h2 h3=>?_⟩,fun y c e=>?_,I.fresh,fun y c e=>?_,fun p hp=>absurd (show p∈([]:List (Addr×Obj))from hp) (by simp),I.hok.kept k,?_⟩
 ·exact hc.kind
 ·exact I.ok.inj y z c (hcl _ _ h1) (hcl _ _ h2)
 ·have:=hcl2 y (u4 (kinds y hy))
  exact R4.mp this
 ·cases h
 ·exact t5 (fpl b hb)
 ·exact(fpo b hb).2.2.2.2.1 y c (hcl y c e) z
 ·rcases(fpo b hb).2.2.2.1 with q | q
  ·exact I.ok.noex b o e q
  ·exact absurd (p9 (g6 (I.ok.bs b o e).1) q) (E4 _)
 ·rcases c7.mp (I.stkSub b hf)with e | e
  ·exact(fpo b hb).2.1 e
  ·exact(fpo b hb).2.2.1 e
 ·-- the names
  have h1:(x::x2::b0n x x2 X.N)[i]? = some y:=h1
  cases i with
  | zero=>cases h2
  | succ i=>
   cases i with
   | zero=>cases h2
   | succ i=>
   have h1:(b0n x x2 X.N)[i]? = some y:=h1
   have h2:σ[i]? = some (some v):=h2
   have my:y∈b0n x x2 X.N:=X3 h1
   have h3:(a5D scope X.env).names.lookup y=some .local\/(a5D scope X.env).names.lookup y=some .cell\/(a5D scope X.env).names.lookup y=some .free:=h3
   have hf:scope.names.lookup y=some .free:=by
    rcases h3 with q | q
    ·rcases J5 q with q | ⟨_,z⟩
     ·exact absurd q (hc.see y my)
     ·cases z
    ·exact kinds y q
   have hy:X.N[i]? = some y:=by
    unfold b0n at h1
    rw[b7]at h1
    cases e:X.N[i]? with
    | none=>rw[e]at h1;cases h1
    | some z=>
     rw[e]at h1
     by_cases ez:z=x
     ·rw[a3s,if_pos ez]at h1
      have h1:=Option.some.inj h1
      subst h1
      rw[hc.dot]at hf
      cases hf
     ·rw[a3s,if_neg ez]at h1
      by_cases ez2:z=x2
      ·rw[if_pos ez2]at h1
       have h1:=Option.some.inj h1
       subst h1
       rw[hc.dot2]at hf
       cases hf
      ·rw[if_neg ez2]at h1
       exact h1
   obtain⟨m,_,hl⟩:=I.loc
   obtain⟨c,hcc⟩:=R4.mp (hcl2 y (u4 hf))
   have vis:Vis X.env.scope y:=by
    rcases hc.fr _ (u4 hf) rfl with q | q
    ·exact .inr (.inl q)
    ·exact .inr (.inr q)
   obtain⟨u,ru,lk⟩:=hl i y v hy h2 vis
   refine⟨u,ru,.inr ⟨?_,c,hcc,?_⟩⟩
   ·rcases h3 with q | q
    ·rcases J5 q with q | ⟨_,z⟩
     ·exact absurd q (hc.see y my)
     ·cases z
    ·exact q
   ·have hce:=hcl y c hcc
    rcases lk with ⟨q,_⟩ | ⟨_,c',e',z⟩
    ·rcases hc.fr _ (u4 hf) rfl with q' | q'
     ·have q:X.env.scope.names.lookup y=some .local:=q
      rw[show X.env.scope.names.lookup y=some NameKind.cell from q']at q
      cases q
     ·have q:X.env.scope.names.lookup y=some .local:=q
      rw[show X.env.scope.names.lookup y=some NameKind.free from q']at q
      cases q
    ·rw[e']at hce
     cases hce
     obtain⟨o,ho,hd⟩:=z
     exact⟨o,k _ _ ho,hd⟩
 ·obtain⟨v,o,ho,hd⟩:=I.cell y c (hcl y c e)
  exact⟨v,o,k _ _ ho,hd⟩
 ·exact I.freeC y c (hcl y c e)
 ·show(none::none::σ).length=(x::x2::b0n x x2 X.N).length
  have:=I.len
  simp[b0n,this]
theorem a6A{H1:Hp}{s2:d7}{it:Addr}{tn:Nat->Heap->Prop}{J:It}{Q:VK}{E:Value->d7->Prop}
  {RR:Value->Addr->c3U->d7->Prop} (hc:a0i X.N X.env.scope scope x x2) (hcalm:X.calm=true)
  (hcl:∀y c,cl.lookup y=some c->X.env.cells.lookup y=some c) (hcl2:∀y,(y,NameKind.free)∈scope.names->(cl.lookup y).isSome=true)
  (ht:∀C fp s3 H3,PTs (J7 X scope cl C x x2 fp s3 H3) ifs tt) (he:∀C fp s3 H3,PE (J7 X scope cl C x x2 fp s3 H3) elt te)
  (I:Inv X pins σ H1 s2) (T:b0G X.prog X.w X.K (.Tuple [.Name x px,.Name x2 py2] kt pt) J fp it tn) (st:tn 0 s2.heap) (fpo:∀b∈fp,a3N X pins H1 b)
  (h:∀D,H1 D=none->∃W:Nat->Nat->List V->Hp->Prop,
   (∃m,W 0 m [] (upd H1 D (.lst [])))/\∀i m ys H2,W i m ys H2->H2 D=some (.lst ys) /\
   ((J.stop i H2 /\ Q (.ref D) H2) \/ (J.go i H2 /\ ∀ x H3,J.yld i H2 x H3 -> ∃ a u v,x = .ref a /\ SqT X.K H3 a [u,v] /\ tt (some u :: some v :: σ) H3 fun ok H4 => if ok = true then
     te (some u::some v::σ) H4 (fun y H5=>H5 D=some (.lst ys)/\ys.length<g9/\∃m',m'<m/\W (i+1) m' (ys++[y]) (upd H5 D (.lst (ys++[y]))))
     else ∃m',m'<m/\W (i+1) m' ys H4)))
  (hRR:∀D C s' H' m,Inv X pins σ H' s'->s'.heap.Ns C m->H' C=none->C≠X.env.locals->X.s₀.heap.objs.size<=C->(∀y c,X.env.cells.lookup y=some c->c≠C)->(∀p∈X.pn++pins,p.1≠C)->Q (.ref D) H'->RR (.ref D) C (.ok .next) s') :
  wpAny (model X.prog X.w) X.A (newList []) (fun acc s₃=>wpAny (model X.prog X.w) X.A (newFunctionEnv scope X.env.globals cl [] X.env.qual none .none (some X.env)) (fun cenv s₄=>
   a5E (model X.prog X.w) X.A (.compStart (.ListComp elt [⟨.Tuple [.Name x px,.Name x2 py2] kt pt,iter,ifs,0⟩] scope pos) 0 (.ref it) acc { cenv with scope:=a5D scope X.env }) (RR acc cenv.locals) s₄) E s₃) E s2:=by
 refine a0n (hd:=by size_fits) ?_
 have I3:=I.lnew (ys:=[]) (its:=[]) (t':=s2.toks) .nil (by show 0<=g9;exact J8 _)
 obtain⟨W,⟨m0,w0⟩,turn⟩:=h _ I.fresh
 generalize hD:s2.heap.objs.size=D at I3 w0 turn ⊢
 generalize hs3:({ s2 with heap:=s2.heap.push { cls:=.type "list",data:=.seq ([]:List Value).toArray } }:d7)=s3
 have hs3':({ s2 with heap:=s2.heap.push { cls:=.type "list",data:=.seq ([]:List Value).toArray },toks:=s2.toks }:d7)=s3:=hs3
 rw[hs3']at I3
 have keep3:∀b o,s2.heap.get? b=some o->s3.heap.get? b=some o:=fun b o e=>by rw[<-hs3];exact d8 _ e
 have fpl:∀b∈fp,b<s3.heap.objs.size:=fun b hb=>by
  obtain⟨o,e,_⟩:=T.obj _ _ st b hb
  exact g6 (keep3 b o e)
 have fpD:∀b∈fp,b≠D:=fun b hb z=>by
  obtain⟨o,e,_⟩:=T.obj _ _ st b hb
  exact absurd (g6 e) (by rw[z,hD];exact E4 _)
 have fpo3:∀b∈fp,a3N X pins (upd H1 D (.lst [])) b:=fun b hb=>⟨by rw[c9 (fpD b hb)];exact(fpo b hb).1,(fpo b hb).2⟩
 show wpAny _ _ _ _ _ s3
 refine c5d hc.cell (by intro y hy;simp at hy) (fun h₁ hns₁ hsb₁=>?_) hc.kind
 dsimp only[newEnv]at hns₁ hsb₁ ⊢
 have keep4:∀b o,s3.heap.get? b=some o->h₁.get? b=some o:=fun b o e=>hsb₁.extBut b o (t5 (g6 e)) (d8 _ e)
 have I4:=b5X (tk:=s3.toks+([]:List (Str×Value)).length) hc I3 hcl hcl2 fpo3 fpl hns₁ keep4
 have st4:tn 0 h₁:=T.keep _ _ _ st fun b hb o e=>keep4 b o (keep3 b o e)
 have loop:∀s₄:d7,s₄={ s3 with heap:=h₁,toks:=s3.toks+([]:List (Str×Value)).length } ->
   a5E (model X.prog X.w) X.A (.compLoop (.ListComp elt [⟨.Tuple [.Name x px,.Name x2 py2] kt pt,iter,ifs,0⟩] scope pos) 0 (.ref it) (.ref D) (b6p scope cl s3.heap.objs.size X.env)) (RR (.ref D) s3.heap.objs.size) s₄:=by
  rintro s₄ rfl
  have stat:∀ {H':Hp},(∀b∈fp,H' b=none)->∀b∈fp,a3N (J7 X scope cl s3.heap.objs.size x x2 fp s3 (upd H1 D (.lst []))) [] H' b:=fun hn b hb=>
   ⟨hn b hb,t5 (fpl b hb),fun hf=>by
    rcases c7.mp (I3.stkSub b hf)with e | e
    ·exact(fpo b hb).2.1 e
    ·exact(fpo b hb).2.2.1 e,.inl hb,fun y c e=>(fpo b hb).2.2.2.2.1 y c (hcl y c e),fun p hp=>absurd (show p∈([]:List (Addr×Obj))from hp) (by simp)⟩
  refine a9m (env:=b6p scope cl s3.heap.objs.size X.env) (fun n s'=>∃i ys H',Inv (J7 X scope cl s3.heap.objs.size x x2 fp s3 (upd H1 D (.lst []))) [] (none::none::σ) H' s'/\tn i s'.heap/\(∀b∈fp,H' b=none)/\W i n ys H') ?_ m0
   ⟨0,[],_,I4,st4,fun b hb=>(fpo3 b hb).1,w0⟩
  rintro n s5 ⟨i,ys,H5,I5,st5,fr5,w5⟩
  obtain⟨hDy,alt⟩:=turn i n ys H5 w5
  rcases alt with ⟨stop,q⟩ | ⟨go,step⟩
  ·refine V4 (T.done (J7 X scope cl s3.heap.objs.size x x2 fp s3 (upd H1 D (.lst []))) rfl rfl rfl hcalm i [] s5 _ H5 (fun _ _=>False) I5 (stat fr5) st5 stop) (fun r s6 ⟨hr,I6⟩=>?_) fun _ _ f=>f
   subst hr
   obtain⟨m6,n6,_⟩:=I6.loc
   have J6:Inv X pins σ H5 s6:=by
    refine I3.call' (ch:=fp) I6.os I6.base I6.hok I6.bare fun b hb=>?_
    obtain⟨_,f1,f2,f3,f4,f5⟩:=fpo3 b hb
    exact⟨f3,f1,f4,f5⟩
   refine hRR D _ s6 H5 m6 J6 n6 I6.free (b6m I3.lt) I3.sz (fun y c e z=>?_) (fun p hp z=>?_) q
   ·obtain⟨v,q⟩:=I3.cell y c e
    exact absurd q.lt (by rw[z];exact E4 _)
   ·exact absurd (g6 (I3.pin p hp).1) (by rw[z];exact E4 _)
  ·refine V4 (T.item (J7 X scope cl s3.heap.objs.size x x2 fp s3 (upd H1 D (.lst []))) rfl rfl rfl hcalm i [] s5 _ H5 (fun _ _=>False) I5 (stat fr5) st5 go) (fun r s6 ⟨u,hr,h6⟩=>?_) fun _ _ f=>f
   subst hr
   refine thn h6 fun _ s6 ⟨xv,H6,I6,r6,y6,st6,fr6⟩=>?_
   have I6':=I6.pinned (stat fr6) (T.obj _ _ st6)
   obtain⟨pa,u1,u2,rfl,hsq,step⟩:=step xv H6 y6
   have hpg:PG (J7 X scope cl s3.heap.objs.size x x2 fp s3 (upd H1 D (.lst []))) (.Tuple [.Name x px,.Name x2 py2] kt pt) (b2b X.K 2 (a1D (o0 0) (a1D (o0 1) b2c))):=
    b7T (X:=J7 X scope cl s3.heap.objs.size x x2 fp s3 (upd H1 D (.lst []))) hcalm (a7W (a9X (i:=0) hc.nd rfl (.inl (a0u hc.own)) (.inr (a0u hc.own))) (a7W (a9X (i:=1) hc.nd rfl (.inl (a0u hc.own2)) (.inr (a0u hc.own2))) b4y))
   refine thn (hpg _ s6 (none::none::σ) H6 (.ref pa) u (fun σ' H'=>σ'=some u1::some u2::σ/\H'=H6) I6' r6 ⟨pa,[u1,u2],rfl,hsq,rfl,_,_,rfl,_,_,rfl,rfl,rfl,rfl⟩) fun _ s7 ⟨σ7,H7,I7,e7,e7'⟩=>?_
   subst e7 e7'
   have again:∀ {s8:d7} {H8:Hp} {ys8:List V},Inv (J7 X scope cl s3.heap.objs.size x x2 fp s3 (upd H1 D (.lst []))) ([]++a4r fp s6.heap) (some u1::some u2::σ) H8 s8->(∃m',m'<n/\W (i+1) m' ys8 H8) ->
     ∃m,m<n/\∃i ys H',Inv (J7 X scope cl s3.heap.objs.size x x2 fp s3 (upd H1 D (.lst []))) [] (none::none::σ) H' s8/\tn i s8.heap/\(∀b∈fp,H' b=none)/\W i m ys H':=by
    rintro s8 H8 ys8 I8 ⟨m',hm,w8⟩
    refine⟨m',hm,i+1,ys8,H8,(I8.unpinned (pins:=[])).weak rfl (fun j v e=>?_),T.keep _ _ _ st6 fun b hb o e=>(I8.pin (b,o) (l4 _ (l4 _ (a0y hb e)))).1,fun b hb=>?_,w8⟩
    ·cases j with
     | zero=>cases e
     | succ j=>
      cases j with
      | zero=>cases e
      | succ j=>exact e
    ·obtain⟨o,e,d⟩:=T.obj _ _ st6 b hb
     exact(I8.pin (b,o) (l4 _ (l4 _ (a0y hb e)))).2.1
   refine thn (ht _ fp s3 _ _ s7 _ _ _ I7 step) (fun ok s8 ⟨H8,I8,q8⟩=>?_)
   cases ok with
   | false=>exact again I8 (by simpa using q8)
   | true=>
    rw[if_pos rfl]at q8
    rw[if_pos rfl]
    refine thn (he _ fp s3 _ _ s8 _ H8 _ I8 q8) (fun v s9 ⟨y,H9,I9,r9,hD9,hz9,w9⟩=>?_)
    refine V4 (a6a (X:=J7 X scope cl s3.heap.objs.size x x2 fp s3 (upd H1 D (.lst []))) _ s9 _ H9 (.ref D) [y] (.ref D) [v] (fun _ H'=>H'=upd H9 D (.lst (ys++[y]))) I9 rfl (.cons r9 .nil) ⟨D,ys,y,rfl,rfl,hD9,hz9,rfl⟩) (fun _ s10 ⟨_,H10,I10,_,e10⟩=>?_) fun _ _ f=>f
    subst e10
    exact again I10 w9
 exact c3J (loop _ rfl) (T.self X.A 0 _ _ _ st4 (loop _ rfl))
theorem a6z(hc:a0i X.N X.env.scope scope x x2)(I:Inv X pins σ H s):∀y∈scope.names,y.2=.free->∃c,X.env.cells.lookup y.1=some c:=by
 intro y hy e
 rcases hc.fr y hy e with q | q
 ·exact I.ok.has y.1 (.inl q)
 ·exact I.ok.has y.1 (.inr q)
theorem b7X(hc:a0i X.N X.env.scope scope x x2)(hcalm:X.calm=true)(hi:PI X (.Tuple [.Name x px,.Name x2 py2] kt pt) iter wi)
  (ht:∀cl C fp s3 H3,PTs (J7 X scope cl C x x2 fp s3 H3) ifs tt) (he:∀cl C fp s3 H3,PE (J7 X scope cl C x x2 fp s3 H3) elt te)
  (hs:∀x,K8 iter X.env x=pure x:=by intro _;rfl) :
  PE X (.ListComp elt [⟨.Tuple [.Name x px,.Name x2 py2] kt pt,iter,ifs,0⟩] scope pos) (a2j X.K wi tt te):=by
 intro pins s σ H Q I h
 obtain⟨cl,hclos,hcl,hcl2⟩:=a2z (a6z hc I)
 rw[eval_ListComp]
 refine a0R (use:=none) rfl hs hclos hc.kind hc.names (thn (hi pins s σ H _ I h) fun v s1 h1=>thn h1 fun itv s2 ⟨it,fp,tn,J,H2,e,I2,T,st,fpo,R⟩=>?_)
 subst e
 refine a6A (RR:=fun acc C=>compPost (model X.prog X.w) X.A X.xe none (EP X pins σ Q) acc C) (Q:=Q) hc hcalm hcl hcl2 (ht cl) (he cl) I2 T st fpo R ?_
 intro D C s' H' m I' n f1 f2 f3 f4 f5 q
 exact⟨m,n,fun h' sb=>⟨.ref D,H',I'.turned (t':=s'.toks) (fun b o hb e=>(sb.2 b hb).trans e) f1 f2 (.inr f3) f4 f5,rfl,q⟩⟩
end
section
variable {x2:Str}{px py2 pt:Pos}{kt:Nat}
theorem b1E{py spos:Pos}(hN:X.N.Nodup)(hiy:X.N[i]? = some y)(hy:X.env.scope.names.lookup y=some .local)(hc:a0i X.N X.env.scope scope x x2)(hcalm:X.calm=true)(hi:PI X (.Tuple [.Name x px,.Name x2 py2] kt pt) iter wi)
  (ht:∀cl C fp s3 H3,PTs (J7 X scope cl C x x2 fp s3 H3) ifs tt) (he:∀cl C fp s3 H3,PE (J7 X scope cl C x x2 fp s3 H3) elt te)
  (hsw:Z5 (.ListComp elt [⟨.Tuple [.Name x px,.Name x2 py2] kt pt,iter,ifs,0⟩] scope pos) (some (.Name y py)) spos.line X.env=pure true:=by rfl)
  (hs:∀x,K8 iter X.env x=pure x:=by intro _;rfl) :
  PS X (.Assign [.Name y py] (.ListComp elt [⟨.Tuple [.Name x px,.Name x2 py2] kt pt,iter,ifs,0⟩] scope pos) spos) (fun D σ H=>a2j X.K wi tt te σ H fun v H1=>D.nx (σ.set i (some v)) H1):=by
 intro pins s σ H D I h
 obtain⟨cl,hclos,hcl,hcl2⟩:=a2z (a6z hc I)
 rw[c3T _ _ _ _ hsw]
 refine l6 (b0Q (l6 ?_))
 show wpAny _ X.A (do let _ <-comprehension (.ListComp elt [⟨.Tuple [.Name x px,.Name x2 py2] kt pt,iter,ifs,0⟩] scope pos) scope X.env _ (newList []) false (eval iter X.env) (some (a3U (.Name y py) X.env))) _ _ s
 refine l6 (V4 (a0R (use:=some (a3U (.Name y py) X.env)) (Q:=fun _ s'=>SP X pins D .next s') rfl hs hclos hc.kind hc.names
  (thn (hi pins s σ H _ I h) fun v s1 h1=>thn h1 fun itv s2 ⟨it,fp,tn,J,H2,e,I2,T,st,fpo,R⟩=>?_)) (fun _ s' hq=>z7 (z7 hq)) fun _ _ e=>e)
 subst e
 refine a6A (RR:=fun acc C=>compPost (model X.prog X.w) X.A X.xe (some (a3U (.Name y py) X.env)) (fun _ s'=>SP X pins D .next s') acc C) (Q:=fun v H1=>D.nx (σ.set i (some v)) H1) hc hcalm hcl hcl2 (ht cl) (he cl) I2 T st fpo R ?_
 intro E C s' H' m I' n f1 f2 f3 f4 f5 q
 show wpAny _ _ (a3U (.Name y py) X.env (.ref E)) _ _ _
 refine a4H (a5K (v:=.ref E) I' hN hiy (.inl hy) rfl (fun s'' I'' ch=>?_) (.inr hy))
 obtain⟨a,sb,ha⟩:=ch
 have hCa:C≠a:=by
  rcases ha with e | e
  ·rw[e];exact f2
  ·exact fun z=>f4 y a e z.symm
 exact⟨m,n.sameBut sb hCa,fun h' sb'=>⟨_,_,I''.turned (t':=s''.toks) (fun b o hb e=>(sb'.2 b hb).trans e) f1 f2 (.inr f3) f4 f5,q⟩⟩
end
section
def b7I:List V->Hp->VK->Prop:=fun xs H Q=>match xs with
 | [.int i,.int j]=>Q (.int (if j<i then j else i)) H
 | _=>False
theorem b6d(hc:X.calm=true):O7 X (.builtin "min") b7I:=(b6j hc).imp fun xs H Q h=>by
 unfold b7I at h
 split at h
 ·exact⟨_,_,rfl,h⟩
 ·exact h.elim
theorem b6k:∀bs:List Bool,((D9 bs.length).any fun i=>(bs[i]?).getD false)=bs.any id:=by
 intro bs
 induction bs with
 | nil=>rfl
 | cons b r ih=>
  rw[q9,List.range_succ_eq_map,W3,List.any_map,W3]
  rw[<-ih]
  rfl
def b3e:List V->Hp->VK->Prop:=fun vs H Q=>match vs with
 | [.ref l]=>match H l with
  | some (.lst xs)=>∃bs,M7 xs=some bs/\Q (.bl (bs.any id)) H
  | _=>False
 | _=>False
theorem b6g(hc:X.calm=true):O7 X (.builtin "any") b3e:=fun pins s σ H xs us Q I r h=>by
 unfold b3e at h
 split at h
 ·split at h
  ·rename_i l _ ys hl
   obtain⟨bs,e,q⟩:=h
   obtain⟨u,rfl,ru⟩:=a1V r
   cases ru
   obtain⟨its,rv,pl,hz⟩:=I.list (SqL.of hl)
   have hlt:l<s.heap.objs.size:=by obtain⟨_,e,_⟩:=pl.isList;exact g6 e
   have hlen:=rv.length
   have hbl:=a6h e
   refine call_any_walk (b2z pl.isList ?_)
   refine⟨s.heap.objs.size,[s.heap.objs.size,l],[s.heap.objs.size],its.toArray.size,_,_,fun i=>(bs[i]?).getD false,rfl,Walks.list (A:=X.A.in1) (I.ok.hd hc) _ l (t5 hlt) its.toArray,
    ⟨⟨_,u6 _ rfl,rfl,rfl⟩,pl.isList.push _⟩,fun i v s' Q' E' hP hQ=>?_,fun h' tk hk=>?_⟩
   ·have hP:its[i]? = some v:=by simpa using hP
    have hi:i<ys.length:=by rw[hlen];exact(i9.mp hP).1
    have ey:ys[i]? = some ys[i]:=by simp[hi]
    obtain⟨b,eb,ez⟩:=a6i e ey
    obtain⟨u,eu,ru⟩:=rv.get ey
    rw[hP]at eu
    cases eu
    rw[ez]at ru
    cases ru
    simp only[eb,a2P]at hQ
    exact G5 hQ
   ·have e2:((D9 its.toArray.size).any fun i=>(bs[i]?).getD false)=bs.any id:=by
     rw[d6,<-hlen,hbl]
     exact b6k bs
    rw[e2]
    exact⟨.bl _,H,I.kept (t':=tk) fun b x e=>hk b x (fun hm=>by rw[j3.mp hm]at e;exact E4 _ (g6 e)) (d8 _ e),rfl,q⟩
  ·exact h.elim
 ·exact h.elim
def a0Q:List V->Option (List Int)
 | []=>some []
 | .int i::r=>(a0Q r).map (i :: ·)
 | _=>none
theorem a8k(ns:List Int):a0Q (ns.map V.int)=some ns:=by
 induction ns with
 | nil=>rfl
 | cons s r ih=>simp[a0Q,ih]
theorem a3o:∀ {xs:List V} {us:List Value} {ss:List Int},D0 xs us->a0Q xs=some ss->c1C us ss
 | _,_,ss,.nil,e=>by cases e;exact .nil
 | x::xs,_,ss,.cons r t,e=>by
  cases x with
  | int s=>
   obtain⟨k,rfl⟩:=r
   cases e2:a0Q xs with
   | none=>simp[a0Q,e2]at e
   | some ss2=>
    simp[a0Q,e2]at e
    subst e
    exact .cons _ _ (a3o t e2)
  | _=>simp[a0Q]at e
def a3H:List V->Hp->VK->Prop:=fun vs H Q=>match vs with
 | [.ref l]=>match H l with
  | some (.lst xs)=>∃ns,a0Q xs=some ns/\ns.length<64/\∀(p:Addr) (ms:List Int),ms.Perm ns->ms.Pairwise (· <= ·)->H p=none->Q (.ref p) (upd H p (.lst (ms.map V.int)))
  | _=>False
 | _=>False
theorem b0w:O7 X (.builtin "sorted") a3H:=fun pins s σ H xs us Q I r h=>by
 unfold a3H at h
 split at h
 ·split at h
  ·rename_i l _ ys hl
   obtain⟨ns,e,hn,q⟩:=h
   obtain⟨u,rfl,ru⟩:=a1V r
   cases ru
   obtain⟨its,rv,pl,hz⟩:=I.list (SqL.of hl)
   have hi:=a3o rv e
   have hil:=hi.length
   refine sorted_ints pl.isList hi (by omega) fun out ns' a1 a2 a3=>?_
   obtain⟨c,he⟩:=sortedAll_at s.heap its out
   have hl':=a2.length_eq
   refine⟨.ref _,_,I.laid (t':=s.toks) (a:=s.heap.objs.size+1) (o:=.lst (ns'.map V.int)) (fun b ob q=>sortedAll_old q) (b8W _) ?_,rfl,q _ ns' a2 a3 (I.hok.fresh (b8W _))⟩
   refine⟨by rw[a9,sizeLine_eq];omega,out.toList,c,a5I a1,?_⟩
   exact he
  ·exact h.elim
 ·exact h.elim
def a5T:V->List V->Hp->VK->Prop:=fun x vs H Q=>match x,vs with
 | .ref l,[.int k]=>match H l with
  | some (.lst xs)=>∃ns,a0Q xs=some ns/\ns.length<10000/\k∈ns/\Q (.int (ns.idxOf k:Nat)) H
  | _=>False
 | _,_=>False
theorem b5J:MtR X "list.index" a5T:=fun pins s σ H x xs v us Q I rx rv h=>by
 unfold a5T at h
 split at h
 ·split at h
  ·rename_i l k _ ys hl
   obtain⟨ns,e,hn,hk,q⟩:=h
   cases rx
   obtain⟨u,rfl,⟨t,rfl⟩⟩:=rv.one
   obtain⟨its,r,pl,hz⟩:=I.list (SqL.of hl)
   have hi:=a3o r e
   obtain⟨⟨cls,dd,data,sl⟩,ho,hc,n,hd⟩:=id pl.isList
   simp only at hc hd
   subst hc hd
   have hlen:=hi.length
   have hj:ns.idxOf k<ns.length:=b2y.mpr hk
   refine a1M Z1 ⟨_,ho,rfl⟩ b0L (a9u _ _)
    (a8A l its.toArray n dd sl (.int k t) (isInt k) (ns.idxOf k) (by simpa[hlen]using hj) (by omega) ?_ ?_) ⟨ho,fun y hy=>(eq_isInt k t hi y (by simpa using hy)).at _ _,⟨.int _,H,I.tok _,⟨_,rfl⟩,q⟩⟩
   ·show isInt k its[ns.idxOf k]=true
    rw[isInt_at k hi _ (by omega) hj]
    simpa using List.getElem_idxOf hj
   ·intro j hjs hlt
    show isInt k its[j]=false
    rw[isInt_at k hi j (by simpa using hjs) (by omega)]
    exact ne_of_lt_idxOf hlt _
  ·exact h.elim
 ·exact h.elim
def a1A:V->List V->Hp->VK->Prop:=fun x vs H Q=>match x,vs with
 | .ref l,[.ref b]=>match H l,H b with
  | some (.lst xs),some (.lst zs)=>xs.length+zs.length<=g9/\Q .non (upd H l (.lst (xs++zs)))
  | _,_=>False
 | _,_=>False
theorem a8g:MtR X "list.extend" a1A:=fun pins s σ H x xs v us Q I rx rv h=>by
 refine b5K pins s σ H x xs v us Q I rx rv ?_
 unfold a1A at h
 split at h
 ·split at h
  ·exact⟨_,_,_,_,rfl,rfl,by assumption,by assumption,h.1,h.2⟩
  ·exact h.elim
 ·exact h.elim
def b5v:V->List V->Hp->VK->Prop:=fun x vs H Q=>match x,vs with
 | .ref l,[]=>match H l with
  | some (.lst xs)=>∃y,xs[xs.length - 1]? = some y/\Q y (upd H l (.lst xs.dropLast))
  | _=>False
 | _,_=>False
theorem c0z:MtR X "list.pop" b5v:=fun pins s σ H x xs v us Q I rx rv h=>by
 refine c2Y pins s σ H x xs v us Q I rx rv ?_
 unfold b5v at h
 split at h
 ·split at h
  ·obtain⟨y,e,q⟩:=h
   exact⟨_,_,y,rfl,rfl,by assumption,e,q⟩
  ·exact h.elim
 ·exact h.elim
def a5S:List V->Hp->VK->Prop:=fun xs H Q=>match xs with
 | [.ref p]=>match H p with
  | some (.dK kvs)=>∀l,H l=none->Q (.ref l) (upd H l (.lst (kvs.map fun kv=>kV kv.1)))
  | _=>False
 | _=>False
theorem c4N{P:v0}{k:Key}(r:(Q1 P w).is k u=true):C1 (kV k) u:=by
 rcases N9 (show a8j k u=true from r)with ⟨i,t,rfl,rfl⟩ | ⟨x,t,rfl,rfl⟩
 ·exact⟨t,rfl⟩
 ·exact⟨t,rfl⟩
theorem b4h:∀ {xs:List V} {us:List Value},xs.length=us.length->(∀(i:Nat) x u,xs[i]? = some x->us[i]? = some u->C1 x u)->D0 xs us
 | [],[],_,_=>.nil
 | x::xs,u::us,hl,h=>.cons (h 0 x u rfl rfl) (b4h (by simpa using hl) fun i y v a b=>h (i+1) y v (by simpa using a) (by simpa using b))
 | [],u::us,hl,_=>by cases hl
 | x::xs,[],hl,_=>by cases hl
theorem c1u:∀ {l:List (Key×V)} {la:List (Key×Value)} {i:Nat} {k:Key} {x:Value},KV l la->la[i]? = some (k,x)->∃y,l[i]? = some (k,y)
 | p::l,q::la,0,k,x,h,e=>by
  have h:Paired _ _ _:=h
  cases h with
  | cons h t=>
   cases e
   exact⟨p.2,by rw[b4d];rw[show k=p.1 from h.1.symm]⟩
 | p::l,q::la,i+1,k,x,h,e=>by
  have h:Paired _ _ _:=h
  cases h with
  | cons h t => 
   obtain⟨y,hy⟩:=c1u (i:=i) (show KV l la from t) (by simpa using e)
   exact⟨y,by simpa using hy⟩
 | [],la,i,k,x,h,e=>by
  have h:Paired _ _ _:=h
  cases h
  cases e
 | p::l,[],i,k,x,h,e=>by
  have h:Paired _ _ _:=h
  cases h
theorem b2q(hc:X.calm=true):O7 X (.type "list") a5S:=fun pins s σ H xs us Q I r h=>by
 unfold a5S at h
 split at h
 ·split at h
  ·rename_i p _ kvs hp
   obtain⟨u,rfl,ru⟩:=a1V r
   cases ru
   obtain⟨hz,hS,vs,rk,hD⟩:=b4H I.hok hp
   obtain⟨ep,hat⟩:=hD.dictAt
   have hl:=Paired.length rk
   refine PySem.W.kdl_call (PySem.W.kdl_dict (knd:=Q1 X.prog X.w) (kvs:=vs) (ep:=ep) hS) (I.ok.hd hc) hat (by omega) fun h' tk acc c hk ha hit=>?_
   refine⟨.ref _,_,I.laid (t':=tk) (a:=s.heap.objs.size) (o:=.lst (kvs.map fun kv=>kV kv.1)) hk (d5 _) ?_,rfl,h _ (I.hok.fresh (d5 _))⟩
   refine⟨by rw[a9];exact hz,acc.toList,c,?_,by simpa using ha⟩
   refine b4h (by have:=hit.1;rw[a9];simp;omega) fun i x u a b=>?_
   obtain⟨k,y,e1,e2⟩:=hit.2 i u (by rw[<-P5];exact b)
   obtain⟨z,e3⟩:=c1u rk e1
   rw[b7,e3]at a
   cases a
   exact c4N e2
  ·exact h.elim
 ·exact h.elim
inductive Dq(K:Fg)(H:Hp):Nat->V->V->Prop
 | flat {n:Nat} {x:V}:E5 x=true->Dq K H n x x
 | tup {n:Nat} {a b:Addr} {xs ys:List V}:SqT K H a xs->SqT K H b ys->xs.length=ys.length->(∀(j:Nat) x y,xs[j]? = some x->ys[j]? = some y->Dq K H n x y)->Dq K H (n+1) (.ref a) (.ref b)
 | lst {n:Nat} {a b:Addr} {xs ys:List V}:SqL K H a xs->SqL K H b ys->xs.length=ys.length->(∀(j:Nat) x y,xs[j]? = some x->ys[j]? = some y->Dq K H n x y)->Dq K H (n+1) (.ref a) (.ref b)
theorem b8C{x:V}(h:E5 x=true):eqV x x=true:=by
 cases x with
 | non=>rfl
 | bl b=>simp[eqV]
 | int i=>simp[eqV]
 | str s=>simp[eqV]
 | byt b=>cases h
 | flt b=>cases h
 | ref a=>cases h
 | ty n=>cases h
theorem a5t{n:Nat}:(D9 n).all (fun _=>true)=true:=by simp
theorem Dq.both(I:Inv X pins σ H s){n:Nat}{x y:V}(d:Dq X.K H n x y):∀ {A:F7} {v u:Value},A.units+n<cLine->C1 x v->C1 y u ->
  SeqAt.EqAt A s v u true/\(∀a b,x=.ref a->y=.ref b->SeqAt.RcAt A s v u true/\SeqAt.RcNeAt A s v u false):=by
 induction d with
 | @flat n x hf=>
  intro A v u hu rv ru
  refine⟨?_,fun a b e=>by subst e;cases hf⟩
  have:=b3L (A:=A) (s:=s) rv ru hf hf
  rwa [b8C hf]at this
 | @tup n a b xs ys ha hb hl hq ih=>
  intro A v u hu rv ru
  cases rv
  cases ru
  obtain⟨us,r1,t1,_⟩:=I.tuple ha
  obtain⟨ws,r2,t2,_⟩:=I.tuple hb
  have l1:=r1.length
  have l2:=r2.length
  have el:∀j (h1:j<us.toArray.size) (h2:j<ws.toArray.size),SeqAt.EqAt A.in1 s us.toArray[j] ws.toArray[j] true:=by
   intro j h1 h2
   have h1':j<xs.length:=by simpa[l1]using h1
   have h2':j<ys.length:=by simpa[l2]using h2
   obtain⟨u1,e1,q1⟩:=r1.get (i:=j) (x:=xs[j]) (by simp)
   obtain⟨u2,e2,q2⟩:=r2.get (i:=j) (x:=ys[j]) (by simp)
   have z1:us.toArray[j]=u1:=by
    have:=(i9.mp e1).2
    simpa using this
   have z2:ws.toArray[j]=u2:=by
    have:=(i9.mp e2).2
    simpa using this
   rw[z1,z2]
   exact(ih j _ _ (by simp) (by simp) (A:=A.in1) (by show A.units+1+n<cLine;omega) q1 q2).1
  have c1:SeqAt.RcAt A s (.ref a) (.ref b) true:=by
   have q:=SeqAt.RcAt.tuples (A:=A) (e:=fun _=>true) t1 t2 (by omega) el
   have e:us.toArray.size=ws.toArray.size:=by simp[<-l1,<-l2,hl]
   rw[a5t,e,beq_self_eq_true]at q
   exact q
  have c2:SeqAt.RcNeAt A s (.ref a) (.ref b) false:=by
   have q:=SeqAt.RcNeAt.tuples (A:=A) (e:=fun _=>true) t1 t2 (by omega) el
   have e:us.toArray.size=ws.toArray.size:=by simp[<-l1,<-l2,hl]
   rw[a5t,e,beq_self_eq_true]at q
   exact q
  refine⟨?_,fun _ _ _ _=>⟨c1,c2⟩⟩
  by_cases e:a=b
  ·subst e;exact SeqAt.EqAt.same _
  ·exact SeqAt.EqAt.of_refs e c1
 | @lst n a b xs ys ha hb hl hq ih=>
  intro A v u hu rv ru
  cases rv
  cases ru
  obtain⟨us,r1,t1,_⟩:=I.list ha
  obtain⟨ws,r2,t2,_⟩:=I.list hb
  have l1:=r1.length
  have l2:=r2.length
  have el:∀j (h1:j<us.toArray.size) (h2:j<ws.toArray.size),SeqAt.EqAt A.in1 s us.toArray[j] ws.toArray[j] true:=by
   intro j h1 h2
   have h1':j<xs.length:=by simpa[l1]using h1
   have h2':j<ys.length:=by simpa[l2]using h2
   obtain⟨u1,e1,q1⟩:=r1.get (i:=j) (x:=xs[j]) (by simp)
   obtain⟨u2,e2,q2⟩:=r2.get (i:=j) (x:=ys[j]) (by simp)
   have z1:us.toArray[j]=u1:=by
    have:=(i9.mp e1).2
    simpa using this
   have z2:ws.toArray[j]=u2:=by
    have:=(i9.mp e2).2
    simpa using this
   rw[z1,z2]
   exact(ih j _ _ (by simp) (by simp) (A:=A.in1) (by show A.units+1+n<cLine;omega) q1 q2).1
  have e:us.toArray.size=ws.toArray.size:=by simp[<-l1,<-l2,hl]
  have c1:SeqAt.RcAt A s (.ref a) (.ref b) true:=by
   have q:=SeqAt.RcAt.lists (A:=A) (e:=fun _=>true) t1.isList t2.isList e (by omega) el
   rw[a5t]at q
   exact q
  have c2:SeqAt.RcNeAt A s (.ref a) (.ref b) false:=by
   have q:=SeqAt.RcNeAt.lists (A:=A) (e:=fun _=>true) t1.isList t2.isList e (by omega) el
   rw[a5t]at q
   exact q
  refine⟨?_,fun _ _ _ _=>⟨c1,c2⟩⟩
  by_cases e:a=b
  ·subst e;exact SeqAt.EqAt.same _
  ·exact SeqAt.EqAt.of_refs e c1
def b9H(K:Fg):R2:=fun x y H Q=>∃a b n,x=.ref a/\y=.ref b/\n<=20/\Dq K H n x y/\Q (.bl false) H
theorem c0j{k:Nat}(hr:O0 k X.A):OpR X (o4 .NotEq) (b9H X.K):=by
 intro pins s σ H x y v u Q I rx ry ⟨a,b,n,e1,e2,hn,d,q⟩
 have hu:=hr.units
 exact((d.both I (A:=X.A) (by omega) rx ry).2 a b e1 e2).2 _ _ _ _ ⟨.bl false,H,I,rfl,q⟩
def c2a(K:Fg):R2:=fun x y H Q=>∃a b xs ys,x=.ref a/\y=.ref b/\SqT K H a xs/\SqT K H b ys/\xs.all E5=true/\ys.all E5=true/\Q (.bl (a0A xs ys)) H
theorem c0n{k:Nat}(hr:O0 k X.A):OpR X (o4 .Eq) (c2a X.K):=by
 intro pins s σ H x y v u Q I rx ry ⟨a,b,xs,ys,e1,e2,ha,hb,fx,fy,q⟩
 have hu:=hr.units
 subst e1 e2
 cases rx
 cases ry
 obtain⟨us,r1,t1,_⟩:=I.tuple ha
 obtain⟨ws,r2,t2,_⟩:=I.tuple hb
 have l1:=r1.length
 have l2:=r2.length
 have q1:=SeqAt.RcAt.tuples (A:=X.A) t1 t2 (by omega) (a5m r1 r2 fx fy)
 simp only[d6,<-l1,<-l2]at q1
 exact q1 _ _ _ _ ⟨.bl (a0A xs ys),H,I,rfl,q⟩
def c1Z(K:Fg):R2:=fun x y H Q=>∃p xs,y=.ref p/\SqT K H p xs/\E5 x=true/\xs.all E5=true/\Q (.bl (inV x xs)) H
theorem c0m:OpR X (o4 .In) (c1Z X.K):=a9f.imp fun x y H Q ⟨p,xs,e,h1,h2,h3,q⟩=>⟨p,xs,e,.inr h1,h2,h3,q⟩
theorem b7Q{e c:Option Expr}:PS X (.Raise e c pos) (fun _ _ _=>False):=fun _ _ _ _ _ _ h=>h.elim
structure b2s(P:v0)(w:World)(K:Fg)(mg:Str->Option Value)(base:Heap)(k:Nat)(x:Str)(C:Addr)(ps:List Str)(sp:Sp):Prop where
 ex:∃f fd,J0 P w K mg base CX0 k f fd ps sp/\mg x=some (.ref C)/\Mk K C f/\a2O K fd ps []
theorem c4B{k j:Nat}{C:Addr}{e:Expr}{es:List Expr}{t:TA}{p:Pos}(M:b2s X.prog X.w X.K X.mg X.base k x C ps sp)(hr:O0 j X.A)(hk:k+1<=j)(hg:Gl X x)(ha:PA X (e::es) t)
  (hdb:(x == ("__debug__" : Str))=false:=by decide) (he:d4 (e::es) X.env=(false,eval e X.env)::d4 es X.env:=by rfl) (hpl:(V5 pos (d4 es X.env)).any (·.1)=false:=by rfl) :
  PE X (.Call (.Name x p) (e::es) [] pos) (a7D C sp [] E0 t):=by
 obtain⟨f,fd,F,hm,hM,hb⟩:=M.ex
 exact b9Z hM F (hr.mono hk) hg hm hb .nil b8b ha hdb he hpl
structure a7i(P:v0)(w:World)(K:Fg)(mg:Str->Option Value)(base:Heap)(k:Nat)(m:Str)(C:Addr)(ps:List Str)(sp:Sp):Prop where
 ex:∃f fd,J0 P w K mg base CX0 k f fd ps sp/\Cls K C/\c3x K C m f/\a2O K fd ps []
theorem c2w{pl:Sem Bool}{k j:Nat}{m:Str}{C:Addr}{o e:Expr}{es:List Expr}{ta:TE}{t:TA}{apos:Pos}(M:a7i X.prog X.w X.K X.mg X.base k m C ps sp)(hr:O0 j X.A)(hk:k<=j)(ho:PE X o ta)(ha:PA X (e::es) t)
  (hst:d4 (e::es) X.env=(false,eval e X.env)::d4 es X.env:=by rfl) (hpl:(V5 pos (d4 es X.env)).any (·.1)=false:=by rfl)
  (ht:eval (.Call (.Attribute o m apos) (e::es) [] pos) X.env=(do
   let ov <-eval o X.env
   b6w apos.atName
   let(f,first) <-a2X [ov] (b6x ov m pl)
   callWith pos f first (V5 pos (d4 (e::es) X.env)) (b0U pos (a2W [] X.env))):=by rfl) :
  PE X (.Call (.Attribute o m apos) (e::es) [] pos) (b1l C m sp [] E0 ta t):=by
 obtain⟨f,fd,F,c,hm,hb⟩:=M.ex
 exact b9Y (pl:=pl) ho c hm F (hr.mono hk) hb .nil b8b ha hst hpl ht
end
theorem a5e{env:Env}:∀ {names:List (Str×a3V)} {y:Str},names.lookup y=some .free ->
  (names.map fun(n,k)=>if(k == NameKind.free&&env.scope.kind == .function&&env.kindOf n == some .cell)then (n,NameKind.cell)else (n,k)).lookup y=some .cell \/
  (names.map fun(n,k)=>if(k == NameKind.free&&env.scope.kind == .function&&env.kindOf n == some .cell)then (n,NameKind.cell)else (n,k)).lookup y=some .free
 | [],_,h=>by cases h
 | (n,k0)::r,y,h=>by
  have ih := @a5e env r y
  rw[C7]at h
  rw[C4]
  dsimp only
  cases hx:y == n with
  | true=>
   rw[hx]at h
   cases h
   by_cases hc:(NameKind.free == NameKind.free&&env.scope.kind == .function&&env.kindOf n == some .cell)=true
   ·rw[if_pos hc,C7,hx];exact .inl rfl
   ·rw[if_neg hc,C7,hx];exact .inr rfl
  | false=>
   rw[hx]at h
   by_cases hc:(k0 == NameKind.free&&env.scope.kind == .function&&env.kindOf n == some .cell)=true
   ·rw[if_pos hc,C7,hx];exact ih h
   ·rw[if_neg hc,C7,hx];exact ih h
theorem b4G{sc1 sc:Scope}(h:∀y∈sc.names,y.2=.free->sc1.names.lookup y.1=some .free):∀y∈sc.names,y.2=.free->(a5D sc1 env).names.lookup y.1=some .cell\/(a5D sc1 env).names.lookup y.1=some .free:=
 fun y hy e=>a5e (h y hy e)
end L2
namespace PySem
open Sem (wp)
namespace F
end F
section
variable {prog:v0}{w:World}{A:F7}{E:Value->d7->Prop}{h:Heap}{g:Array GenState}{d:Drawn}{t:Nat}{os:OsState}{a:Addr}{xs:Array Value}{n:Nat}{sl:Array (Option Value)}
end
end PySem
namespace PySem
open Sem (wp)
namespace F
end F
section
variable {prog:v0}{w:World}{K:Type}[DecidableEq K]{knd:KeyKind prog w K}{A:F7}{s:d7}{R:c3U->d7->Prop}
end
section
variable {prog:v0}{w:World}{K:Type}[DecidableEq K]{knd:KeyKind prog w K}{A:F7}{E:Value->d7->Prop}{s:d7}
end
end PySem
namespace L2
open PySem PySem.Spec PyProof.Rows
section
variable {X:Cx}
end
section
variable {X:Cx}{tg:Expr}
end
section
variable {X:Cx}
end
section
variable {X:Cx}
def a2u:List V->Hp->VK->Prop:=fun xs H Q=>match xs with
 | [.ref p]=>match H p with
  | some (.lst ys)=>∀l,H l=none->Q (.ref l) (upd H l (.tup ys))
  | _=>False
 | _=>False
theorem b2p:O7 X (.type "tuple") a2u:=a8S.imp fun xs H Q h=>by
 unfold a2u at h
 split at h
 ·split at h
  ·exact⟨_,_,rfl,.inl ⟨SqL.of (by assumption),h⟩⟩
  ·exact h.elim
 ·exact h.elim
end
structure IsC(K:Fg)(C:Addr):Prop where
 cl:Cls K C
 ha:z6 K (.ref C) "__class__" = some (some (.builtin "object.__class__"))
 hn:a1R K (.builtin "object.__class__") "__get__" = some (some (.builtin "getset_descriptor.__get__"))
 htk:a8y K (.builtin "object.__class__")=some true
 hm:b0K K C (.type "object")=some true
def b7J(K:Fg):List V->Hp->VK->Prop:=fun vs H Q=>∃a C dx fs,vs=[.ref a,.ref C]/\H a=some (.ins C dx fs)/\IsC K C/\Q (.bl true) H
theorem b3U{X:Cx}:O7 X (.builtin "isinstance") (b7J X.K):=fun pins s σ H vs us Q I r h=>by
 obtain⟨a,C,dx,fs,rfl,ha,ic,q⟩:=h
 obtain⟨u,u2,rfl,ru,ru2⟩:=b6Q r
 cases ru
 cases ru2
 have e:a3P X.K (.ref C) (.ref C)=some true:=by
  unfold a3P
  rw[if_pos (by simp)]
 exact a9k (x:=.ref a) I rfl (.ins ha ic.cl ic.ha ic.hn ic.htk ic.hm) e fun tk=>⟨.bl true,H,I.tok _,rfl,q⟩
section
variable {P:v0}{w:World}{K:Type}[DecidableEq K]{knd:HeapKind P w K}{A:F7}{E:Value->d7->Prop}{s:d7}
end
section
variable {X:Cx}
end
end L2
namespace PySem
open Sem (wp)
section
variable {prog:v0}{w:World}{A:F7}{E:Value->d7->Prop}{s:d7}
end
end PySem
namespace L2
open PySem PySem.Spec PyProof.Rows
section
variable {X:Cx}
end
end L2
namespace PySem
open Sem (wp)
section
variable {prog:v0}{w:World}{K:Type}[DecidableEq K]{knd:HeapKind prog w K}{A:F7}{s:d7}{R:c3U->d7->Prop}
end
section
variable {prog:v0}{w:World}{K:Type}[DecidableEq K]{knd:HeapKind prog w K}{A:F7}{E:Value->d7->Prop}{s:d7}
end
end PySem
namespace L2
open PySem PySem.Spec PyProof.Rows
variable{X:Cx}
section
end
section
variable {pins:List (Addr×Obj)}{σ:St}{H:Hp}{s:d7}{a:Addr}
end
abbrev XE:=List Key×Addr×V
section
variable {pins:List (Addr×Obj)}{σ:St}{H:Hp}{s:d7}{a b:Addr}{xs:List XE}{k:List Key}
end
section
variable {i o:Expr}{ti to:TE}
end
section
end
mutual
inductive RdP(H:Hp):V->PyData->Prop
 | non:RdP H .non .none
 | bl (b:Bool):RdP H (.bl b) (.bool b)
 | int (i:Int):RdP H (.int i) (.int i)
 | str (s:Str):RdP H (.str s) (.str s)
 | lst {a:Addr} {xs:List V} {ds:List PyData}:H a=some (.lst xs)->a6l H xs ds->RdP H (.ref a) (.list ds)
 | tup {a:Addr} {xs:List V} {ds:List PyData}:H a=some (.tup xs)->a6l H xs ds->RdP H (.ref a) (.tuple ds)
 | dct {a:Addr}:H a=some (.dK [])->RdP H (.ref a) (.dict [])
inductive a6l(H:Hp):List V->List PyData->Prop
 | nil:a6l H [] []
 | cons {x:V} {xs:List V} {d:PyData} {ds:List PyData}:RdP H x d->a6l H xs ds->a6l H (x::xs) (d::ds)
end
section
variable {H H':Hp}{P:v0}{w:World}{h:Heap}
mutual
theorem RdP.same:∀ {x:V} {d:PyData},(∀a o,H a=some o->H' a=some o)->RdP H x d->RdP H' x d
 | _,_,_,.non=>.non
 | _,_,_,.bl b=>.bl b
 | _,_,_,.int i=>.int i
 | _,_,_,.str s=>.str s
 | _,_,k,.lst e r=>.lst (k _ _ e) (a6l.same k r)
 | _,_,k,.tup e r=>.tup (k _ _ e) (a6l.same k r)
 | _,_,k,.dct e=>.dct (k _ _ e)
theorem a6l.same:∀ {xs:List V} {ds:List PyData},(∀a o,H a=some o->H' a=some o)->a6l H xs ds->a6l H' xs ds
 | _,_,_,.nil=>.nil
 | _,_,k,.cons r rs=>.cons (RdP.same k r) (a6l.same k rs)
end
mutual
theorem b7C:∀ {x:V} {d:PyData} {v:Value},HOk P w H h->RdP H x d->C1 x v->d.showable=true->d.shown.length<=g9->∃as bs,Reads h v d as/\ReadAtMost h d.depth bs/\ReprK P w bs h d.depth v d.shown
 | _,_,_,_,.non,r,_,_=>by cases r;exact⟨[],[],.none,(fun _ h=>nomatch h),by simp only[PyData.shown];exact .of_is ReprIs.none _ _ _⟩
 | _,_,_,_,.bl b,r,_,_=>by cases r;exact⟨[],[],.bool b,(fun _ h=>nomatch h),by simp only[PyData.shown];exact .of_is (ReprIs.bool b) _ _ _⟩
 | _,_,_,_,.int i,r,hs,_=>by
  obtain⟨t,rfl⟩:=r
  exact⟨[],[],.int i t,(fun _ h=>nomatch h),by simp only[PyData.shown];exact .of_is (ReprIs.int t (by simpa[PyData.showable]using hs)) _ _ _⟩
 | _,_,_,_,.str s,r,_,hz=>by
  obtain⟨t,rfl⟩:=r
  exact⟨[],[],.str s t,(fun _ h=>nomatch h),by simp only[PyData.shown];exact .of_is (ReprIs.str s t (by simpa only[PyData.shown]using hz)) _ _ _⟩
 | _,_,_,ok,.lst (a:=a) (xs:=xs) (ds:=ds) e rs,r,hs,hz=>by
  cases r
  have hz':(listText (PyData.shownAll ds)).length<=g9:=by simpa only[PyData.shown]using hz
  obtain⟨_,its,n,rv,hg⟩:=(show Q3 P w H h a (.lst xs)from ok a _ e)
  obtain⟨as,bs,q1,hb,hk⟩:=b3a ok rs rv (by simpa[PyData.showable]using hs) (fun t ht=>v9 (listText_mem_le ht) hz')
  have rd:Reads h (.ref a) (.list ds) (a::as):=.list hg rfl rfl q1
  have hna:a∉bs:=not_mem_of_deeper rd (by simp only[PyData.depth];omega) hb
  refine⟨_,a::bs,rd,ReadAtMost.cons rd (by simp only[PyData.depth];omega) hb,?_⟩
  simp only[PyData.depth,PyData.shown]
  cases its with
  | nil=>
   cases q1
   simp only[PyData.shownAll,listText_nil]
   exact ReprK.listEmpty hg rfl rfl
  | cons y l=>exact ReprK.list hg rfl rfl hna (by simpa using hk.length_eq) (fun i y e=>hk.item i y (by simpa using e))
 | _,_,_,ok,.tup (a:=a) (xs:=xs) (ds:=ds) e rs,r,hs,hz=>by
  cases r
  have hz':(tupleText (PyData.shownAll ds)).length<=g9:=by simpa only[PyData.shown]using hz
  obtain⟨_,its,rv,o,hg,hc,n,hd⟩:=(show Q3 P w H h a (.tup xs)from ok a _ e)
  obtain⟨as,bs,q1,hb,hk⟩:=b3a ok rs rv (by simpa[PyData.showable]using hs) (fun t ht=>v9 (tupleText_mem_le ht) hz')
  have rd:Reads h (.ref a) (.tuple ds) as:=.tuple hg hc hd q1
  have hna:a∉bs:=not_mem_of_deeper rd (by simp only[PyData.depth];omega) hb
  refine⟨_,a::bs,rd,ReadAtMost.cons rd (by simp only[PyData.depth];omega) hb,?_⟩
  simp only[PyData.depth,PyData.shown]
  exact ReprK.tuple hg hc hd hna hk
 | _,_,_,ok,.dct (a:=a) e,r,hs,hz=>by
  cases r
  obtain⟨_,hsys,vs,rel,dd⟩:=b4H ok e
  cases rel
  obtain⟨o,es,ep,ho,hc,hdat,hk,hp,hn⟩:=dd
  have hes:es.toList=[]:=b4c.mp hp.length
  have z1:ReadsAll h (es.toList.map (·.key)) (([]:List (PyData×PyData)).map (·.1)) []:=by rw[hes];exact .nil
  have z2:ReadsAll h (es.toList.map (·.val)) (([]:List (PyData×PyData)).map (·.2)) []:=by rw[hes];exact .nil
  have rd:Reads h (.ref a) (.dict []) (a::[]++[]):=.dict ho hc.1 hdat z1 z2
  have am:ReadAtMost h (PyData.dict []).depth [a]:=fun b hb=>by
   obtain rfl:=j3.mp hb
   exact⟨_,_,rd,d5 _⟩
  refine⟨_,[a],rd,am,?_⟩
  simp only[PyData.depth,PyData.shown,PyData.shownKv_eq]
  exact ReprK.dict ho hc.1 hdat hsys (by simp) (ReprEntriesK.of_two es.toList _ _ (by rw[hes];exact .nil) (by rw[hes];exact .nil))
theorem b3a:∀ {xs:List V} {ds:List PyData} {vs:List Value},HOk P w H h->a6l H xs ds->D0 xs vs->PyData.showableAll ds=true->(∀t∈PyData.shownAll ds,t.length<=g9)->∃as bs,ReadsAll h vs ds as/\ReadAtMost h (PyData.depthAll ds) bs/\ReprAllK P w bs h (PyData.depthAll ds) vs (PyData.shownAll ds)
 | _,_,_,_,.nil,r,_,_=>by cases r;exact⟨[],[],.nil,(fun _ h=>nomatch h),by simp only[PyData.shownAll];exact .nil⟩
 | _,_,_,ok,.cons (d:=d) (ds:=ds) q qs,r,hs,hz=>by
  cases r with
  | cons r rs=>
  have hs':d.showable=true/\PyData.showableAll ds=true:=by simpa[PyData.showableAll]using hs
  obtain⟨a1,b1,r1,hb1,k1⟩:=b7C ok q r hs'.1 (hz _ (by simp only[PyData.shownAll];exact y0 ..))
  obtain⟨a2,b2,r2,hb2,k2⟩:=b3a ok qs rs hs'.2 (fun t ht=>hz t (by simp only[PyData.shownAll];exact t8 _ ht))
  refine⟨a1++a2,b1++b2,.cons r1 r2,?_,?_⟩
  ·intro b hm
   simp only[PyData.depthAll]
   rcases l7.mp hm with hm | hm
   ·obtain⟨d',as',r',hd'⟩:=hb1 b hm
    exact⟨d',as',r',v9 hd' (c3K _ _)⟩
   ·obtain⟨d',as',r',hd'⟩:=hb2 b hm
    exact⟨d',as',r',v9 hd' (c3D _ _)⟩
  ·simp only[PyData.depthAll,PyData.shownAll]
   exact .cons ((k1.more fun b hb=>D7 _ hb).level_le (c3K _ _)) (k2.more_le (fun b hb=>l4 _ hb) (c3D _ _))
end
end
section
variable {k:Nat}
end
theorem a7u:∀(ss:List Str) (n:Nat),D0 (ss.map V.str) (strsFrom n ss)
 | [],_=>.nil
 | s::ss,n=>.cons ⟨n,rfl⟩ (a7u ss (n+1))
section
variable {k:Nat}
def a7U:V->List V->Hp->VK->Prop:=fun x vs H Q=>∃a y:Str,x=.str a/\vs=[.str y]/\a.length<=1000000/\y.length≠0/\∀p,H p=none->Q (.ref p) (upd H p (.lst ((Txt.split a y).map V.str)))
theorem a9e(a y:Str):(Txt.split a y).length<=a.length+2:=by
 unfold Txt.split
 split
 ·simp
 ·split
  ·simp
  ·rw[len_partsBetween]
   have:=StrLaws.occ_length_le a y 0 a.length (a.length+1)
   omega
theorem b5I:MtR X "str.split" a7U:=fun pins s σ H x xs v us Q I rx rv h=>by
 obtain⟨a,y,rfl,rfl,hl,hy,q⟩:=h
 obtain⟨t,rfl⟩:=rx
 obtain⟨u,rfl,⟨t',rfl⟩⟩:=rv.one
 have hy':(y.length == 0)=false:=by simpa using hy
 have hz:a.length<=g9:=v9 hl (by rw[sizeLine_eq];decide)
 have fin:∀(its:List Value) (tk:Nat),D0 ((Txt.split a y).map V.str) its->EP X pins σ Q (.ref s.heap.objs.size) { s with heap:=s.heap.push { cls:=.type "list",data:=.seq its.toArray },toks:=tk }:=fun its tk r=>by
  have hlen:=a9e a y
  refine⟨.ref s.heap.objs.size,_,I.laid (t':=tk) (o:=.lst ((Txt.split a y).map V.str)) (fun b ob e=>d8 _ e) (d5 _) ⟨?_,its,0,r,u6 _ rfl⟩,rfl,q _ I.fresh⟩
  rw[a9,sizeLine_eq]
  omega
 have one:Txt.split a y=[a]->D0 ((Txt.split a y).map V.str) [.str a t]:=fun e=>by rw[e];exact .cons ⟨t,rfl⟩ .nil
 cases h1:(decide (a.length<y.length)||decide (Builtin.Str.strKind a<Builtin.Str.strKind y))
 ·cases hf:(Builtin.Str.occurrences a y 0 a.length (a.length+1)).isEmpty
  ·have e:Txt.split a y=Builtin.Str.partsBetween a (Builtin.Str.occurrences a y 0 a.length (a.length+1)) y.length:=(if_neg (ne_true_of_eq_false h1)).trans (if_neg (ne_true_of_eq_false hf))
   have hn:(Builtin.Str.partsBetween a (Builtin.Str.occurrences a y 0 a.length (a.length+1)) y.length).length<=g9:=by
    rw[<-e,sizeLine_eq];have:=a9e a y;omega
   refine a1M U1 (typeIs_str _ _ _) a2J (a2d _ _) (meets_str_split_sep a y t t' h1 hy' hf hz hn) ?_
   exact fin _ _ (by rw[e];exact a7u _ _)
  ·have e:Txt.split a y=[a]:=(if_neg (ne_true_of_eq_false h1)).trans (if_pos hf)
   refine a1M U1 (typeIs_str _ _ _) a2J (a2d _ _) (meets_str_split_not_found a y t t' h1 hy' hf) ?_
   exact fin _ s.toks (one e)
 ·have e:Txt.split a y=[a]:=if_pos h1
  refine a1M U1 (typeIs_str _ _ _) a2J (a2d _ _) (meets_str_split_cannot_occur a y t t' h1) ?_
  exact fin _ s.toks (one e)
def b7K:List V->Hp->VK->Prop:=fun xs H Q=>∃(z:Str) (n:Int),xs=[.str z]/\c3B z=some n/\z.length<=640/\Q (.int n) H
theorem b3V:O7 X (.type "int") b7K:=fun pins s σ H xs us Q I r h=>by
 obtain⟨z,n,rfl,e,hl,q⟩:=h
 obtain⟨u,rfl,t,rfl⟩:=a1V r
 exact PySem.W.KIN.call_text e hl ⟨.int n,H,I.tok _,⟨_,rfl⟩,q⟩
def a1Y:List V->Hp->VK->Prop:=fun xs H Q=>(∃z:Str,xs=[.str z]/\Q (.str z) H)\/(∃i:Int,xs=[.int i]/\i.natAbs<2 ^ 60/\Q (.str (toString i)) H) \/
 ∃p ys ds,xs=[.ref p]/\H p=some (.tup ys)/\a6l H ys ds/\PyData.showableAll ds=true/\PyData.hasDictAll ds=false/\(PyData.tuple ds).shown.length<=g9/\(PyData.tuple ds).depth<=40/\∀y:Str,Q (.str y) H
theorem b3S(hr:O0 k X.A):O7 X (.type "str") a1Y:=fun pins s σ H xs us Q I r h=>by
 rcases h with ⟨z,rfl,q⟩ | ⟨i,rfl,hz,q⟩ | ⟨p,ys,ds,rfl,hp,rs,h1,h2,h3,h4,q⟩
 ·obtain⟨u,rfl,t,rfl⟩:=a1V r
  exact PySem.P.str_of_str ⟨.str z,H,I,⟨_,rfl⟩,q⟩
 ·refine b0v pins s σ H _ us Q I r ⟨i,rfl,?_,q⟩
  by_cases z:i.natAbs=0
  ·rw[z];decide +kernel
  ·exact b6n ((b8V z).mpr hz) (by decide)
 ·obtain⟨u,rfl,ru⟩:=a1V r
  cases ru
  have hu:=hr.units
  obtain⟨as,bs,rd,_,_⟩:=b7C I.hok (.tup hp rs) (show C1 (.ref p) (.ref p)from rfl) (by simpa[PyData.showable]using h1) h3
  refine PySem.str_of_reads rd (by simpa[PyData.showable]using h1) (fun e=>by simp[PyData.hasDict,h2]at e) hr.gd (by omega) (fun _ _ e=>e) (fun h' u tk hk=>?_) h3
  exact⟨.str _,H,I.kept hk,⟨u,rfl⟩,q _⟩
theorem a6M(l:Addr)(items:Array Value)(n:Nat)(b:Addr)(items2:Array Value)(n2:Nat)(dd:Option Addr)(sl:Array (Option Value))(hs0:¬(!items.isEmpty&&Builtin.List.listTooLong (items.size+items2.size))=true)(hs1:items.size<=g9)(hs2:items.size+items2.size<=g9+1) :
  Meets (Builtin.«list.extend» ⟨[.ref l,.ref b],[]⟩) (fun _ R s=>s.heap.get? l=some { cls:=.type "list",dict:=none,data:=.seq items n,slots := #[] }/\s.heap.get? b=some { cls:=.type "tuple",dict:=dd,data:=.seq items2 n2,slots:=sl }/\R (.ok (.ret Value.none)) { s with heap:=s.heap.update l (Obj.mapSeq fun x=>x++items2),toks:=s.toks }):=
 .of_wp fun prog w A R s h=>by
  obtain⟨hp,g,d,tk,os⟩:=s
  obtain⟨hl,hb,h⟩:=h
  have f2:=AutoSeq1.sub_tuple_tuple
  have f5:=AutoSeq1.sub_tuple_list
  have hz':(items++items2).size<=g9+1:=by rw[Array.size_append];exact hs2
  wp_walk using (wpAny_updateSeq hl rfl (hz:=hs1) (_hz':=hz')),AutoSeq1.wpAny_loadPart' hl,AutoSeq1.wpAny_loadPart' hb
  exact⟨_,rfl,h⟩
def b4w:V->List V->Hp->VK->Prop:=fun x vs H Q=>a1A x vs H Q\/∃l b xs zs,x=.ref l/\vs=[.ref b]/\H l=some (.lst xs)/\H b=some (.tup zs)/\xs.length+zs.length<=100000/\Q .non (upd H l (.lst (xs++zs)))
theorem b8o:MtR X "list.extend" b4w:=fun pins s σ H x xs v us Q I rx rv h=>by
 rcases h with h | ⟨l,b,xs,zs,rfl,rfl,hl,hb,hz,q⟩
 ·exact a8g pins s σ H x _ v us Q I rx rv h
 cases rx
 obtain⟨u,rfl,ru⟩:=rv.one
 cases ru
 obtain⟨z,its,n,r,_,e⟩:=I.lstM hl
 obtain⟨its2,r2,ht,_⟩:=I.tuple (SqT.of hb)
 obtain⟨⟨cls,dd,data,sl⟩,ho,hc,n2,hd⟩:=id ht
 simp only at hc hd
 subst hc hd
 have e1:=r.length
 have e2:=r2.length
 have big:(100000:Nat)<=g9:=by rw[sizeLine_eq];decide
 have hsz:its.toArray.size+its2.toArray.size<=g9:=by rw[d6,d6];omega
 have hlong:¬(!its.toArray.isEmpty&&Builtin.List.listTooLong (its.toArray.size+its2.toArray.size))=true:=by
  rw[b1N hsz,c3P]
  exact j7
 refine a1M R1 ⟨_,e,rfl⟩ PySem.F.entry_list_extend (PySem.F.args_list_extend_2 _ _)
  (a6M l its.toArray n b its2.toArray n2 dd sl hlong (by omega) (by omega)) ⟨e,ho,?_⟩
 refine⟨.non,_,I.lset (its':=its++its2) hl e (by simp) (r.append r2) ?_,rfl,q⟩
 rw[j4]
 omega
def a9V:V->List V->Hp->VK->Prop:=fun x vs H Q=>∃l z xs j,x=.ref l/\vs=[.str z]/\H l=some (.lst xs)/\xs.all E5=true/\xs.length<=100000/\xs[j]? = some (.str z)/\(∀i y,i<j->xs[i]? = some y->eqV y (.str z)=false)/\Q (.int (j:Nat)) H
theorem b3u:MtR X "list.index" a9V:=fun pins s σ H x xs v us Q I rx rv h=>by
 obtain⟨l,z,xs,j,rfl,rfl,hl,hf,hz,hj,hno,q⟩:=h
 cases rx
 obtain⟨u,rfl,⟨t,rfl⟩⟩:=rv.one
 obtain⟨its,r,pl,_⟩:=I.list (SqL.of hl)
 obtain⟨⟨cls,dd,data,sl⟩,ho,hc,n,hd⟩:=id pl.isList
 simp only at hc hd
 subst hc hd
 have hlen:=r.length
 have hjl:j<xs.length:=(i9.mp hj).1
 have hat:∀(i:Nat) (hi:i<its.toArray.size),∃y,xs[i]? = some y/\eqU (.str z) its.toArray[i]=eqV y (.str z):=fun i hi=>by
  have hi':i<xs.length:=by simp at hi;omega
  have hy:xs[i]? = some xs[i]:=by simp[hi']
  obtain⟨w,hw,rw'⟩:=r.get hy
  have ew:its.toArray[i]=w:=by
   have:its[i]? = some (its[i]'(by simpa using hi)):=by simp
   rw[hw]at this
   cases this
   simp
  refine⟨_,hy,?_⟩
  rw[ew]
  exact b3K rw' (v7.mp hf _ (C0 hi'))
 refine a1M Z1 ⟨_,ho,rfl⟩ b0L (a9u _ _)
  (a8A l its.toArray n dd sl (.str z t) (eqU (.str z)) j (by simp;omega) (by omega) ?_ ?_) ⟨ho,fun y hy=>a2a (x:=.str z) (v:=.str z t) ⟨t,rfl⟩ rfl r hf y (by simpa using hy),⟨.int _,H,I.tok _,⟨_,rfl⟩,q⟩⟩
 ·obtain⟨y,hy,e⟩:=hat j (by simp;omega)
  rw[hj]at hy
  cases hy
  rw[e]
  simp[eqV]
 ·intro i hi hlt
  obtain⟨y,hy,e⟩:=hat i hi
  rw[e]
  exact hno i y hlt hy
theorem c2f{body:List Stmt}{h0:ExceptHandler}{hs:List ExceptHandler}{pos:Pos}{t:TS}(hx:X.xe=fun _ _=>False)(hb:PSs X body t):PS X (.Try body (h0::hs) [] [] pos) t:=by
 intro pins s σ H D I h
 refine wpAny_Try_except (V4 (hb pins s σ H D I h) (fun f s1 q=>?_) fun _ _ z=>by rw[hx]at z;exact z.elim)
 cases f with
 | next=>exact a2T q
 | _=>exact q
end
end L2
namespace Y
open PySem PySem.Spec PyProof.Rows L2
structure y'E(X:Cx)(e:Expr)(t:TE):Prop where h:PE X e t
structure y'A(X:Cx)(e:List Expr)(t:TA):Prop where h:PA X e t
structure y'S(X:Cx)(e:Stmt)(t:TS):Prop where h:PS X e t
structure a7r(X:Cx)(e:List Stmt)(t:TS):Prop where h:PSs X e t
structure y'T(X:Cx)(e:Expr)(t:TT):Prop where h:PT X e t
structure y'W(X:Cx)(e:Expr)(t:TT):Prop where h:PW X e t
structure b5h(X:Cx)(e:List Expr)(t:TT):Prop where h:PTs X e t
structure a7s(X:Cx)(tg e:Expr)(t:TI):Prop where h:PI X tg e t
structure y'G(X:Cx)(e:Expr)(t:TG):Prop where h:PG X e t
structure b9k(X:Cx)(e:List Expr)(t:TGs):Prop where h:PGs X e t
structure y'O(X:Cx)(e:Option Expr)(t:TO):Prop where h:PO X e t
structure R9(X:Cx)(f:Value->Value->Sem Value)(r:R2):Prop where h:OpR X f r
structure c5E(X:Cx)(f:Value->Sem Value)(r:V->Hp->VK->Prop):Prop where h:UnR X f r
structure S9(X:Cx)(f:Value)(r:List V->Hp->VK->Prop):Prop where h:O7 X f r
structure a3X(X:Cx)(id:String)(r:V->List V->Hp->VK->Prop):Prop where h:MtR X id r
structure c1i(X:Cx)(r:R2):Prop where h:IxR X r
structure b6M(X:Cx)(r:V->Option Int->Option Int->Hp->VK->Prop):Prop where h:SlR X r
structure b2C(X:Cx)(t:a8T):Prop where h:b8Q X t
structure b6N(X:Cx)(t:V->V->Hp->VK->Prop):Prop where h:c3w X t
structure c1j(X:Cx)(op:b6q)(t:TIp):Prop where h:PIp X op t
section
variable {X:Cx}{st:Stmt}{a1p:List Stmt}{t u:TS}{e a b c o i:Expr}{es more:List Expr}{te ta tb tc to ti:TE}{tt tu:TT}{tr:TA}{pos p pos':Pos}{x:Str}
theorem j6:a7r X [] C6:=⟨L2.b9P⟩
theorem b4(h1:y'S X st t)(h2:a7r X a1p u):a7r X (st::a1p) (t6 t u):=⟨L2.b7O h1.h h2.h⟩
theorem b9(h1:y'S X st t):a7r X [st] t:=⟨L2.b9O h1.h⟩
theorem b6B{n:Nat}(hN:X.N.Nodup)(hi:X.N[n]? = some x)(hx:Loc X.env.scope x)(he:y'E X e te)(hs:Z5 e (some (.Name x pos')) pos.line X.env=pure false:=by rfl)(hf:X.fn x=true\/X.env.scope.names.lookup x=some .local:=by first | exact .inl rfl | exact .inr rfl) :
  y'S X (.Assign [.Name x pos'] e pos) (D8 te (o0 n)):=⟨L2.c2g hN hi hx he.h hs hf⟩
theorem a2Z{tg:Expr}{g:TG}(he:y'E X e te)(hg:y'G X tg g)(hs:swapsWithSole [tg] e pos.line X.env=pure false:=by rfl)(hw:swappedStores [tg] e X.env=pure none:=by rfl)
  (h1:(a0o [tg] X.env).map (·.2)=[a3U tg X.env]:=by rfl):y'S X (.Assign [tg] e pos) (D8 te g):=⟨L2.c2k he.h hg.h hs hw h1⟩
theorem b4Z{tget:V->V->Hp->VK->Prop}{tip:TIp}{tset:a8T}{op:b6q}(ho:y'E X o to)(hi:y'E X i ti)(hg:b6N X tget)(he:y'E X e te)(hp:c1j X op tip)(hs:b2C X tset)
  (ha:∀ov iv new,augStore i ov iv new=(do a2X [new,ov,iv] (c1A ov iv new);release [new,ov,iv] [];pure .next):=by intros;rfl):y'S X (.AugAssign (.Subscript o i p) op e pos) (b4o to ti te tget tip tset):=⟨L2.b9S ho.h hi.h hg.h he.h hp.h hs.h ha⟩
theorem t7{la lb:List Stmt}(hc:y'T X c tt)(ha:a7r X la t)(hb:a7r X lb u):y'S X (.If c la lb pos) (L4 tt t u):=⟨L2.c4x hc.h ha.h hb.h⟩
theorem j5(he:y'E X e te):y'S X (.Return (some e) pos) (G9 te):=⟨L2.c2h he.h⟩
theorem J9(he:y'E X e te)(hs:Z5 e none pos.line X.env=pure false:=by rfl):y'S X (.Expr e pos) (Z7 te):=⟨L2.b9Q he.h hs⟩
theorem K9{tg:Expr}{wi:TI}{g:TG}{body:List Stmt}(hp:c3V (model X.prog X.w) X.A X.env X.xe)(hc:X.calm=true)(hi:a7s X tg e wi)(hg:y'G X tg g)(hb:a7r X body t)
  (hs:∀x,K8 e X.env x=pure x:=by intro _;rfl):y'S X (.For tg e body [] pos) (a1o wi g t):=⟨L2.c2i hp hc hi.h hg.h hb.h hs⟩
theorem b5b{n:Nat}(hN:X.N.Nodup)(hi:X.N[n]? = some x)(hx:Loc X.env.scope x)(hf:X.fn x=true\/X.env.scope.names.lookup x=some .local:=by first | exact .inl rfl | exact .inr rfl):y'G X (.Name x pos) (o0 n):=⟨L2.a9X hN hi hx hf⟩
theorem a3x:b9k X [] b2c:=⟨L2.b4y⟩
theorem V6{g:TG}{gs:TGs}(h1:y'G X e g)(h2:b9k X es gs)(h:(a0o (e::es) X.env).map (·.2)=a3U e X.env::(a0o es X.env).map (·.2):=by rfl):b9k X (e::es) (a1D g gs):=⟨L2.a7W h1.h h2.h h⟩
theorem a4M{k n:Nat}{gs:TGs}(hc:X.calm=true)(h:b9k X es gs)(hn:(a0o es X.env).length=n:=by rfl)(hst:(a0o es X.env).findIdx? (·.1)=none:=by rfl):y'G X (.Tuple es k pos) (b2b X.K n gs):=⟨L2.b7T hc h.h hn hst⟩
theorem a4N{ts:a8T}(ho:y'E X o to)(hi:y'E X i ti)(hs:b2C X ts)
  (ha:∀v,a3U (.Subscript o i pos) X.env v=(do
   let ov <-a2X [v] (eval o X.env)
   let iv <-a2X [v,ov] (eval i X.env)
   b6w pos
   a2X [v,ov,iv] (c1A ov iv v)
   release [v,ov,iv] []):=by intro _;rfl):y'G X (.Subscript o i pos) (b3F to ti ts):=⟨L2.c2o ho.h hi.h hs.h ha⟩
theorem E6{tg:Expr}(hg:Gl X "range")(hm:X.mg "range" = none)(ha:y'A X [a] tr)(hs:d4 [a] X.env=[(false,eval a X.env)]:=by rfl):a7s X tg (.Call (.Name "range" p) [a] [] pos) (a0c tr):=⟨L2.b5y hg hm ha.h hs⟩
theorem F3{tg:Expr}(h:y'E X e te):a7s X tg e (T8 X.K te):=⟨L2.b9W h.h⟩
theorem a4L{tg:Expr}(h:y'E X e te):a7s X tg e (b3C X.K te):=⟨L2.c2m h.h⟩
theorem O4:y'A X [] c8:=⟨L2.c2D⟩
theorem E2(ha:y'E X e te)(hr:y'A X es tr)(hs:d4 (e::es) X.env=(false,eval e X.env)::d4 es X.env:=by rfl):y'A X (e::es) (a8 te tr):=⟨L2.c0g ha.h hr.h hs⟩
theorem A2:b5h X [] L7:=⟨L2.b9M⟩
theorem b4Y(h:y'T X e tt):b5h X [e] tt:=⟨L2.b9L h.h⟩
theorem E1{elt iter:Expr}{px:Pos}{ifs:List Expr}{scope:Scope}{wi:TI}(hc:J1 X.N X.env.scope scope x)(hcalm:X.calm=true)(hi:a7s X (.Name x px) iter wi)
  (ht:∀cl C fp s3 H3,b5h (P0 X scope cl C x fp s3 H3) ifs tt) (he:∀cl C fp s3 H3,y'E (P0 X scope cl C x fp s3 H3) elt te)
  (hs:∀x,K8 iter X.env x=pure x:=by intro _;rfl):y'E X (.ListComp elt [⟨.Name x px,iter,ifs,0⟩] scope pos) (M4 wi tt te):=
 ⟨L2.c0c hc hcalm hi.h (fun cl C fp s3 H3=>(ht cl C fp s3 H3).h) (fun cl C fp s3 H3=>(he cl C fp s3 H3).h) hs⟩
theorem a4K{elt iter:Expr}{px py spos:Pos}{ifs:List Expr}{scope:Scope}{wi:TI}{n:Nat}{y:Str}(hN:X.N.Nodup)(hiy:X.N[n]? = some y)(hy:X.env.scope.names.lookup y=some .local)(hc:J1 X.N X.env.scope scope x)(hcalm:X.calm=true)(hi:a7s X (.Name x px) iter wi)
  (ht:∀cl C fp s3 H3,b5h (P0 X scope cl C x fp s3 H3) ifs tt) (he:∀cl C fp s3 H3,y'E (P0 X scope cl C x fp s3 H3) elt te)
  (hsw:Z5 (.ListComp elt [⟨.Name x px,iter,ifs,0⟩] scope pos) (some (.Name y py)) spos.line X.env=pure true:=by rfl)
  (hs:∀x,K8 iter X.env x=pure x:=by intro _;rfl) :
  y'S X (.Assign [.Name y py] (.ListComp elt [⟨.Name x px,iter,ifs,0⟩] scope pos) spos) (fun D σ H=>M4 wi tt te σ H fun v H1=>D.nx (σ.set n (some v)) H1):=
 ⟨L2.b3f hN hiy hy hc hcalm hi.h (fun cl C fp s3 H3=>(ht cl C fp s3 H3).h) (fun cl C fp s3 H3=>(he cl C fp s3 H3).h) hsw hs⟩
theorem b5{n:Int}{j}:y'E X (.Constant (.int n) j pos) (tC (.int n)):=⟨L2.c2y⟩
theorem U8{v:Bool}{j}:y'E X (.Constant (.bool v) j pos) (tC (.bl v)):=⟨L2.c4E⟩
theorem b6E{j}:y'E X (.Constant .none j pos) (tC .non):=⟨L2.c2v⟩
theorem l9{j}:y'E X (.Constant (.str x) j pos) (tC (.str x)):=⟨L2.c2r⟩
theorem b8(n:Nat)(hN:X.N[n]? = some x:=by rfl)(hv:Vis X.env.scope x:=by first | exact Or.inl rfl | exact Or.inr (Or.inl rfl) | exact Or.inr (Or.inr rfl))(hd:(x == ("__debug__" : Str))=false:=by decide)
  (hcd:(x == ("__classdict__" : Str))=false:=by decide):y'E X (.Name x pos) (b6 n):=⟨L2.c2p hN hv hd hcd⟩
theorem P4{v:V}{u:Value}(hg:Gl X x)(hm:X.mg x=none)(hv:Z6 x=some u)(r:C1 v u)(hn:x ≠ "__name__" := by decide)(hd:(x == ("__debug__" : Str))=false:=by decide):y'E X (.Name x pos) (tC v):=⟨L2.c0f hg hm hv r hn hd⟩
theorem M0{v:V}(hm:∃u,X.mg x=some u/\C1 v u)(hg:Gl X x)(hd:(x == ("__debug__" : Str))=false:=by decide):y'E X (.Name x pos) (tC v):=by
 obtain⟨u,h1,h2⟩:=hm
 exact⟨L2.c0a hg h1 h2 hd⟩
theorem u7{op:b6q}{r:R2}(ho:R9 X (Q6 op) r)(ha:y'E X a ta)(hb:y'E X b tb):y'E X (.BinOp a op b pos) (tOp r ta tb):=⟨L2.c4A ho.h ha.h hb.h⟩
theorem b6D(ha:y'E X a ta):y'E X (.UnaryOp .Not a pos) (b1k ta):=⟨L2.c2u ha.h⟩
theorem a0W{op:CmpOp}{r:R2}(ho:R9 X (o4 op) r)(ha:y'E X a ta)(hb:y'E X b tb)(hm:L6 op b=false):y'E X (.Compare a [op] [b] pos) (tOp r ta tb):=⟨L2.c0d ho.h ha.h hb.h hm⟩
theorem a0v{op:CmpOp}{r:R2}(ho:R9 X (o4 op) r)(ha:y'E X a ta)(hb:y'E X b tb)(hm:L6 op b=false):y'T X (.Compare a [op] [b] pos) (A7 (tOp r ta tb)):=⟨L2.b9N ho.h ha.h hb.h hm⟩
theorem a7o{op op':CmpOp}{r r':R2}(ho:R9 X (o4 op) r)(ho':R9 X (o4 op') r')(ha:y'E X a ta)(hb:y'E X b tb)(hc:y'E X c tc)
  (hm:c3S [op,op'] [b,c]=false:=by with_unfolding_all rfl):y'E X (.Compare a [op,op'] [b,c] pos) (a2k r r' ta tb tc):=⟨L2.b7Y ho.h ho'.h ha.h hb.h hc.h hm⟩
theorem a7l{op op':CmpOp}{r r':R2}(ho:R9 X (o4 op) r)(ho':R9 X (o4 op') r')(ha:y'E X a ta)(hb:y'E X b tb)(hc:y'E X c tc)
  (hm:c3S [op,op'] [b,c]=false:=by with_unfolding_all rfl):y'T X (.Compare a [op,op'] [b,c] pos) (A7 (a2k r r' ta tb tc)):=⟨L2.b7N ho.h ho'.h ha.h hb.h hc.h hm⟩
theorem T7{op}(h:y'E X a te):y'E X (.BoolOp op [a] pos) te:=⟨L2.c2t h.h⟩
theorem P9(ha:y'E X a ta)(hb:y'E X (.BoolOp .And (b::more) pos) tb):y'E X (.BoolOp .And (a::b::more) pos) (a0q ta tb):=⟨L2.c2C ha.h hb.h⟩
theorem b9f(ha:y'E X a ta)(hb:y'E X (.BoolOp .Or (b::more) pos) tb):y'E X (.BoolOp .Or (a::b::more) pos) (b9o ta tb):=⟨L2.c4z ha.h hb.h⟩
theorem a2g(hc:y'T X c tt)(ha:y'E X a ta)(hb:y'E X b tb):y'E X (.IfExp c a b pos) (tIf tt ta tb):=⟨L2.b7V hc.h ha.h hb.h⟩
theorem O3{k}(h:y'A X es tr):y'E X (.Tuple es k pos) (a2Q tr):=⟨L2.c2q h.h⟩
theorem w6(h:y'A X es tr):y'E X (.List es pos) (S3 tr):=⟨L2.c2x h.h⟩
theorem a0x:y'O X none a0B:=⟨L2.b9V⟩
theorem a0w(h:y'E X e te):y'O X (some e) (a4c te):=⟨L2.b9U h.h⟩
theorem Y3{lo hi:Option Expr}{tl th:TO}{r:V->Option Int->Option Int->Hp->VK->Prop}(hr:b6M X r)(he:y'E X e te)(hl:y'O X lo tl)(hu:y'O X hi th):y'E X (.Subscript e (.Slice lo hi none p) pos) (tSl r te tl th):=⟨L2.b7U hr.h he.h hl.h hu.h⟩
theorem b9h{r:R2}(hr:c1i X r)(ha:y'E X a ta)(hb:y'E X b tb)(hs:b0I b):y'E X (.Subscript a b pos) (tOp r ta tb):=⟨L2.c4C hr.h ha.h hb.h hs⟩
theorem b6C{k j:Nat}{ps:List Str}{sp:Sp}(C:C2 X.prog X.w X.K X.mg X.base k x ps sp)(hr:O0 j X.A)(hk:k<=j)(hg:Gl X x)(ha:y'A X (e::es) tr)
  (hdb:(x == ("__debug__" : Str))=false:=by decide) (he:d4 (e::es) X.env=(false,eval e X.env)::d4 es X.env:=by rfl) (hpl:(V5 pos (d4 es X.env)).any (·.1)=false:=by rfl) :
  y'E X (.Call (.Name x p) (e::es) [] pos) (o9 sp [] E0 tr):=⟨L2.c2s C hr hk hg ha.h hdb he hpl⟩
theorem d9{id:String}{r:List V->Hp->VK->Prop}(hc:S9 X (.builtin id) r)(hg:Gl X x)(hm:X.mg x=none)(hv:Z6 x=some (.builtin id))(ha:y'A X (e::es) tr)(hn:x ≠ "__name__" := by decide)(hdb:(x == ("__debug__" : Str))=false:=by decide)
  (he:d4 (e::es) X.env=(false,eval e X.env)::d4 es X.env:=by rfl) (hpl:(V5 pos (d4 es X.env)).any (·.1)=false:=by rfl):y'E X (.Call (.Name x p) (e::es) [] pos) (tCB r tr):=⟨L2.b7Z hc.h hg hm hv ha.h hn hdb he hpl⟩
theorem E7{id:String}{r:List V->Hp->VK->Prop}(hc:S9 X (.type id) r)(hg:Gl X x)(hm:X.mg x=none)(hv:Z6 x=some (.type id))(ha:y'A X (e::es) tr)(hn:x ≠ "__name__" := by decide)(hdb:(x == ("__debug__" : Str))=false:=by decide)
  (he:d4 (e::es) X.env=(false,eval e X.env)::d4 es X.env:=by rfl) (hpl:(V5 pos (d4 es X.env)).any (·.1)=false:=by rfl):y'E X (.Call (.Name x p) (e::es) [] pos) (tCB r tr):=⟨L2.b5z hc.h hg hm hv ha.h hn hdb he hpl⟩
theorem L9{ty id:String}{name:Str}{r:V->List V->Hp->VK->Prop}{apos:Pos}(pa:c1g ty)(slot:Slot ty name id)(hty:typeOf (.builtin id)=pure (.type "method_descriptor"))(hm:a3X X id r)(ho:y'E X o to)(ha:y'A X (e::es) tr)
  (hbase:W8 o name X.env (eval o X.env)=eval o X.env:=by rfl)
  (hfew:((V5 pos (d4 (e::es) X.env)).all (fun x => !x.1)&&(b0U pos (a2W [] X.env)).all (fun x=>x.1.isSome)
   && decide ((e::es).length+([]:List a9z).length+(if([]:List a9z).isEmpty then 0 else 1)<30))=true:=by rfl)
  (hline:(apos.endLine == pos.line)=true:=by rfl) (hs:d4 (e::es) X.env=(false,eval e X.env)::d4 es X.env:=by rfl) (hplain:(V5 pos (d4 es X.env)).any (·.1)=false:=by rfl) :
  y'E X (.Call (.Attribute o name apos) (e::es) [] pos) (tBM X.K ty r to tr):=⟨L2.c4D pa slot hty hm.h ho.h ha.h hbase hfew hline hs hplain⟩
theorem T5(ha:y'T X a tt):y'T X (.UnaryOp .Not a pos) (a4i tt):=⟨L2.c2e ha.h⟩
theorem a3v(ha:y'T X a tt):y'W X (.BoolOp .And [a] pos) tt:=⟨L2.b9J ha.h⟩
theorem R8(ha:y'T X a tt):y'W X (.BoolOp .Or [a] pos) tt:=⟨L2.c2b ha.h⟩
theorem a4J(ha:y'T X a tt)(hb:y'W X (.BoolOp .And (b::more) pos) tu):y'W X (.BoolOp .And (a::b::more) pos) (b2I tt tu):=⟨L2.c2c ha.h hb.h⟩
theorem U7(ha:y'T X a tt)(hb:y'W X (.BoolOp .Or (b::more) pos) tu):y'W X (.BoolOp .Or (a::b::more) pos) (tOr tt tu):=⟨L2.c4w ha.h hb.h⟩
theorem P6(h:y'W X e tt):y'T X e tt:=⟨PW.pt h.h⟩
theorem O1(h:y'E X e te)(he:∀whole,isTrue e X.env whole=(do let v <-whole;b6w e.pos;a2X [v] (truthy v)):=by intro _;rfl):y'T X e (tB te):=⟨L2.c2d h.h he⟩
theorem E3:R9 X (Q6 .Add) Z0:=⟨L2.c0p⟩
theorem a1T:R9 X (Q6 .Sub) b3d:=⟨L2.c0h⟩
theorem a0X:R9 X (Q6 .Mult) b1C:=⟨L2.c0k⟩
theorem W4:R9 X (Q6 .Mod) a7V:=⟨L2.c0l⟩
theorem a8Z:R9 X (Q6 .FloorDiv) b9I:=⟨L2.c0o⟩
theorem b5d:R9 X (Q6 .Pow) c1Y:=⟨L2.c0i⟩
theorem z8{k:Nat}(hr:O0 k X.A):R9 X (o4 .Eq) qEq:=⟨L2.c2M hr.units0⟩
theorem a3a{k:Nat}(hr:O0 k X.A):R9 X (o4 .NotEq) qNe:=⟨L2.c2F hr.units0⟩
theorem a2h:S9 X (.type "list") a6v:=⟨L2.b3T⟩
theorem a0I:R9 X (o4 .Lt) qLt:=⟨L2.c2G⟩
theorem a3b:R9 X (o4 .LtE) qLe:=⟨L2.c2H⟩
theorem a1a:R9 X (o4 .Gt) qGt:=⟨L2.c2K⟩
theorem b6K:R9 X (o4 .GtE) qGe:=⟨L2.c2L⟩
theorem a1U:R9 X (o4 .In) (qIn false):=⟨L2.c2J⟩
theorem b0Y:R9 X (o4 .NotIn) (qIn true):=⟨L2.b5B⟩
theorem b6J:R9 X (o4 .Is) qIs:=⟨L2.c2I⟩
theorem a7n:y'E X (.Dict [] [] pos) a7F:=⟨L2.b7W⟩
theorem b6H{k:Nat}(hr:O0 k X.A)(hi:y'E X i ti)(ho:y'E X o to)(h1:L6 .In o=false):y'E X (.Compare i [.In] [o] pos) (a9F ti to):=⟨L2.c2A (L2.b8a (b4E hr) hi.h ho.h) h1⟩
theorem b0V{k:Nat}(hr:O0 k X.A)(hi:y'E X i ti)(ho:y'E X o to)(h1:L6 .In o=false):y'T X (.Compare i [.In] [o] pos) (tB (a9F ti to)):=⟨L2.b7M (L2.b8a (b4E hr) hi.h ho.h) h1⟩
theorem a5G{k:Nat}(hr:O0 k X.A)(ho:y'E X o to)(hi:y'E X i ti)(hv:y'E X e te)(hs:Z5 e (some (.Subscript o i pos')) pos.line X.env=pure false:=by rfl):y'S X (.Assign [.Subscript o i pos'] e pos) (a5d to ti te):=⟨L2.b9R (b4E hr) ho.h hi.h hv.h hs⟩
theorem b0X{tg:Expr}(h:y'E X e te):a7s X tg e (b8x te):=⟨L2.c2n h.h⟩
theorem a3c(hc:X.calm=true):S9 X (.builtin "all") a6K:=⟨L2.b6h hc⟩
theorem c1D:c1i X qIx:=⟨L2.c5u⟩
theorem a5F:b6M X qSl:=⟨L2.c5g⟩
theorem b4X:b6M X (c1V X.K):=⟨L2.b4r⟩
theorem a4I:b2C X a6J:=⟨L2.c3X⟩
theorem b9i:b6N X b5w:=⟨L2.c4P⟩
theorem b6L:c1j X .Add (ipI fun i j=>i+j):=⟨L2.c3m⟩
theorem j8:S9 X (.builtin "len") O9:=⟨L2.b6e⟩
theorem b1d:S9 X (.builtin "abs") b7L:=⟨L2.b6i⟩
theorem K6:S9 X (.builtin "isinstance") a2R:=⟨L2.b6f⟩
theorem S8:a3X X "list.append" X9:=⟨L2.b3v⟩
theorem a1b:a3X X "str.join" a1Z:=⟨L2.b8n⟩
end
theorem b1a{P:v0}{w:World}{K:Fg}{mg:Str->Option Value}{base:Heap}{x qual:Str}{st:Stmt}{f:Addr}{fd:V2}{N ps:List Str}{k:Nat}{sp:Sp}(F:Fun K x qual st f fd)(y'S:u0 N ps (d3 st))(len:∀vs H Q y'E,sp vs H Q y'E->vs.length=ps.length)
  (hbody:∀(cdv:Value) (y'A:F7) (outer:List Env) (s:d7) (H:Hp) (vs:List V) (Q:VK) (y'E:XK),O0 k (y'A.deeper (b0T qual (d3 st) s.heap.objs.size f cdv))->sp vs H Q y'E ->
   ∃t,a7r (b2g CX0 P w K mg base N qual (d3 st) f cdv y'A outer s H y'E).nox (a0d st) t/\t { nx:=fun _ H'=>Q .non H',rt:=Q } (a4V N vs) H):J0 P w K mg base CX0 (k+1) f fd ps sp:=
 F.ok y'S len fun cdv y'A outer s H vs Q y'E hr h=>let⟨t,a,b⟩:=hbody cdv y'A outer s H vs Q y'E hr h; ⟨t,a.h,b⟩
end Y
namespace Y
open PySem PySem.Spec PyProof.Rows L2
section
variable {X:Cx}{st:Stmt}{a1p:List Stmt}{t u:TS}{e a b c o i:Expr}{es more:List Expr}{te ta tb tc to ti:TE}{tt tu:TT}{tr:TA}{pos p pos':Pos}{x y:Str}
theorem a3w{elts:List Expr}{x1}{tp:Pos}(hg:Gl X "enumerate")(hm:X.mg "enumerate" = none)(ha:y'A X [a] tr)(hs:d4 [a] X.env=[(false,eval a X.env)]:=by rfl) :
  a7s X (.Tuple elts x1 tp) (.Call (.Name "enumerate" p) [a] [] pos) (a8l X.K tr):=⟨L2.b9X hg hm ha.h hs⟩
theorem b0W{elts:List Expr}{x1}{tp:Pos}(hg:Gl X "zip")(hm:X.mg "zip" = none)(ha:y'A X [a,b] tr)(hs:d4 [a,b] X.env=[(false,eval a X.env),(false,eval b X.env)]:=by rfl)(hs2:d4 [b] X.env=[(false,eval b X.env)]:=by rfl) :
  a7s X (.Tuple elts x1 tp) (.Call (.Name "zip" p) [a,b] [] pos) (b8w X.K tr):=⟨L2.c2l hg hm ha.h hs hs2⟩
theorem a4h{elt iter:Expr}{px py pt:Pos}{kt}{ifs:List Expr}{scope:Scope}{wi:TI}(hc:a0i X.N X.env.scope scope x y)(hcalm:X.calm=true)(hi:a7s X (.Tuple [.Name x px,.Name y py] kt pt) iter wi)
  (ht:∀cl C fp s3 H3,b5h (J7 X scope cl C x y fp s3 H3) ifs tt) (he:∀cl C fp s3 H3,y'E (J7 X scope cl C x y fp s3 H3) elt te)
  (hs:∀x,K8 iter X.env x=pure x:=by intro _;rfl):y'E X (.ListComp elt [⟨.Tuple [.Name x px,.Name y py] kt pt,iter,ifs,0⟩] scope pos) (a2j X.K wi tt te):=
 ⟨L2.b7X hc hcalm hi.h (fun cl C fp s3 H3=>(ht cl C fp s3 H3).h) (fun cl C fp s3 H3=>(he cl C fp s3 H3).h) hs⟩
theorem b2A{body:List Stmt}(hp:c3V (model X.prog X.w) X.A X.env X.xe)(hc:y'T X c tt)(hb:a7r X body t):y'S X (.While c body [] pos) (a9E tt t):=⟨L2.b7P hp hc.h hb.h⟩
theorem Y2{e c:Option Expr}:y'S X (.Raise e c pos) (fun _ _ _=>False):=⟨L2.b7Q⟩
theorem a0H{f:Str}(he:y'E X e te)(hb:W8 e f X.env (eval e X.env)=eval e X.env:=by rfl):y'E X (.Attribute e f pos) (a7E X.K te f):=⟨L2.c2z he.h hb⟩
theorem a7m{f:Str}(ha:y'E X o to)(hv:y'E X e te)(hs:Z5 e (some (.Attribute o f pos')) pos.line X.env=pure false:=by rfl):y'S X (.Assign [.Attribute o f pos'] e pos) (b5s X.K to te f):=⟨L2.c2j ha.h hv.h hs⟩
theorem b9g{k j:Nat}{C:Addr}{ps:List Str}{sp:Sp}(M:b2s X.prog X.w X.K X.mg X.base k x C ps sp)(hr:O0 j X.A)(hk:k+1<=j)(hg:Gl X x)(ha:y'A X (e::es) tr)
  (hdb:(x == ("__debug__" : Str))=false:=by decide) (he:d4 (e::es) X.env=(false,eval e X.env)::d4 es X.env:=by rfl) (hpl:(V5 pos (d4 es X.env)).any (·.1)=false:=by rfl) :
  y'E X (.Call (.Name x p) (e::es) [] pos) (a7D C sp [] E0 tr):=⟨L2.c4B M hr hk hg ha.h hdb he hpl⟩
theorem b6F{pl:Sem Bool}{k j:Nat}{m:Str}{C:Addr}{ps:List Str}{sp:Sp}{apos:Pos}(M:a7i X.prog X.w X.K X.mg X.base k m C ps sp)(hr:O0 j X.A)(hk:k<=j)(ho:y'E X o to)(ha:y'A X (e::es) tr)
  (hst:d4 (e::es) X.env=(false,eval e X.env)::d4 es X.env:=by rfl) (hpl:(V5 pos (d4 es X.env)).any (·.1)=false:=by rfl)
  (ht:eval (.Call (.Attribute o m apos) (e::es) [] pos) X.env=(do
   let ov <-eval o X.env
   b6w apos.atName
   let(f,first) <-a2X [ov] (b6x ov m pl)
   callWith pos f first (V5 pos (d4 (e::es) X.env)) (b0U pos (a2W [] X.env))):=by rfl) :
  y'E X (.Call (.Attribute o m apos) (e::es) [] pos) (b1l C m sp [] E0 to tr):=⟨L2.c2w (pl:=pl) M hr hk ho.h ha.h hst hpl ht⟩
theorem b6I{ty id:String}{name:Str}{r:V->List V->Hp->VK->Prop}{apos:Pos}(pa:c1g ty)(slot:Slot ty name id)(hty:typeOf (.builtin id)=pure (.type "method_descriptor"))(hm:a3X X id r)(ho:y'E X o to)
  (hbase:W8 o name X.env (eval o X.env)=eval o X.env:=by rfl) (hline:(apos.endLine == pos.line)=true:=by rfl):y'E X (.Call (.Attribute o name apos) [] [] pos) (b9p X.K ty r to):=⟨L2.c2B pa slot hty hm.h ho.h hbase hline⟩
structure b9j(X:Cx)(pos:Pos)(ks:List (Option Expr))(vs:List Expr)(trs:List (TE×TE)):Prop where h:PPs X pos ks vs trs
theorem b5a:b9j X pos [] [] []:=⟨L2.b9T⟩
theorem b2B{ks:List (Option Expr)}{vs:List Expr}{trs:List (TE×TE)}(hk:y'E X a ta)(hv:y'E X b tb)(hr:b9j X pos ks vs trs):b9j X pos (some a::ks) (b::vs) ((ta,tb)::trs):=⟨L2.b7R hk.h hv.h hr.h⟩
theorem b5c{keys:List (Option Expr)}{values:List Expr}{trs:List (TE×TE)}(h:b9j X pos keys values trs)(hall:keys.all (·.isSome)=true:=by rfl)(hl:keys.length=values.length:=by rfl)(h0:keys≠[]:=by intro z;cases z)
  (h15:keys.length<=15:=by decide):y'E X (.Dict keys values pos) (b7c trs):=⟨L2.c0b h.h hall hl h0 h15⟩
theorem a2Y{k:Nat}(hr:O0 k X.A)(hi:y'E X i ti)(ho:y'E X o to)(h1:L6 .NotIn o=false):y'T X (.Compare i [.NotIn] [o] pos) (tB (a3z ti to)):=⟨L2.b7M (L2.b5A (b4E hr) hi.h ho.h) h1⟩
theorem b1b(hc:X.calm=true):S9 X (.builtin "min") b7I:=⟨L2.b6d hc⟩
theorem b1c(hc:X.calm=true):S9 X (.builtin "any") b3e:=⟨L2.b6g hc⟩
theorem a7q:S9 X (.builtin "sorted") a3H:=⟨L2.b0w⟩
theorem a8F(hc:X.calm=true):S9 X (.type "list") a5S:=⟨L2.b2q hc⟩
theorem b0Z:a3X X "list.index" a5T:=⟨L2.b5J⟩
theorem a4P:a3X X "list.extend" a1A:=⟨L2.a8g⟩
theorem b5g:a3X X "list.pop" b5v:=⟨L2.c0z⟩
theorem a8Y{k:Nat}(hr:O0 k X.A):R9 X (o4 .NotEq) (b9H X.K):=⟨L2.c0j hr⟩
theorem b5f{k:Nat}(hr:O0 k X.A):R9 X (o4 .Eq) (c2a X.K):=⟨L2.c0n hr⟩
theorem b5e:R9 X (o4 .In) (c1Z X.K):=⟨L2.c0m⟩
end
end Y
namespace Y
open PySem PySem.Spec PyProof.Rows L2
theorem a8E{X:Cx}{elt iter:Expr}{px py2 pt py spos pos:Pos}{kt:Nat}{ifs:List Expr}{scope:Scope}{x x2:Str}{wi:TI}{tt:TT}{te:TE}{n:Nat}{y:Str}(hN:X.N.Nodup)(hiy:X.N[n]? = some y)(hy:X.env.scope.names.lookup y=some .local)(hc:a0i X.N X.env.scope scope x x2)(hcalm:X.calm=true)(hi:a7s X (.Tuple [.Name x px,.Name x2 py2] kt pt) iter wi)
  (ht:∀cl C fp s3 H3,b5h (J7 X scope cl C x x2 fp s3 H3) ifs tt) (he:∀cl C fp s3 H3,y'E (J7 X scope cl C x x2 fp s3 H3) elt te)
  (hsw:Z5 (.ListComp elt [⟨.Tuple [.Name x px,.Name x2 py2] kt pt,iter,ifs,0⟩] scope pos) (some (.Name y py)) spos.line X.env=pure true:=by rfl)
  (hs:∀x,K8 iter X.env x=pure x:=by intro _;rfl) :
  y'S X (.Assign [.Name y py] (.ListComp elt [⟨.Tuple [.Name x px,.Name x2 py2] kt pt,iter,ifs,0⟩] scope pos) spos) (fun D σ H=>a2j X.K wi tt te σ H fun v H1=>D.nx (σ.set n (some v)) H1):=
 ⟨L2.b1E hN hiy hy hc hcalm hi.h (fun cl C fp s3 H3=>(ht cl C fp s3 H3).h) (fun cl C fp s3 H3=>(he cl C fp s3 H3).h) hsw hs⟩
end Y
namespace Y
open PySem PySem.Spec PyProof.Rows L2
end Y
namespace Y
open PySem PySem.Spec PyProof.Rows L2
end Y
namespace Y
open PySem PySem.Spec PyProof.Rows L2
end Y
namespace Y
open PySem PySem.Spec PyProof.Rows L2
theorem a3W{X:Cx}:S9 X (.type "tuple") a2u:=⟨L2.b2p⟩
end Y
namespace Y
open PySem PySem.Spec PyProof.Rows L2
section
variable {X:Cx}{e0 e1 e2 e3 e4:Expr}{t0 t1 t2 t3 t4:TE}
theorem g8(h0:y'E X e0 t0)(s0:d4 [e0] X.env=(false,eval e0 X.env)::d4 [] X.env:=by rfl):y'A X [e0] (a8 t0 c8):=(E2 h0 O4 s0)
theorem u8(h0:y'E X e0 t0)(h1:y'E X e1 t1)(s0:d4 [e0,e1] X.env=(false,eval e0 X.env)::d4 [e1] X.env:=by rfl)(s1:d4 [e1] X.env=(false,eval e1 X.env)::d4 [] X.env:=by rfl):y'A X [e0,e1] (a8 t0 (a8 t1 c8)):=(E2 h0 (E2 h1 O4 s1) s0)
theorem a4O(h0:y'E X e0 t0)(h1:y'E X e1 t1)(h2:y'E X e2 t2)(s0:d4 [e0,e1,e2] X.env=(false,eval e0 X.env)::d4 [e1,e2] X.env:=by rfl)(s1:d4 [e1,e2] X.env=(false,eval e1 X.env)::d4 [e2] X.env:=by rfl)(s2:d4 [e2] X.env=(false,eval e2 X.env)::d4 [] X.env:=by rfl):y'A X [e0,e1,e2] (a8 t0 (a8 t1 (a8 t2 c8))):=(E2 h0 (E2 h1 (E2 h2 O4 s2) s1) s0)
theorem b4g(h0:y'E X e0 t0)(h1:y'E X e1 t1)(h2:y'E X e2 t2)(h3:y'E X e3 t3)(s0:d4 [e0,e1,e2,e3] X.env=(false,eval e0 X.env)::d4 [e1,e2,e3] X.env:=by rfl)(s1:d4 [e1,e2,e3] X.env=(false,eval e1 X.env)::d4 [e2,e3] X.env:=by rfl)(s2:d4 [e2,e3] X.env=(false,eval e2 X.env)::d4 [e3] X.env:=by rfl)(s3:d4 [e3] X.env=(false,eval e3 X.env)::d4 [] X.env:=by rfl):y'A X [e0,e1,e2,e3] (a8 t0 (a8 t1 (a8 t2 (a8 t3 c8)))):=(E2 h0 (E2 h1 (E2 h2 (E2 h3 O4 s3) s2) s1) s0)
theorem b4f(h0:y'E X e0 t0)(h1:y'E X e1 t1)(h2:y'E X e2 t2)(h3:y'E X e3 t3)(h4:y'E X e4 t4)(s0:d4 [e0,e1,e2,e3,e4] X.env=(false,eval e0 X.env)::d4 [e1,e2,e3,e4] X.env:=by rfl)(s1:d4 [e1,e2,e3,e4] X.env=(false,eval e1 X.env)::d4 [e2,e3,e4] X.env:=by rfl)(s2:d4 [e2,e3,e4] X.env=(false,eval e2 X.env)::d4 [e3,e4] X.env:=by rfl)(s3:d4 [e3,e4] X.env=(false,eval e3 X.env)::d4 [e4] X.env:=by rfl)(s4:d4 [e4] X.env=(false,eval e4 X.env)::d4 [] X.env:=by rfl):y'A X [e0,e1,e2,e3,e4] (a8 t0 (a8 t1 (a8 t2 (a8 t3 (a8 t4 c8))))):=(E2 h0 (E2 h1 (E2 h2 (E2 h3 (E2 h4 O4 s4) s3) s2) s1) s0)
end
end Y
local macro_rules | `(tactic| walk_at "sc") => `(tactic| exact ⟨rfl, rfl, rfl, by decide +kernel, rfl, by decide +kernel, by decide +kernel⟩)
namespace Y
open PySem PySem.Spec PyProof.Rows L2
section
variable {X:Cx}{e a b o:Expr}{es:List Expr}{te ta tb to:TE}{tr:TA}{pos p pos':Pos}{x:Str}
theorem p8(n:Nat)(hN:X.N.Nodup)(he:y'E X e te)(hi:X.N[n]? = some x:=by rfl)(hx:Loc X.env.scope x:=by first | exact Or.inl rfl | exact Or.inr rfl)(hs:Z5 e (some (.Name x pos')) pos.line X.env=pure false:=by rfl)(hf:X.fn x=true\/X.env.scope.names.lookup x=some .local:=by first | exact .inl rfl | exact .inr rfl) :
  y'S X (.Assign [.Name x pos'] e pos) (D8 te (o0 n)):=b6B hN hi hx he hs hf
theorem O2(n:Nat)(hN:X.N.Nodup)(hi:X.N[n]? = some x:=by rfl)(hx:Loc X.env.scope x:=by first | exact Or.inl rfl | exact Or.inr rfl)(hf:X.fn x=true\/X.env.scope.names.lookup x=some .local:=by first | exact .inl rfl | exact .inr rfl):y'G X (.Name x pos) (o0 n):=b5b hN hi hx hf
theorem j9{k j:Nat}{ps:List Str}{sp:Sp}(C:C2 X.prog X.w X.K X.mg X.base k x ps sp)(hr:O0 j X.A)(ha:y'A X (e::es) tr)(hk:k<=j:=by decide)(hg:Gl X x:=by rfl)
  (hdb:(x == ("__debug__" : Str))=false:=by decide) (he:d4 (e::es) X.env=(false,eval e X.env)::d4 es X.env:=by rfl) (hpl:(V5 pos (d4 es X.env)).any (·.1)=false:=by rfl) :
  y'E X (.Call (.Name x p) (e::es) [] pos) (o9 sp [] E0 tr):=b6C C hr hk hg ha hdb he hpl
theorem b6G{k j:Nat}{C:Addr}{ps:List Str}{sp:Sp}(M:b2s X.prog X.w X.K X.mg X.base k x C ps sp)(hr:O0 j X.A)(ha:y'A X (e::es) tr)(hk:k+1<=j:=by decide)(hg:Gl X x:=by rfl)
  (hdb:(x == ("__debug__" : Str))=false:=by decide) (he:d4 (e::es) X.env=(false,eval e X.env)::d4 es X.env:=by rfl) (hpl:(V5 pos (d4 es X.env)).any (·.1)=false:=by rfl) :
  y'E X (.Call (.Name x p) (e::es) [] pos) (a7D C sp [] E0 tr):=b9g M hr hk hg ha hdb he hpl
theorem o7(ha:y'E X a ta)(hb:y'E X b tb)(hs:b0I b:=by exact fun _ _=>rfl):y'E X (.Subscript a b pos) (tOp qIx ta tb):=b9h c1D ha hb hs
theorem a5H{op:CmpOp}{r:R2}(ho:R9 X (o4 op) r)(ha:y'E X a ta)(hb:y'E X b tb)(hm:L6 op b=false:=by exact a8e _):y'E X (.Compare a [op] [b] pos) (tOp r ta tb):=a0W ho ha hb hm
theorem A6{op:CmpOp}{r:R2}(ho:R9 X (o4 op) r)(ha:y'E X a ta)(hb:y'E X b tb)(hm:L6 op b=false:=by exact a8e _):y'T X (.Compare a [op] [b] pos) (A7 (tOp r ta tb)):=a0v ho ha hb hm
end
end Y
namespace Y
open PySem PySem.Spec PyProof.Rows L2
section
variable {X:Cx}{e o i:Expr}{te to ti:TE}{t:TS}{pos p:Pos}{k:Nat}
end
end Y
namespace Y
open PySem PySem.Spec PyProof.Rows L2
theorem a9C{X:Cx}:S9 X (.builtin "isinstance") (b7J X.K):=⟨L2.b3U⟩
end Y
namespace Y
open PySem PySem.Spec PyProof.Rows L2
section
variable {X:Cx}{i o:Expr}{ti to:TE}{pos:Pos}{k:Nat}
end
end Y
namespace Y
open PySem PySem.Spec PyProof.Rows L2
section
variable {X:Cx}{k:Nat}{pos:Pos}{t:TS}
theorem a6q:a3X X "str.split" a7U:=⟨L2.b5I⟩
theorem a7p:a3X X "list.extend" b4w:=⟨L2.b8o⟩
theorem a9B:a3X X "list.index" a9V:=⟨L2.b3u⟩
theorem a9D:S9 X (.type "int") b7K:=⟨L2.b3V⟩
theorem Q0(hr:O0 k X.A):S9 X (.type "str") a1Y:=⟨L2.b3S hr⟩
theorem b6A{body:List Stmt}{h0:ExceptHandler}{hs:List ExceptHandler}(hx:X.xe=fun _ _=>False)(hb:a7r X body t):y'S X (.Try body (h0::hs) [] [] pos) t:=⟨L2.c2f hx hb.h⟩
end
end Y
namespace RD
open PySem PySem.Spec L2
variable{C D a b c d dx na p ra x:Addr}{H H' H0 H1:Hp}{o:HO}{ws xs ys:List V}{σ:St}{ta te:TE}{tt:TT}{Q:VK}{v w:V}{i m n t:Nat}{f:V->List V->Hp->VK->Prop}{z:Str}{ks l:List Nat}{QD:Hp->Prop}{R:It->Hp->Prop}{M N:Nt}{ns:List Int}{as rs:List Addr}{Ws:List (List V)}
def w4(b:Addr)(H H':Hp):Prop:=(∀a o,H a=some o->a≠b->H' a=some o)/\∀o,H b=some o->∃o',H' b=some o'
theorem w4.refl(b:Addr)(H:Hp):w4 b H H:=⟨fun _ _ h _=>h,fun o h=>⟨o,h⟩⟩
theorem w4.trans{H2:Hp}(x:w4 b H H1)(y:w4 b H1 H2):w4 b H H2:=
 ⟨fun a o h n=>y.1 a o (x.1 a o h n) n,fun o h=>let⟨o',h'⟩:=x.2 o h;y.2 o' h'⟩
theorem w4.upd(b:Addr)(H:Hp)(o:HO):w4 b H (upd H b o):=⟨fun a u h n=>by rw[c9 n];exact h,fun _ _=>⟨o,c5⟩⟩
theorem w4.new(h:H p=none):w4 b H (L2.upd H p o):=
 ⟨fun a u e _=>by rw[c9 (c4 e h)];exact e,fun u e=>⟨u,by rw[c9 (c4 e h)];exact e⟩⟩
theorem w4.of_same(s:o6 H H'):w4 b H H':=⟨fun a o h _=>s a o h,fun o h=>⟨o,s _ _ h⟩⟩
theorem o5(h:H p=none):o6 H (L2.upd H p o):=fun a u e=>by rw[c9 (c4 e h)];exact e
theorem w4.none(k:w4 b H H')(h:H' p=Option.none):H p=Option.none:=by
 cases e:H p with
 | none=>rfl
 | some o=>
  by_cases z:p=b
  ·subst z
   obtain⟨o',h'⟩:=k.2 o e
   rw[h]at h'
   cases h'
  ·rw[k.1 p o e z]at h
   cases h
theorem w4.tup{b a:Addr}{H H':Hp}{xs ys:List V}(k:w4 b H H')(hb:H b=some (.lst ys))(h:H a=some (.tup xs)):H' a=some (.tup xs):=
 k.1 a _ h (L3 h hb (by intro z;cases z))
structure Bag(H:Hp)(b c:Addr):Prop where
 ex:∃(i0 i1 i2:Int) (ns:List Int),H b=some (.lst [.int i0,.int i1,.int i2,.ref c])/\H c=some (.lst (ns.map V.int))/\0<=i0/\0<=i1/\i1<2147483647/\0<=i2/\∀x∈ns,0<=x
theorem Bag.lst{H:Hp}{b c:Addr}(h:Bag H b c):∃xs,H b=some (.lst xs):=by
 obtain⟨i0,i1,i2,ns,h,_⟩:=h.ex
 exact⟨_,h⟩
theorem Bag.same(h:Bag H b c)(s:o6 H H'):Bag H' b c:=by
 obtain⟨i0,i1,i2,ns,h1,h2,r⟩:=h.ex
 exact⟨i0,i1,i2,ns,s _ _ h1,s _ _ h2,r⟩
theorem Bag.new(h:Bag H b c)(n:H p=none):Bag (L2.upd H p o) b c:=h.same (o5 n)
theorem Bag.put(h:Bag H b c)(n1:p≠b)(n2:p≠c):Bag (L2.upd H p o) b c:=by
 obtain⟨i0,i1,i2,ns,h1,h2,r⟩:=h.ex
 exact⟨i0,i1,i2,ns,by rw[c9 n1.symm];exact h1,by rw[c9 n2.symm];exact h2,r⟩
theorem Bag.nb(h:Bag H b c)(n:H p=none):p≠b/\p≠c:=by
 obtain⟨i0,i1,i2,ns,h1,h2,r⟩:=h.ex
 exact⟨(c4 h1 n).symm,(c4 h2 n).symm⟩
theorem w4.put(k:w4 b H H')(n:H p=Option.none):w4 b H (L2.upd H' p o):=
 ⟨fun a u e z=>by rw[c9 (c4 e n)];exact k.1 a u e z,fun u e=>by
  obtain⟨o',h⟩:=k.2 u e
  exact⟨o',by rw[c9 (c4 e n)];exact h⟩⟩
theorem a2H{α:Type}(a:α)(r:List α):atI (a::r) 0=some a:=by
 have := @U9 α (a::r) 0 a rfl
 simpa using this
theorem a6j{α:Type}(a b:α)(r:List α):atI (a::b::r) 1=some b := @U9 α (a::b::r) 1 b rfl
theorem b3W{α:Type}(a b c:α)(r:List α):atI (a::b::c::r) 2=some c := @U9 α (a::b::c::r) 2 c rfl
theorem c4T{α:Type}(a b c d:α)(r:List α):atI (a::b::c::d::r) 3=some d := @U9 α (a::b::c::d::r) 3 d rfl
theorem a1P{α:Type}{xs:List α}{i:Int}(h0:0<=i)(h1:i<xs.length):∃v,atI xs i=some v/\xs[i.toNat]? = some v:=by
 have hl:i.toNat<xs.length:=by omega
 have e:xs[i.toNat]? = some (xs[i.toNat]'hl):=by simp[hl]
 refine⟨_,?_,e⟩
 have:=U9 e
 rwa [b9e h0]at this
section
variable {t u:TS}{D:a8w}{tb tc to ti:TE}{tu:TT}{tr:TA}{QB:Bool->Hp->Prop}{QA:List V->Hp->Prop}{QO:Option Int->Hp->Prop}{x y:V}{i j:Int}{r r':R2}{K:Fg}
theorem a0r(h:t { D with nx:=u D } σ H):t6 t u D σ H:=h
theorem X5{P:St->Hp->Prop}(tail:∀σ H,P σ H->u D σ H)(main:∀nx:St->Hp->Prop,(∀σ H,P σ H->nx σ H)->t { D with nx:=nx } σ H):t6 t u D σ H:=main _ tail
theorem c4h{g:TG}(h:te σ H fun x H1=>g x σ H1 D.nx):D8 te g D σ H:=h
theorem a7b{QS:St->Hp->Prop}(h:QS (σ.set n (some v)) H):o0 n v σ H QS:=h
theorem c1N{QS:St->Hp->Prop}{ts:a8T}(h:to σ H fun o H1=>ti σ H1 fun i H2=>ts o i v H2 fun H3=>QS σ H3):b3F to ti ts v σ H QS:=h
theorem b1x(h:te σ H D.rt):G9 te D σ H:=h
theorem c1O(h:te σ H fun _ H1=>D.nx σ H1):Z7 te D σ H:=h
theorem c5k(h:tt σ H fun b H1=>if b=true then t D σ H1 else u D σ H1):L4 tt t u D σ H:=h
theorem b2X(h:D.nx σ H):C6 D σ H:=h
theorem c1I(h:te σ H fun x H'=>∃k,x=.bl k/\QB k H'):A7 te σ H QB:=h
theorem c5h(h:te σ H fun x H'=>∃k,x=.bl k/\QB k H'):tB te σ H QB:=h
theorem c4c(h:tt σ H fun c H1=>QB (!c) H1):a4i tt σ H QB:=h
theorem c4i(h:tt σ H fun c H1=>if c=true then tu σ H1 QB else QB false H1):b2I tt tu σ H QB:=h
theorem c5j(h:tt σ H fun c H1=>if c=true then QB true H1 else tu σ H1 QB):tOr tt tu σ H QB:=h
theorem c1R(h:ta σ H fun x H1=>∃c,x=.bl c/\if c=true then tb σ H1 Q else Q (.bl false) H1):a0q ta tb σ H Q:=h
theorem c4a(h:ta σ H fun x H1=>∃c,x=.bl c/\if c=true then Q (.bl true) H1 else tb σ H1 Q):b9o ta tb σ H Q:=h
theorem c1L(h:ta σ H fun x H1=>∃c,x=.bl c/\Q (.bl (!c)) H1):b1k ta σ H Q:=h
theorem c4e(h:tt σ H fun c H1=>if c=true then ta σ H1 Q else tb σ H1 Q):tIf tt ta tb σ H Q:=h
theorem c4b(h:ta σ H fun x H1=>tb σ H1 fun y H2=>r x y H2 Q):tOp r ta tb σ H Q:=h
theorem a1x(h:ta σ H fun x H1=>tb σ H1 fun y H2=>r x y H2 fun z H3=>∃k,z=.bl k/\(if k=true then tc σ H3 fun w' H4=>r' y w' H4 Q else Q (.bl false) H3)):a2k r r' ta tb tc σ H Q:=h
theorem b7m(e:σ[n]? = some (some v))(h:Q v H):b6 n σ H Q:=⟨v,e,h⟩
theorem s_c(h:Q v H):tC v σ H Q:=h
theorem b7v(h:te σ H fun x H1=>tr σ H1 fun xs H2=>QA (x::xs) H2):a8 te tr σ H QA:=h
theorem c1n(h:QA [] H):c8 σ H QA:=h
theorem c1P{sp:Sp}{E:XK}(h:tr σ H fun vs H1=>sp (vs++[]) H1 Q E):o9 sp [] E tr σ H Q:=h
theorem c5l{f:List V->Hp->VK->Prop}(h:tr σ H fun vs H1=>f vs H1 Q):tCB f tr σ H Q:=h
def New(o:HO)(n:Nat)(H:Hp)(Q:VK):Prop:=n<=g9/\∀p,H p=none->Q (.ref p) (upd H p o)
theorem C3(hl:n<=100000)(h:∀p H',H p=none->H' p=some o->o6 H H'->Q (.ref p) H'):New o n H Q:=
 ⟨v9 hl (by rw[a2e];decide),fun p hp=>h p _ hp c5 (o5 hp)⟩
theorem c3Z(h:tr σ H fun xs H1=>New (.tup xs) xs.length H1 Q):a2Q tr σ H Q:=h
theorem c4d(h:tr σ H fun xs H1=>New (.lst xs) xs.length H1 Q):S3 tr σ H Q:=h
theorem c5i{f:V->Option Int->Option Int->Hp->VK->Prop}{tl th:TO}(h:te σ H fun x H1=>tl σ H1 fun l H2=>th σ H2 fun u H3=>f x l u H3 Q):tSl f te tl th σ H Q:=h
theorem c1K(h:te σ H fun x H1=>∃i,x=.int i/\QO (some i) H1):a4c te σ H QO:=h
theorem b7o(h:QO none H):a0B σ H QO:=h
theorem b2T(h:QB true H):L7 σ H QB:=h
theorem a5Q(h:to σ H fun x H1=>tyV K "list" x H1/\tr σ H1 fun xs H2=>f x xs H2 Q):tBM K "list" f to tr σ H Q:=h
theorem c4f{s:Str}(h:tr σ H fun xs H2=>f (.str s) xs H2 Q):tBM K "str" f (tC (.str s)) tr σ H Q:=⟨rfl,h⟩
theorem c1Q{tget:V->V->Hp->VK->Prop}{tip:TIp}{tset:a8T}(h:to σ H fun o H1=>ti σ H1 fun i H2=>tget o i H2 fun x H3=>te σ H3 fun y H4=>tip x y H4 fun z H5=>tset o i z H5 fun H6=>D.nx σ H6):b4o to ti te tget tip tset D σ H:=h
theorem c4u(h:Q (.int (i+j)) H):Z0 (.int i) (.int j) H Q:=h
theorem b3c{a b:Str}(hl:a.length+b.length<=g9)(h:Q (.str (a++b)) H):Z0 (.str a) (.str b) H Q:=⟨hl,h⟩
theorem a5R(ha:H a=some (.lst xs))(hb:H b=some (.lst ys))(h:New (.lst (xs++ys)) (xs.length+ys.length) H Q):Z0 (.ref a) (.ref b) H Q:=by
 unfold Z0
 simp only[ha,hb]
 exact h
theorem c1X{g:Int->Int->V}(h:Q (g i j) H):b1D g (.int i) (.int j) H Q:=h
theorem a0t{C:Int->Int->Prop}{g:Int->Int->V}(hc:C i j)(h:Q (g i j) H):q2I C g (.int i) (.int j) H Q:=⟨hc,h⟩
theorem c5q{f:Int->Int->Int}(h:Q (.int (f i j)) H):ipI f (.int i) (.int j) H Q:=⟨i,j,rfl,rfl,h⟩
theorem F8(hp:H p=some (.lst xs))(he:atI xs i=some v)(h:Q v H):qIx (.ref p) (.int i) H Q:=by
 unfold qIx
 simp only[hp]
 exact⟨v,he,h⟩
theorem V8(hp:H p=some (.tup xs))(he:atI xs i=some v)(h:Q v H):qIx (.ref p) (.int i) H Q:=by
 unfold qIx
 simp only[hp]
 exact⟨v,he,h⟩
theorem b7G{c:Nat}(hz:z.length<=g9)(he:atI z.cps.toList i=some c)(h:Q (.str ⟨#[c]⟩) H):qIx (.str z) (.int i) H Q:=⟨hz,c,he,h⟩
theorem b4t{QH:Hp->Prop}{k:Nat}(hp:H p=some (.lst xs))(he:ixN xs.length i=some k)(h:QH (upd H p (.lst (xs.set k v)))):a6J (.ref p) (.int i) v H QH:=by
 unfold a6J
 simp only[hp]
 exact⟨k,he,h⟩
theorem c4r(hp:H p=some (.lst xs))(h0:0<=i)(he:xs[i.toNat]? = some v)(h:Q v H):b5w (.ref p) (.int i) H Q:=by
 unfold b5w
 simp only[hp]
 exact⟨h0,v,he,h⟩
theorem G6(hp:H p=some (.lst xs))(h:Q (.int xs.length) H):O9 [.ref p] H Q:=by
 unfold O9
 simp only[hp]
 exact h
theorem a3g(hp:H p=some (.tup xs))(h:Q (.int xs.length) H):O9 [.ref p] H Q:=by
 unfold O9
 simp only[hp]
 exact h
theorem b3b(hz:z.length<=g9)(h:Q (.int z.length) H):O9 [.str z] H Q:=⟨hz,h⟩
theorem c4v(h:Q (.int (if i<0 then -i else i)) H):b7L [.int i] H Q:=h
theorem c5r(hs:b1p x y=true)(h:Q (.bl (decide (x=y))) H):qEq x y H Q:=⟨_,if_pos hs,h⟩
theorem c5p(hs:b1p x y=true)(h:Q (.bl (!decide (x=y))) H):qNe x y H Q:=⟨_,if_pos hs,h⟩
theorem c0O(ha:H a=some (.lst xs))(hb:H b=some (.lst ys))(fx:xs.all E5=true)(fy:ys.all E5=true):eqO (.ref a) (.ref b) H=some (a0A xs ys):=by
 unfold eqO
 rw[if_neg (by intro z;cases z)]
 simp only[ha,hb]
 rw[if_pos ⟨fx,fy⟩]
theorem c4q(hp:H p=some (.lst xs))(hx:E5 x=true)(ha:xs.all E5=true)(h:Q (.bl (inV x xs)) H):qIn false x (.ref p) H Q:=by
 unfold qIn
 cases x <;> first | (simp only[hp];exact⟨hx,ha,h⟩) | cases hx
theorem b4v(hp:H p=some (.tup xs))(hx:E5 x=true)(ha:xs.all E5=true)(h:Q (.bl (inV x xs)) H):qIn false x (.ref p) H Q:=by
 unfold qIn
 cases x <;> first | (simp only[hp];exact⟨hx,ha,h⟩) | cases hx
theorem c1W(hp:H p=some (.lst xs))(hx:E5 x=true)(ha:xs.all E5=true)(h:Q (.bl (!inV x xs)) H):qIn true x (.ref p) H Q:=by
 unfold qIn
 cases x <;> first | (simp only[hp];exact⟨hx,ha,h⟩) | cases hx
theorem a1h{l:Addr}(hp:H l=some (.lst xs))(hl:xs.length<g9)(h:Q .non (upd H l (.lst (xs++[y])))):X9 (.ref l) [y] H Q:=by
 unfold X9
 simp only[hp]
 exact⟨hl,h⟩
theorem c1r{lo hi:Option Int}(ha:H a=some (.tup xs))(hw:¬(HT.sIx xs.length 0 lo=0/\HT.sIx xs.length xs.length hi=xs.length))(h:∀p H',H p=none->H' p=some (.tup (a1r xs lo hi))->o6 H H'->Q (.ref p) H'):qSl (.ref a) lo hi H Q:=by
 unfold qSl
 simp only[ha]
 exact⟨hw,fun p hp=>h p _ hp c5 (o5 hp)⟩
theorem c4n{lo hi:Option Int}(ha:H a=some (.lst xs))(h:∀p H',H p=none->H' p=some (.lst (a1r xs lo hi))->o6 H H'->Q (.ref p) H'):qSl (.ref a) lo hi H Q:=by
 unfold qSl
 simp only[ha]
 exact fun p hp=>h p _ hp c5 (o5 hp)
theorem a1z{s c:String}(e:Y4 x H=some s)(hc:c∈a6d)(h:Q (.bl (a4B s c)) H):a2R [x,.ty c] H Q:=⟨s,e,hc,h⟩
theorem a9U{s:Str}{l:Addr}{ss:List Str}(hp:H l=some (.lst xs))(e:a1d xs=some ss)(hl:(ss.map (·.length)).sum+ss.length * s.length<=16777216)(h:Q (.str (Txt.join s ss)) H):a1Z (.str s) [.ref l] H Q:=by
 unfold a1Z
 simp only[hp]
 exact⟨ss,e,hl,h⟩
end
section
variable {K:Fg}
theorem a0L{lo:Int}(Pv:Nat->List V->Hp->Prop)(h0:Pv 0 [] (upd H1 D (.lst [])))(hP:∀i ys H,Pv i ys H->H D=some (.lst ys))
  (step:∀i ys H2,i<n->Pv i ys H2->∀R:VK,(∀y H5,H5 D=some (.lst ys)->ys.length<g9->Pv (i+1) (ys++[y]) (upd H5 D (.lst (ys++[y])))->R y H5)->te (some (.int (lo+i))::σ) H2 R)
  (done:∀ys H2,Pv n ys H2->QD H2) :
  ∃W:Nat->Nat->List V->Hp->Prop,(∃m,W 0 m [] (upd H1 D (.lst [])))/\∀i m ys H2,W i m ys H2->H2 D=some (.lst ys) /\
   (((Itr lo n).stop i H2 /\ QD H2) \/ ((Itr lo n).go i H2 /\ ∀ x H3,(Itr lo n).yld i H2 x H3 -> L7 (some x :: σ) H3 fun ok H4 => if ok = true then
     te (some x::σ) H4 (fun y H5=>H5 D=some (.lst ys)/\ys.length<g9/\∃m',m'<m/\W (i+1) m' (ys++[y]) (upd H5 D (.lst (ys++[y]))))
     else ∃m',m'<m/\W (i+1) m' ys H4)):=by
 refine⟨fun i m ys H=>m=n - i/\i<=n/\Pv i ys H,⟨n,rfl,J8 _,h0⟩,?_⟩
 rintro i m ys H2 ⟨rfl,hi,p⟩
 refine⟨hP i ys H2 p,?_⟩
 by_cases hlt:i<n
 ·refine .inr ⟨hlt,fun x H3 y=>?_⟩
  obtain⟨e,y⟩:=y
  subst e y
  refine b2T ?_
  rw[if_pos rfl]
  exact step i ys _ hlt p _ fun y H5 h1 h2 h3=>⟨h1,h2,n - (i+1),by omega,rfl,hlt,h3⟩
 ·have e:i=n:=by omega
  subst e
  exact .inl ⟨d5 _,done ys H2 p⟩
theorem U0(Pv:Nat->List V->Hp->Prop)(h0:Pv 0 [] (upd H1 D (.lst [])))(hP:∀i ys H,Pv i ys H->H D=some (.lst ys))(hl:∀i ys H,i<=xs.length->Pv i ys H->SqL K H a xs)
  (step:∀i x ys H2,xs[i]? = some x->Pv i ys H2->∀R:VK,(∀y H5,H5 D=some (.lst ys)->ys.length<g9->Pv (i+1) (ys++[y]) (upd H5 D (.lst (ys++[y])))->R y H5)->te (some x::σ) H2 R)
  (done:∀ys H2,Pv xs.length ys H2->QD H2) :
  ∃W:Nat->Nat->List V->Hp->Prop,(∃m,W 0 m [] (upd H1 D (.lst [])))/\∀i m ys H2,W i m ys H2->H2 D=some (.lst ys) /\
   (((Itl K a).stop i H2 /\ QD H2) \/ ((Itl K a).go i H2 /\ ∀ x H3,(Itl K a).yld i H2 x H3 -> L7 (some x :: σ) H3 fun ok H4 => if ok = true then
     te (some x::σ) H4 (fun y H5=>H5 D=some (.lst ys)/\ys.length<g9/\∃m',m'<m/\W (i+1) m' (ys++[y]) (upd H5 D (.lst (ys++[y]))))
     else ∃m',m'<m/\W (i+1) m' ys H4)):=by
 refine⟨fun i m ys H=>m=xs.length - i/\i<=xs.length/\Pv i ys H,⟨xs.length,rfl,J8 _,h0⟩,?_⟩
 rintro i m ys H2 ⟨rfl,hi,p⟩
 refine⟨hP i ys H2 p,?_⟩
 have q:=hl i ys H2 hi p
 by_cases hlt:i<xs.length
 ·refine .inr ⟨⟨xs,xs[i],q,by simp[hlt]⟩,fun x H3 y=>?_⟩
  obtain⟨e,y⟩:=y
  subst e
  refine b2T ?_
  rw[if_pos rfl]
  exact step i x ys _ (y xs q) p _ fun y H5 h1 h2 h3=>⟨h1,h2,xs.length - (i+1),by omega,rfl,hlt,h3⟩
 ·have e:i=xs.length:=by omega
  subst e
  exact .inl ⟨⟨xs,q,d5 _⟩,done ys H2 p⟩
theorem O5{wi:TI}(h:wi σ H1 fun J H1=>∀D,H1 D=none->∃W:Nat->Nat->List V->Hp->Prop,
 (∃m,W 0 m [] (upd H1 D (.lst [])))/\∀i m ys H2,W i m ys H2->H2 D=some (.lst ys) /\
  ((J.stop i H2 /\ Q (.ref D) H2) \/ (J.go i H2 /\ ∀ x H3,J.yld i H2 x H3 -> tt (some x :: σ) H3 fun ok H4 => if ok = true then
    te (some x::σ) H4 (fun y H5=>H5 D=some (.lst ys)/\ys.length<g9/\∃m',m'<m/\W (i+1) m' (ys++[y]) (upd H5 D (.lst (ys++[y]))))
    else ∃m',m'<m/\W (i+1) m' ys H4))):M4 wi tt te σ H1 Q:=h
theorem Y5{ta:TA}(h:ta σ H1 fun vs H2=>∃j:Int,vs=[.int j] /\ -(2 ^ 62)<=j/\j<2 ^ 62/\R (Itr 0 j.toNat) H2):a0c ta σ H1 R:=h
theorem U6(h:ta σ H1 fun x H2=>∃a,x=.ref a/\(∃xs,SqL K H2 a xs)/\R (Itl K a) H2):T8 K ta σ H1 R:=h
theorem a0s{wi:TI}{g:TG}{tb:TS}{D:a8w}(h:wi σ H1 fun J H1=>∃W:Nat->Nat->St->Hp->Prop,(∃m,W 0 m σ H1)/\∀i m σ H,W i m σ H ->
 (J.stop i H/\D.nx σ H)\/(J.go i H/\∃N:St->Hp->Prop,(∀σ' H',N σ' H'->∃m',m'<m/\W (i+1) m' σ' H')/\∀x H',J.yld i H x H'->g x σ H' fun σ2 H2=>tb { D with nx:=N,ct:=N,bk:=D.nx } σ2 H2)):a1o wi g tb D σ H1:=h
end
def Q9(H H':Hp):Prop:=∀a xs,H a=some (.tup xs)->H' a=some (.tup xs)
theorem Q9.put(h:H p=some (.lst ys)):Q9 H (upd H p o):=fun a xs e=>by
 rw[c9 (L3 e h (by intro z;cases z))];exact e
theorem o6.ts(s:o6 H H'):Q9 H H':=fun a xs h=>s a _ h
theorem w4.ts(k:w4 b H H')(hB:Bag H b c):Q9 H H':=fun a xs h=>by
 obtain⟨ys,hb⟩:=hB.lst
 exact k.tup hb h
def OpV(v:V):Prop:=(∃s,v=.str s)\/∃n:Int,v=.int n/\0<=n/\n<1000000000000
def c3A(H:Hp)(p:Addr):Prop:=∃k v1 v2,H p=some (.tup [.str k,v1,v2])/\OpV v1/\OpV v2/\k∈(["plus","minus","times","less","same"]:List Str)
inductive a9s(H:Hp):List V->Prop
 | set (n:Str) (p:Addr):c3A H p->a9s H [.str "set",.str n,.ref p]
 | copy (n:Str) (v:V):OpV v->a9s H [.str "copy",.str n,v]
 | take (n:Str):a9s H [.str "take",.str n]
 | tell (v:V):OpV v->a9s H [.str "tell",v]
 | ask (v:V):OpV v->a9s H [.str "ask",v]
 | skip:a9s H [.str "skip"]
structure c5F(H:Hp)(a:Addr):Prop where
 ex:∃ss:List Str,H a=some (.lst (ss.map V.str))/\ss≠[]/\ss.length<=8
theorem small(h:n<=100000):n<=g9:=v9 h (by rw[a2e];decide)
theorem E8(h:n<100000):n<g9:=p9 h (by rw[a2e];decide)
theorem F9{c:Bool}{A B:Prop}(hc:c=true)(h:A):if c=true then A else B:=by rw[if_pos hc];exact h
theorem A8{c:Bool}{A B:Prop}(hc:c=false)(h:B):if c=true then A else B:=by rw[hc];exact L2.c3l h
section
variable {t u:TS}{D:a8w}{tb tc to ti:TE}{tu:TT}{tr:TA}{QB:Bool->Hp->Prop}{QA:List V->Hp->Prop}{x y:V}{i j:Int}{K:Fg}
theorem b7t(h:∀p H',H p=none->H' p=some (.dK [])->o6 H H'->Q (.ref p) H'):a7F σ H Q:=fun p hp=>h p _ hp c5 (o5 hp)
theorem b7u(h:ti σ H fun y H1=>to σ H1 fun x H2=>∃a o,x=.ref a/\a8W H2 a y o/\Q (.bl o.isSome) H2):a9F ti to σ H Q:=h
theorem a7S(h:ti σ H fun y H1=>to σ H1 fun x H2=>∃a o,x=.ref a/\a8W H2 a y o/\Q (.bl (!o.isSome)) H2):a3z ti to σ H Q:=h
theorem b2Y(h:te σ H fun v H1=>to σ H1 fun x H2=>ti σ H2 fun y H3=>∃a H4,x=.ref a/\b4b H3 a y v H4/\D.nx σ H4):a5d to ti te D σ H:=h
theorem a6u{f:Str}(h:ta σ H fun x H1=>∃a C dx fs v,x=.ref a/\H1 a=some (.ins C dx fs)/\Cls K C/\a1l K C f/\fs.lookup f=some v/\Q v H1):a7E K ta f σ H Q:=h
theorem b2V{f:Str}(h:te σ H fun y H1=>ta σ H1 fun x H2=>∃a C dx fs,x=.ref a/\H2 a=some (.ins C dx fs)/\Cls K C/\a1l K C f/\fs.length<1000/\D.nx σ (upd H2 a (.ins C dx (a1q f y fs)))):b5s K ta te f D σ H:=h
theorem c1M{m:Str}{sp:Sp}{E:XK}(h:ta σ H fun x H1=>∃a dx fs,x=.ref a/\H1 a=some (.ins C dx fs)/\fs.lookup m=none/\tr σ H1 fun vs H2=>sp (x::(vs++[])) H2 Q E):b1l C m sp [] E ta tr σ H Q:=h
theorem b7q{sp:Sp}{E:XK}(h:tr σ H fun vs H1=>∀x dx,H1 x=none->H1 dx=none->dx≠x ->
 sp (.ref x::(vs++[])) (upd (upd H1 dx (.own x)) x (.ins C dx [])) (fun v H2=>v=.non/\Q (.ref x) H2) E):a7D C sp [] E tr σ H Q:=h
theorem c4g(h:to σ H fun x H1=>tyV K "list" x H1/\f x [] H1 Q):b9p K "list" f to σ H Q:=h
theorem a2i(h:H p=some (.lst xs)):tyV K "list" (.ref p) H:=.inl ⟨rfl,xs,SqL.of h⟩
theorem a7a{a b:Nat}{QS:St->Hp->Prop}(hp:SqT K H p [x,y])(h:QS ((σ.set a (some x)).set b (some y)) H):b2b K 2 (a1D (o0 a) (a1D (o0 b) b2c)) (.ref p) σ H QS:=
 ⟨p,_,rfl,hp,rfl,_,_,rfl,_,_,rfl,rfl,h⟩
theorem a6Z(h:tr σ H fun vs H1=>∃a,vs=[.ref a]/\(∃xs,SqL K H1 a xs)/\R (Ite K a) H1):a8l K tr σ H R:=h
theorem b7r(h:tr σ H fun vs H1=>∃a b,vs=[.ref a,.ref b]/\(∃xs,SqL K H1 a xs)/\(∃xs,SqL K H1 b xs)/\R (Itz K a b) H1):b8w K tr σ H R:=h
theorem b9B(h:∃W:Nat->St->Hp->Prop,(∃m,W m σ H)/\∀m σ H,W m σ H ->
 tt σ H fun b H1=>if b=true then ∃N:St->Hp->Prop,(∀σ' H',N σ' H'->∃m',m'<m/\W m' σ' H')/\t { D with nx:=N,ct:=N,bk:=D.nx } σ H1 else D.nx σ H1):a9E tt t D σ H:=h
theorem c1J(h:te σ H fun v H1=>D.nx (σ.set n (some v)) H1):(fun D σ H=>te σ H fun v H1=>(D:a8w).nx (σ.set n (some v)) H1:TS) D σ H:=h
theorem a7c{wi:TI}(h:wi σ H1 fun J H1=>∀D,H1 D=none->∃W:Nat->Nat->List V->Hp->Prop,
 (∃m,W 0 m [] (upd H1 D (.lst [])))/\∀i m ys H2,W i m ys H2->H2 D=some (.lst ys) /\
  ((J.stop i H2 /\ Q (.ref D) H2) \/ (J.go i H2 /\ ∀ x H3,J.yld i H2 x H3 -> ∃ a u v,x = .ref a /\ SqT K H3 a [u,v] /\ tt (some u :: some v :: σ) H3 fun ok H4 => if ok = true then
    te (some u::some v::σ) H4 (fun y H5=>H5 D=some (.lst ys)/\ys.length<g9/\∃m',m'<m/\W (i+1) m' (ys++[y]) (upd H5 D (.lst (ys++[y]))))
    else ∃m',m'<m/\W (i+1) m' ys H4))):a2j K wi tt te σ H1 Q:=h
theorem c3q{J:It}{D:Addr}(n:Nat)(Pv:Nat->List V->Hp->Prop)(h0:Pv 0 [] (upd H1 D (.lst [])))(hP:∀i ys H,Pv i ys H->H D=some (.lst ys))(stop:∀ys H,Pv n ys H->J.stop n H/\QD H)(go:∀i ys H,i<n->Pv i ys H->J.go i H)
  (step:∀i ys H2,i<n->Pv i ys H2->∀x H3,J.yld i H2 x H3->∀(R:VK) (S:Hp->Prop),(∀y H5,H5 D=some (.lst ys)->ys.length<g9->Pv (i+1) (ys++[y]) (upd H5 D (.lst (ys++[y])))->R y H5)->(∀H4,Pv (i+1) ys H4->S H4) ->
   tt (some x::σ) H3 fun ok H4=>if ok=true then te (some x::σ) H4 R else S H4) :
  ∃W:Nat->Nat->List V->Hp->Prop,(∃m,W 0 m [] (upd H1 D (.lst [])))/\∀i m ys H2,W i m ys H2->H2 D=some (.lst ys) /\
   ((J.stop i H2 /\ QD H2) \/ (J.go i H2 /\ ∀ x H3,J.yld i H2 x H3 -> tt (some x :: σ) H3 fun ok H4 => if ok = true then
     te (some x::σ) H4 (fun y H5=>H5 D=some (.lst ys)/\ys.length<g9/\∃m',m'<m/\W (i+1) m' (ys++[y]) (upd H5 D (.lst (ys++[y]))))
     else ∃m',m'<m/\W (i+1) m' ys H4)):=by
 refine⟨fun i m ys H=>m=n - i/\i<=n/\Pv i ys H,⟨n,rfl,J8 _,h0⟩,?_⟩
 rintro i m ys H2 ⟨rfl,hi,p⟩
 refine⟨hP i ys H2 p,?_⟩
 by_cases hlt:i<n
 ·exact .inr ⟨go i ys H2 hlt p,fun x H3 hy=>step i ys H2 hlt p x H3 hy _ _ (fun y H5 h1 h2 h3=>⟨h1,h2,n - (i+1),by omega,rfl,hlt,h3⟩) fun H4 h4=>⟨n - (i+1),by omega,rfl,hlt,h4⟩⟩
 ·have e:i=n:=by omega
  subst e
  exact .inl (stop ys H2 p)
theorem b0r{J:It}{D:Addr}(n:Nat)(Pv:Nat->List V->Hp->Prop)(h0:Pv 0 [] (upd H1 D (.lst [])))(hP:∀i ys H,Pv i ys H->H D=some (.lst ys))(stop:∀ys H,Pv n ys H->J.stop n H/\QD H)(go:∀i ys H,i<n->Pv i ys H->J.go i H)
  (step:∀i ys H2,i<n->Pv i ys H2->∀x H3,J.yld i H2 x H3->∃a u v,x=.ref a/\SqT K H3 a [u,v]/\∀(R:VK) (S:Hp->Prop),(∀y H5,H5 D=some (.lst ys)->ys.length<g9->Pv (i+1) (ys++[y]) (upd H5 D (.lst (ys++[y])))->R y H5)->(∀H4,Pv (i+1) ys H4->S H4) ->
   tt (some u::some v::σ) H3 fun ok H4=>if ok=true then te (some u::some v::σ) H4 R else S H4) :
  ∃W:Nat->Nat->List V->Hp->Prop,(∃m,W 0 m [] (upd H1 D (.lst [])))/\∀i m ys H2,W i m ys H2->H2 D=some (.lst ys) /\
   ((J.stop i H2 /\ QD H2) \/ (J.go i H2 /\ ∀ x H3,J.yld i H2 x H3 -> ∃ a u v,x = .ref a /\ SqT K H3 a [u,v] /\ tt (some u :: some v :: σ) H3 fun ok H4 => if ok = true then
     te (some u::some v::σ) H4 (fun y H5=>H5 D=some (.lst ys)/\ys.length<g9/\∃m',m'<m/\W (i+1) m' (ys++[y]) (upd H5 D (.lst (ys++[y]))))
     else ∃m',m'<m/\W (i+1) m' ys H4)):=by
 refine⟨fun i m ys H=>m=n - i/\i<=n/\Pv i ys H,⟨n,rfl,J8 _,h0⟩,?_⟩
 rintro i m ys H2 ⟨rfl,hi,p⟩
 refine⟨hP i ys H2 p,?_⟩
 by_cases hlt:i<n
 ·refine .inr ⟨go i ys H2 hlt p,fun x H3 hy=>?_⟩
  obtain⟨a,u,v,e,hs,st⟩:=step i ys H2 hlt p x H3 hy
  exact⟨a,u,v,e,hs,st _ _ (fun y H5 h1 h2 h3=>⟨h1,h2,n - (i+1),by omega,rfl,hlt,h3⟩) fun H4 h4=>⟨n - (i+1),by omega,rfl,hlt,h4⟩⟩
 ·have e:i=n:=by omega
  subst e
  exact .inl (stop ys H2 p)
theorem b8B{J:It}{g:TG}{tb:TS}(n:Nat)(Pv:Nat->St->Hp->Prop)(h0:Pv 0 σ H)(stop:∀σ H,Pv n σ H->J.stop n H/\D.nx σ H)(go:∀i σ H,i<n->Pv i σ H->J.go i H)
  (hs:∀i σ H,i<n->Pv i σ H->∀x H',J.yld i H x H'->g x σ H' fun σ2 H2=>tb { D with nx:=Pv (i+1),ct:=Pv (i+1),bk:=D.nx } σ2 H2) :
  ∃W:Nat->Nat->St->Hp->Prop,(∃m,W 0 m σ H)/\∀i m σ H,W i m σ H ->
   (J.stop i H/\D.nx σ H)\/(J.go i H/\∃N:St->Hp->Prop,(∀σ' H',N σ' H'->∃m',m'<m/\W (i+1) m' σ' H')/\∀x H',J.yld i H x H'->g x σ H' fun σ2 H2=>tb { D with nx:=N,ct:=N,bk:=D.nx } σ2 H2):=by
 refine⟨fun i m σ H=>m=n - i/\i<=n/\Pv i σ H,⟨n,rfl,J8 _,h0⟩,?_⟩
 rintro i m σ H ⟨rfl,hi,p⟩
 by_cases hlt:i<n
 ·exact .inr ⟨go i σ H hlt p,Pv (i+1),fun σ' H' p'=>⟨n - (i+1),by omega,rfl,hlt,p'⟩,fun x H' hy=>hs i σ H hlt p x H' hy⟩
 ·have e:i=n:=by omega
  subst e
  exact .inl (stop σ H p)
theorem c4p(h:Q (.int (if j<i then j else i)) H):b7I [.int i,.int j] H Q:=h
theorem a6B(bs:List Bool):M7 (bs.map V.bl)=some bs:=by
 induction bs with
 | nil=>rfl
 | cons s r ih=>simp[M7,ih]
theorem c4s{l:Addr}{bs:List Bool}(hl:H l=some (.lst (bs.map V.bl)))(h:Q (.bl (bs.any id)) H):b3e [.ref l] H Q:=by
 unfold b3e
 simp only[hl]
 exact⟨bs,a6B bs,h⟩
theorem c4t{l:Addr}{bs:List Bool}(hl:H l=some (.lst (bs.map V.bl)))(h:Q (.bl (bs.all id)) H):a6K [.ref l] H Q:=by
 unfold a6K
 simp only[hl]
 exact⟨bs,a6B bs,h⟩
theorem a5f{l:Addr}{zs:List V}(hl:H l=some (.lst xs))(hb:H b=some (.lst zs))(hz:xs.length+zs.length<=g9)(h:Q .non (upd H l (.lst (xs++zs)))):a1A (.ref l) [.ref b] H Q:=by
 unfold a1A
 simp only[hl,hb]
 exact⟨hz,h⟩
theorem c4o{l:Addr}(hl:H l=some (.lst (xs++[y])))(h:Q y (upd H l (.lst xs))):b5v (.ref l) [] H Q:=by
 unfold b5v
 simp only[hl]
 refine⟨y,by simp,?_⟩
 simpa using h
theorem a9T(hp:H p=some (.lst ys))(h:∀l H',H l=none->H' l=some (.lst ys)->o6 H H'->Q (.ref l) H'):a6v [.ref p] H Q:=by
 unfold a6v
 simp only[hp]
 exact fun l hl=>h l _ hl c5 (o5 hl)
end
def IL(l:List Nat):List V:=l.map fun(n:Nat)=>V.int (n:Int)
theorem M3(l:List Nat):(IL l).length=l.length:=by simp[IL]
theorem b4P(l:List Nat):(IL l).all E5=true:=by
 rw[v7]
 intro x hx
 obtain⟨s,_,rfl⟩:=A0.mp hx
 rfl
def KS(ks:List Nat):List (Key×V):=ks.map fun(k:Nat)=>(Sum.inl (k:Int),V.bl true)
theorem b8R(ks:List Nat)(k:Nat):(a6H (KS ks) (Sum.inl (k:Int))).isSome=decide (k∈ks):=by
 induction ks with
 | nil=>rfl
 | cons a r ih=>
  by_cases e:a=k
  ·subst e
   rw[show KS (a::r)=(Sum.inl (a:Int),V.bl true)::KS r from rfl,a4Q rfl]
   simp
  ·rw[show KS (a::r)=(Sum.inl (a:Int),V.bl true)::KS r from rfl,a4R (by intro z;have:=Sum.inl.inj z;exact e (by omega)),ih]
   have:(k∈a::r)↔k∈r:=by
    rw[c7]
    exact⟨fun h=>h.elim (fun z=>absurd z.symm e) id,.inr⟩
   simp[this]
def a3i(ks:List Nat)(k:Nat):List Nat:=if k∈ks then ks else ks++[k]
theorem c3y(ks:List Nat)(k:Nat):a3h (KS ks) (Sum.inl (k:Int)) (V.bl true)=KS (a3i ks k):=by
 unfold a3h a3i
 rw[a7v,b8R]
 by_cases h:k∈ks
 ·rw[if_pos (c6G h),if_pos h]
  unfold KS
  rw[R5]
  apply b8X
  intro a _
  show(if(Sum.inl (a:Int):Key)=Sum.inl (k:Int)then ((Sum.inl (a:Int):Key),V.bl true)else ((Sum.inl (a:Int):Key),V.bl true))=_
  split <;> rfl
 ·rw[if_neg (by simpa using h),if_neg h]
  simp[KS]
theorem V9{k j:Nat}:j∈a3i ks k↔j∈ks\/j=k:=by
 unfold a3i
 split
 ·rename_i h
  exact⟨.inl,fun q=>q.elim id fun z=>z ▸ h⟩
 ·simp
theorem a7d{k:Nat}(h:ks.Nodup):(a3i ks k).Nodup:=by
 unfold a3i
 split
 ·exact h
 ·rename_i hk
  rw[c1c]
  exact⟨h,by simp,fun a ha b hb=>by rw[j3.mp hb];intro z;exact hk (z ▸ ha)⟩
theorem c3z(ks:List Nat):(KS ks).length=ks.length:=by simp[KS]
theorem a8f:∀(n:Nat) (ks:List Nat),ks.Nodup->(∀k∈ks,k<n)->ks.length<=n:=by
 intro n
 induction n with
 | zero=>
  intro ks _ h
  cases ks with
  | nil=>exact d5 _
  | cons a r=>exact absurd (h a y0) (Nat.not_lt_zero _)
 | succ n ih=>
  intro ks nd h
  by_cases hn:n∈ks
  ·have:=ih (ks.erase n) (nd.erase n) fun k hk=>by
    have h1:=(List.Nodup.mem_erase_iff nd).mp hk
    have:=h k h1.2
    have:=h1.1
    omega
   rw[b2x hn]at this
   omega
  ·have:=ih ks nd fun k hk=>by
    have:=h k hk
    have:k≠n:=fun z=>hn (z ▸ hk)
    omega
   omega
theorem a3K(h:H d=some (.dK (KS ks)))(k:Nat):∃o,a8W H d (.int (k:Int)) o/\o.isSome=decide (k∈ks):=⟨_,a8W.k (k:=Sum.inl (k:Int)) h,b8R ks k⟩
theorem b0p(h:H d=some (.dK (KS ks)))(hl:ks.length<100000)(k:Nat):b4b H d (.int (k:Int)) (.bl true) (upd H d (.dK (KS (a3i ks k)))):=by
 rw[<-c3y]
 exact b4b.k (k:=Sum.inl (k:Int)) h (E8 (by rw[c3z];exact hl))
end RD
namespace RD
variable{C D a b c d dx na p ra x:Addr}{H H' H0 H1:Hp}{o:HO}{ws xs ys:List V}{σ:St}{ta te:TE}{tt:TT}{Q:VK}{v w:V}{i m n t:Nat}{f:V->List V->Hp->VK->Prop}{z:Str}{ks l:List Nat}{QD:Hp->Prop}{R:It->Hp->Prop}{M N:Nt}{ns:List Int}{as rs:List Addr}{Ws:List (List V)}
theorem b8m:∀(l m:List Nat),l.Nodup->(∀x∈l,x∈m)->l.length<=m.length
 | [],_,_,_=>J8 _
 | a::r,m,nd,h=>by
  have ha:=h a y0
  have:=b8m r (m.erase a) (V3.mp nd).2 fun x hx=>(List.mem_erase_of_ne (show x≠a from fun z=>(V3.mp nd).1 (z ▸ hx))).mpr (h x (t8 _ hx))
  rw[b2x ha]at this
  have:=b4R ha
  rw[q9]
  omega
inductive Gd(N:Nt):Nat->Prop
 | stop {k:Nat}:N[k]? = some []->Gd N k
 | step {k t:Nat} {l:List Nat}:N[k]? = some l->t∈l->Gd N t->Gd N k
inductive Rc(N:Nt):Nat->Prop
 | zero:Rc N 0
 | step {k t:Nat} {l:List Nat}:Rc N k->N[k]? = some l->t∈l->Rc N t
structure a0g(N:Nt):Prop where
 pos:0<N.length
 le:N.length<=400
 two:∀l∈N,l.length<=2
 lt:∀l∈N,∀t∈l,t<N.length
 rc:∀k,k<N.length->Rc N k
 gd:∀k,k<N.length->Gd N k
def a1C(N:Nt)(G:List Nat):List (List Nat):=(D9 N.length).map fun k=>if k∈G then N.getD k [] else (N.length - 1)::(N.getD k []).drop 1
theorem a9h(N:Nt)(G:List Nat):(a1C N G).length=N.length:=by simp[a1C]
theorem a8h{G:List Nat}{k:Nat}(h:k<N.length):(a1C N G)[k]? = some (if k∈G then N.getD k [] else (N.length - 1)::(N.getD k []).drop 1):=by
 unfold a1C
 rw[b7,Y9 h]
 rfl
theorem a5j{G:List Nat}{k:Nat}(h:N[k]? = some l)(hk:k∈G):(a1C N G)[k]? = some l:=by
 have hl:=(i9.mp h).1
 rw[a8h hl,if_pos hk]
 simp[N4,h]
theorem a9g{G:List Nat}{k:Nat}(h:N[k]? = some l)(hk:¬k∈G):(a1C N G)[k]? = some ((N.length - 1)::l.drop 1):=by
 have hl:=(i9.mp h).1
 rw[a8h hl,if_neg hk]
 simp[N4,h]
theorem c0M{G:List Nat}(hG:∀k∈G,Gd N k)(hl:N[N.length - 1]? = some [])(hm:N.length - 1∈G):∀k,k<N.length->Gd (a1C N G) k:=by
 have last:Gd (a1C N G) (N.length - 1):=.stop (a5j hl hm)
 have out:∀k,k<N.length->¬k∈G->Gd (a1C N G) k:=fun k hk h=>.step (a9g (l:=N[k]) (by simp) h) y0 last
 have go:∀k,Gd N k->Gd (a1C N G) k:=by
  intro k h
  induction h with
  | @stop k h=>
   by_cases hk:k∈G
   ·exact .stop (a5j h hk)
   ·exact out k (i9.mp h).1 hk
  | @step k t l h ht _ ih=>
   by_cases hk:k∈G
   ·exact .step (a5j h hk) ht ih
   ·exact out k (i9.mp h).1 hk
 intro k hk
 by_cases h:k∈G
 ·exact go k (hG k h)
 ·exact out k hk h
theorem b1T{G:List Nat}(hp:0<N.length)(hs:∀l∈N,l.length<=2/\∀t∈l,t<N.length)(hl:N[N.length - 1]? = some [])(hm:N.length - 1∈G):∀l∈a1C N G,l.length<=2/\∀t∈l,t<N.length:=by
 intro l hl'
 obtain⟨k,hk⟩:=L5.mp hl'
 have hkl:k<N.length:=by have:=(i9.mp hk).1;rwa [a9h]at this
 rw[a8h hkl]at hk
 have e:N.getD k []=N[k]:=by simp[N4,hkl]
 rw[e]at hk
 obtain⟨h1,h2⟩:=hs N[k] (C0 _)
 by_cases hg:k∈G
 ·rw[if_pos hg]at hk
  cases hk
  exact⟨h1,h2⟩
 ·rw[if_neg hg]at hk
  cases hk
  refine⟨?_,fun t ht=>?_⟩
  ·rw[q9,a0T];omega
  ·rcases c7.mp ht with z | z
   ·omega
   ·exact h2 t (List.drop_subset _ _ z)
def a4j(N:Nt)(O:List Nat):List (List Nat):=O.map fun k=>(N.getD k []).map fun t=>O.idxOf t
theorem b8u{O:List Nat}(h:t∈O):O.idxOf t<O.length:=b2y.mpr h
theorem a9G{O:List Nat}{k:Nat}(hk:k∈O)(h:N[k]? = some l):(a4j N O)[O.idxOf k]? = some (l.map fun t=>O.idxOf t):=by
 unfold a4j
 have:O[O.idxOf k]? = some k:=by
  rw[c6 (b8u hk)]
  simp
 rw[b7,this]
 simp[N4,h]
theorem b3H{O:List Nat}(h0:0∈O)(hs:O.Pairwise (· <= ·)):O.idxOf 0=0:=by
 cases O with
 | nil=>cases h0
 | cons a r=>
  have:a=0:=by
   rcases c7.mp h0 with z | z
   ·exact z.symm
   ·have:=(List.pairwise_cons.mp hs).1 0 z
    omega
  subst this
  simp
theorem b5i{O:List Nat}(h0:0∈O)(hs:O.Pairwise (· <= ·))(hnd:O.Nodup)(hlt:∀k∈O,k<N.length)(hN:N.length<=400)(hcl:∀k∈O,∀l,N[k]? = some l->∀t∈l,t∈O)(hrc:∀k∈O,Rc N k)
  (hsm:∀l∈N,l.length<=2) (hgd:∀k,k<N.length->Gd N k):a0g (a4j N O):=by
 have hlen:(a4j N O).length=O.length:=by simp[a4j]
 have rc:∀k,Rc N k->k∈O/\Rc (a4j N O) (O.idxOf k):=by
  intro k h
  induction h with
  | zero=>
   refine⟨h0,?_⟩
   rw[b3H h0 hs]
   exact .zero
  | @step k t l _ hl ht ih=>
   obtain⟨i1,i2⟩:=ih
   exact⟨hcl k i1 l hl t ht,.step i2 (a9G i1 hl) (A0.mpr ⟨t,ht,rfl⟩)⟩
 have gd:∀k,Gd N k->k∈O->Gd (a4j N O) (O.idxOf k):=by
  intro k h
  induction h with
  | @stop k h=>
   intro hk
   exact .stop (by rw[a9G hk h];rfl)
  | @step k t l h ht _ ih=>
   intro hk
   exact .step (a9G hk h) (A0.mpr ⟨t,ht,rfl⟩) (ih (hcl k hk l h t ht))
 have at_:∀i,i<O.length->∃k∈O,O.idxOf k=i:=fun i hi=>⟨O[i],C0 _,hnd.idxOf_getElem i hi⟩
 have mem:∀l∈a4j N O,∃k∈O,∃l',N[k]? = some l'/\l=l'.map fun t=>O.idxOf t:=by
  intro l hl
  obtain⟨k,hk,rfl⟩:=A0.mp hl
  refine⟨k,hk,N[k]'(hlt k hk),by simp[hlt k hk],?_⟩
  simp[N4,hlt k hk]
 refine⟨?_,?_,fun l hl=>?_,fun l hl t ht=>?_,fun i hi=>?_,fun i hi=>?_⟩
 ·rw[hlen]
  exact b4R h0
 ·rw[hlen]
  exact v9 (a8f _ _ hnd hlt) hN
 ·obtain⟨k,hk,l',e,rfl⟩:=mem l hl
  rw[a9]
  exact hsm l' (X3 e)
 ·obtain⟨k,hk,l',e,rfl⟩:=mem l hl
  obtain⟨t',ht',rfl⟩:=A0.mp ht
  rw[hlen]
  exact b8u (hcl k hk l' e t' ht')
 ·rw[hlen]at hi
  obtain⟨k,hk,rfl⟩:=at_ i hi
  exact(rc k (hrc k hk)).2
 ·rw[hlen]at hi
  obtain⟨k,hk,rfl⟩:=at_ i hi
  exact gd k (hgd k (hlt k hk)) hk
end RD
namespace RD
open PySem PySem.Spec PyProof.Rows L2
variable{C D a b c d dx na p ra x:Addr}{H H' H0 H1:Hp}{o:HO}{ws xs ys:List V}{σ:L2.St}{ta te:TE}{tt:TT}{Q:VK}{v w:V}{i m n t:Nat}{f:V->List V->Hp->VK->Prop}{z:Str}{ks l:List Nat}{QD:Hp->Prop}{R:It->Hp->Prop}{M N:Nt}{ns:List Int}{as rs:List Addr}{Ws:List (List V)}
structure Cn where
 K7:Addr
 a2K:Addr
 a0m:Addr
structure a6R(K:Fg)(c:Cn):Prop where
 U4:Cls K c.K7
 Y1:a1l K c.K7 "entries"
 Q8:a1l K c.K7 "nexts"
 W7:a1l K c.K7 "rows"
 b0M:∀H,SqT K H c.a2K [.str "plus",.str "minus",.str "times",.str "less",.str "same"]
 a5y:∀H,SqT K H c.a0m [.int (-1),.int (0)]
 c1f:IsC K c.K7
def spD(n m:Nat)(t:TS):Sp:=fun vs H Q _=>vs.length=n/\t { nx:=fun _ H'=>Q .non H',rt:=Q } (vs.map some++v5 (m - vs.length) none) H
def c1m(K:Fg):TS:=G9 (S3 (a8 (tC (.int 0)) (a8 (tC (.int 1234567891)) (a8 (tC (.int 0)) (a8 (M4 (T8 K (tSl (c1V K) (b6 0) a0B (a4c (tC (.int 63))))) L7 (tCB b7L (a8 (b6 0) c8))) c8)))))
def a9J(K:Fg):Sp:=spD 1 1 (c1m K)
def b6W(K:Fg):TS:=t6 (L4 (A7 (tOp qEq (tOp qIx (b6 0) (tC (.int 0))) (tC (.int 0)))) (t6 (D8 (tC (.int 12345)) (o0 2)) (t6 (L4 (A7 (tOp qLt (tOp qIx (b6 0) (tC (.int 2))) (tCB O9 (a8 (tOp qIx (b6 0) (tC (.int 3))) c8)))) (t6 (D8 (tOp qIx (tOp qIx (b6 0) (tC (.int 3))) (tOp qIx (b6 0) (tC (.int 2)))) (o0 3)) (t6 (b4o (b6 0) (tC (.int 2)) (tC (.int 1)) b5w (ipI fun i j=>i+j) a6J) (t6 (L4 (A7 (tOp qGe (b6 3) (tC (.int 1000000000000000000)))) (D8 (b6 3) (b3F (b6 0) (tC (.int 0)) a6J)) C6) (D8 (tOp Z0 (tOp a7V (b6 3) (tC (.int 2147483647))) (tC (.int 1))) (o0 2))))) C6) (D8 (tOp a7V (tOp Z0 (tOp b1C (tOp qIx (b6 0) (tC (.int 1))) (tC (.int 48271))) (b6 2)) (tC (.int 2147483647))) (b3F (b6 0) (tC (.int 1)) a6J)))) C6) (t6 (L4 (A7 (tOp qGt (tOp qIx (b6 0) (tC (.int 0))) (tC (.int 0)))) (t6 (D8 (tOp a7V (tOp qIx (b6 0) (tC (.int 0))) (b6 1)) (o0 4)) (t6 (D8 (tOp b9I (tOp qIx (b6 0) (tC (.int 0))) (b6 1)) (b3F (b6 0) (tC (.int 0)) a6J)) (G9 (b6 4)))) C6) (t6 (D8 (tOp a7V (tOp b1C (tOp qIx (b6 0) (tC (.int 1))) (tC (.int 39373))) (tC (.int 1000000007))) (o0 5)) (t6 (D8 (tOp a7V (tOp b1C (b6 5) (tC (.int 30011))) (tC (.int 998244353))) (o0 6)) (t6 (L4 (A7 (tOp qGt (b6 1) (tC (.int 1000000)))) (G9 (tOp a7V (tOp Z0 (tOp b1C (b6 6) (tC (.int 1000000000))) (b6 5)) (b6 1))) C6) (G9 (tOp a7V (tOp b9I (b6 6) (tC (.int 3))) (b6 1)))))))
def C9(K:Fg):Sp:=spD 2 7 (b6W K)
def c1l(K:Fg):TS:=t6 (D8 (S3 c8) (o0 2)) (t6 (a1o (a0c (a8 (b6 1) c8)) (o0 3) (t6 (D8 (tCB b7I (a8 (tOp Z0 (b6 3) (tC (.int 1))) (a8 (tOp b3d (b6 1) (tC (.int 1))) c8))) (o0 4)) (t6 (D8 (S3 (a8 (b6 4) (a8 (o9 (C9 K) [] E0 (a8 (b6 0) (a8 (b6 1) c8))) c8))) (o0 5)) (t6 (D8 (o9 (C9 K) [] E0 (a8 (b6 0) (a8 (tC (.int 8)) c8))) (o0 6)) (t6 (L4 (A7 (tOp qLt (b6 6) (tC (.int 3)))) (D8 (S3 (a8 (tOp qIx (b6 5) (tC (.int 1))) (a8 (b6 4) c8))) (o0 5)) C6) (t6 (L4 (A7 (tOp qEq (b6 6) (tC (.int 3)))) (D8 (S3 (a8 (tOp qIx (b6 5) (tC (.int 1))) (a8 (o9 (C9 K) [] E0 (a8 (b6 0) (a8 (b6 1) c8))) c8))) (o0 5)) C6) (t6 (L4 (tOr (b2I (A7 (tOp qGt (b6 6) (tC (.int 3)))) (A7 (tOp qLt (b6 6) (tC (.int 7))))) (A7 (tOp qEq (b6 1) (tC (.int 1))))) (D8 (S3 (a8 (b6 4) c8)) (o0 5)) C6) (t6 (L4 (b2I (A7 (tOp qEq (b6 6) (tC (.int 7)))) (A7 (tOp qGt (b6 1) (tC (.int 1))))) (D8 (S3 (a8 (tOp qIx (b6 5) (tC (.int 1))) c8)) (o0 5)) C6) (t6 (L4 (tOr (A7 (tOp qEq (b6 3) (tOp b3d (b6 1) (tC (.int 1))))) (b2I (A7 (tOp qEq (b6 6) (tC (.int 6)))) (A7 (tOp qEq (o9 (C9 K) [] E0 (a8 (b6 0) (a8 (tC (.int 4)) c8))) (tC (.int 0)))))) (D8 (S3 c8) (o0 5)) C6) (Z7 (tBM K "list" X9 (b6 2) (a8 (b6 5) c8)))))))))))) (G9 (b6 2)))
def a9I(K:Fg):Sp:=spD 2 7 (c1l K)
def b1i(K:Fg):TS:=t6 (D8 a7F (o0 1)) (t6 (a1o (a0c (a8 (tCB O9 (a8 (b6 0) c8)) c8)) (o0 2) (a1o (a0c (a8 (tCB O9 (a8 (b6 0) c8)) c8)) (o0 3) (L4 (tOr (A7 (tOp qEq (tOp qIx (b6 0) (b6 3)) (S3 c8))) (tB (tCB b3e (a8 (M4 (T8 K (tOp qIx (b6 0) (b6 3))) L7 (a9F (b6 0) (b6 2))) c8)))) (a5d (b6 1) (b6 3) (tC (.bl true))) C6))) (t6 (D8 (M4 (a0c (a8 (tCB O9 (a8 (b6 0) c8)) c8)) L7 (tIf (tB (a9F (b6 0) (b6 2))) (tOp qIx (b6 1) (b6 0)) (tOp Z0 (S3 (a8 (tOp b3d (tCB O9 (a8 (b6 1) c8)) (tC (.int 1))) c8)) (tSl qSl (tOp qIx (b6 1) (b6 0)) (a4c (tC (.int 1))) a0B)))) (o0 0)) (t6 (D8 (b7c ((tC (.int 0),tC (.bl true))::[])) (o0 4)) (t6 (a1o (a0c (a8 (tCB O9 (a8 (b6 0) c8)) c8)) (o0 2) (a1o (a0c (a8 (tCB O9 (a8 (b6 0) c8)) c8)) (o0 3) (L4 (tB (a9F (b6 3) (b6 4))) (a1o (T8 K (tOp qIx (b6 0) (b6 3))) (o0 5) (a5d (b6 4) (b6 5) (tC (.bl true)))) C6))) (t6 (D8 (tCB a3H (a8 (tCB a5S (a8 (b6 4) c8)) c8)) (o0 6)) (G9 (M4 (T8 K (b6 6)) L7 (M4 (T8 K (tOp qIx (b6 1) (b6 0))) L7 (tBM K "list" a5T (b6 8) (a8 (b6 0) c8))))))))))
def a3C(K:Fg):Sp:=spD 1 7 (b1i K)
def b6Y(K:Fg):TS:=t6 (D8 (tC (.str "abcdefghijklmnopqrstuvwxyz")) (o0 1)) (t6 (D8 (tOp Z0 (b6 1) (tC (.str "0123456789"))) (o0 2)) (G9 (tOp Z0 (tOp qIx (b6 1) (o9 (C9 K) [] E0 (a8 (b6 0) (a8 (tC (.int 26)) c8)))) (tBM K "str" a1Z (tC (.str "")) (a8 (M4 (a0c (a8 (o9 (C9 K) [] E0 (a8 (b6 0) (a8 (tC (.int 8)) c8))) c8)) L7 (tOp qIx (b6 3) (o9 (C9 K) [] E0 (a8 (b6 1) (a8 (tC (.int 36)) c8))))) c8)))))
def a6V(K:Fg):Sp:=spD 1 3 (b6Y K)
def b4k(K:Fg):TS:=t6 (D8 (S3 (a8 (tC (.str "a")) (a8 (tC (.str "k0")) (a8 (tC (.str "ab")) (a8 (tC (.str "set")) (a8 (tC (.str "abc")) (a8 (tC (.str "k1")) (a8 (tC (.str "abcdefgh")) (a8 (tC (.str "b")) c8))))))))) (o0 1)) (t6 (D8 (tOp Z0 (b6 1) (S3 (a8 (tC (.str "ask")) (a8 (tC (.str "x9")) (a8 (tC (.str "a1")) (a8 (tC (.str "abcdefg")) (a8 (tC (.str "plus")) (a8 (tC (.str "ba")) (a8 (tC (.str "k10")) (a8 (tC (.str "z")) c8)))))))))) (o0 1)) (t6 (D8 (o9 (C9 K) [] E0 (a8 (b6 0) (a8 (tC (.int 16)) c8))) (o0 2)) (t6 (D8 (tOp Z0 (tC (.int 1)) (tOp b1C (tC (.int 2)) (o9 (C9 K) [] E0 (a8 (b6 0) (a8 (tC (.int 8)) c8))))) (o0 3)) (t6 (D8 (S3 c8) (o0 4)) (t6 (a1o (a0c (a8 (tOp Z0 (tC (.int 2)) (o9 (C9 K) [] E0 (a8 (b6 0) (a8 (tC (.int 3)) c8)))) c8)) (o0 5) (t6 (D8 (tOp qIx (b6 1) (tOp a7V (tOp Z0 (b6 2) (tOp b1C (b6 5) (b6 3))) (tC (.int 16)))) (o0 6)) (t6 (L4 (A7 (tOp qEq (o9 (C9 K) [] E0 (a8 (b6 0) (a8 (tC (.int 3)) c8))) (tC (.int 0)))) (D8 (o9 (a6V K) [] E0 (a8 (b6 0) c8)) (o0 6)) C6) (L4 (A7 (tOp (qIn true) (b6 6) (b6 4))) (Z7 (tBM K "list" X9 (b6 4) (a8 (b6 6) c8))) C6)))) (G9 (b6 4)))))))
def a3e(K:Fg):Sp:=spD 1 7 (b4k K)
def b4i(K:Fg):TS:=G9 (tOp qIx (S3 (a8 (tC (.int 0)) (a8 (tC (.int 1)) (a8 (tOp b3d (tOp b3d (tOp c1Y (tC (.int 10)) (tC (.int 12))) (tC (.int 1))) (o9 (C9 K) [] E0 (a8 (b6 0) (a8 (tC (.int 3)) c8)))) (a8 (o9 (C9 K) [] E0 (a8 (b6 0) (a8 (tC (.int 1000000000000)) c8))) c8))))) (o9 (C9 K) [] E0 (a8 (b6 0) (a8 (tC (.int 4)) c8))))
def a4W(K:Fg):Sp:=spD 1 1 (b4i K)
def a9c(K:Fg):TS:=t6 (L4 (A7 (tOp qEq (o9 (C9 K) [] E0 (a8 (b6 0) (a8 (tC (.int 4)) c8))) (tC (.int 0)))) (G9 (o9 (a4W K) [] E0 (a8 (b6 0) c8))) C6) (G9 (tOp qIx (b6 1) (o9 (C9 K) [] E0 (a8 (b6 0) (a8 (tCB O9 (a8 (b6 1) c8)) c8)))))
def V7(K:Fg):Sp:=spD 2 2 (a9c K)
def b7b(K:Fg):TS:=t6 (D8 (tOp qIx (S3 (a8 (tC (.str "plus")) (a8 (tC (.str "minus")) (a8 (tC (.str "times")) (a8 (tC (.str "less")) (a8 (tC (.str "same")) c8)))))) (o9 (C9 K) [] E0 (a8 (b6 0) (a8 (tC (.int 5)) c8)))) (o0 2)) (t6 (D8 (o9 (V7 K) [] E0 (a8 (b6 0) (a8 (b6 1) c8))) (o0 3)) (t6 (D8 (o9 (V7 K) [] E0 (a8 (b6 0) (a8 (b6 1) c8))) (o0 4)) (t6 (L4 (A7 (tOp qEq (o9 (C9 K) [] E0 (a8 (b6 0) (a8 (tC (.int 6)) c8))) (tC (.int 0)))) (D8 (b6 3) (o0 4)) C6) (G9 (a2Q (a8 (b6 2) (a8 (b6 3) (a8 (b6 4) c8))))))))
def a4X(K:Fg):Sp:=spD 2 5 (b7b K)
def c1k(K:Fg):TS:=t6 (L4 (A7 (tOp qEq (b6 3) (tC (.int 2)))) (G9 (a2Q (a8 (tC (.str "ask")) (a8 (o9 (V7 K) [] E0 (a8 (b6 0) (a8 (b6 1) c8))) c8)))) C6) (t6 (D8 (o9 (C9 K) [] E0 (a8 (b6 0) (a8 (tC (.int 8)) c8))) (o0 4)) (t6 (D8 (tOp qIx (b6 1) (o9 (C9 K) [] E0 (a8 (b6 0) (a8 (tCB O9 (a8 (b6 1) c8)) c8)))) (o0 5)) (t6 (L4 (A7 (tOp qLt (b6 4) (tC (.int 5)))) (G9 (a2Q (a8 (tC (.str "set")) (a8 (b6 5) (a8 (tOp qIx (b6 2) (o9 (C9 K) [] E0 (a8 (b6 0) (a8 (tCB O9 (a8 (b6 2) c8)) c8)))) c8))))) C6) (t6 (L4 (A7 (tOp qEq (b6 4) (tC (.int 5)))) (G9 (a2Q (a8 (tC (.str "copy")) (a8 (b6 5) (a8 (o9 (V7 K) [] E0 (a8 (b6 0) (a8 (b6 1) c8))) c8))))) C6) (t6 (L4 (A7 (tOp qEq (b6 4) (tC (.int 6)))) (G9 (a2Q (a8 (tC (.str "take")) (a8 (b6 5) c8)))) C6) (G9 (tOp qIx (S3 (a8 (a2Q (a8 (tC (.str "tell")) (a8 (o9 (V7 K) [] E0 (a8 (b6 0) (a8 (b6 1) c8))) c8))) (a8 (a2Q (a8 (tC (.str "skip")) c8)) c8))) (o9 (C9 K) [] E0 (a8 (b6 0) (a8 (tC (.int 2)) c8))))))))))
def a7J(K:Fg):Sp:=spD 4 6 (c1k K)
def b4l(K:Fg):TS:=t6 (D8 (tOp Z0 (tC (.int 1)) (o9 (C9 K) [] E0 (a8 (b6 0) (a8 (tC (.int 9)) c8)))) (o0 1)) (t6 (L4 (A7 (tOp qEq (o9 (C9 K) [] E0 (a8 (b6 0) (a8 (tC (.int 8)) c8))) (tC (.int 0)))) (D8 (tOp Z0 (tC (.int 15)) (o9 (C9 K) [] E0 (a8 (b6 0) (a8 (tC (.int 10)) c8)))) (o0 1)) C6) (t6 (D8 (o9 (a3C K) [] E0 (a8 (o9 (a9I K) [] E0 (a8 (b6 0) (a8 (b6 1) c8))) c8)) (o0 2)) (t6 (D8 (o9 (a3e K) [] E0 (a8 (b6 0) c8)) (o0 3)) (t6 (D8 (M4 (a0c (a8 (tOp Z0 (tC (.int 1)) (o9 (C9 K) [] E0 (a8 (b6 0) (a8 (tC (.int 3)) c8)))) c8)) L7 (o9 (a4X K) [] E0 (a8 (b6 1) (a8 (b6 4) c8)))) (o0 4)) (G9 (a2Q (a8 (M4 (T8 K (b6 2)) L7 (o9 (a7J K) [] E0 (a8 (b6 1) (a8 (b6 4) (a8 (b6 5) (a8 (tCB O9 (a8 (b6 0) c8)) c8)))))) (a8 (b6 2) c8))))))))
def a3f(K:Fg):Sp:=spD 1 5 (b4l K)
def b4m(K:Fg):TS:=t6 (D8 (o9 (a3e K) [] E0 (a8 (b6 0) c8)) (o0 1)) (t6 (D8 (S3 (a8 (o9 (a4X K) [] E0 (a8 (b6 0) (a8 (b6 1) c8))) c8)) (o0 2)) (t6 (D8 (M4 (a0c (a8 (tC (.int 5)) c8)) L7 (o9 (a7J K) [] E0 (a8 (b6 1) (a8 (b6 2) (a8 (b6 3) (a8 (tC (.int 1)) c8)))))) (o0 3)) (G9 (a2Q (a8 (M4 (a0c (a8 (tC (.int 400)) c8)) L7 (tOp qIx (b6 4) (tOp a7V (b6 0) (tC (.int 5))))) (a8 (tOp Z0 (M4 (a0c (a8 (tC (.int 399)) c8)) L7 (S3 (a8 (tOp Z0 (b6 0) (tC (.int 1))) c8))) (S3 (a8 (S3 c8) c8))) c8))))))
def a4Y(K:Fg):Sp:=spD 1 4 (b4m K)
def b6Z(K:Fg):TS:=t6 (D8 (tOp Z0 (S3 (a8 (tOp qIx (b6 0) (tC (.int 0))) c8)) (M4 (b3C K (tSl qSl (b6 0) (a4c (tC (.int 1))) a0B)) L7 (tCB a1Y (a8 (b6 0) c8)))) (o0 2)) (t6 (L4 (A7 (tOp qEq (tOp qIx (b6 0) (tC (.int 0))) (tC (.str "set")))) (D8 (S3 (a8 (tC (.str "set")) (a8 (tOp qIx (b6 0) (tC (.int 1))) (a8 (tOp qIx (tOp qIx (b6 0) (tC (.int 2))) (tC (.int 0))) (a8 (tCB a1Y (a8 (tOp qIx (tOp qIx (b6 0) (tC (.int 2))) (tC (.int 1))) c8)) (a8 (tCB a1Y (a8 (tOp qIx (tOp qIx (b6 0) (tC (.int 2))) (tC (.int 2))) c8)) c8)))))) (o0 2)) C6) (t6 (L4 (A7 (tOp qEq (tCB O9 (a8 (b6 1) c8)) (tC (.int 1)))) (D8 (tOp Z0 (b6 2) (S3 (a8 (tC (.str ">")) (a8 (tCB a1Y (a8 (tOp qIx (b6 1) (tC (.int 0))) c8)) c8)))) (o0 2)) C6) (t6 (L4 (A7 (tOp qEq (tCB O9 (a8 (b6 1) c8)) (tC (.int 2)))) (D8 (tOp Z0 (b6 2) (S3 (a8 (tC (.str ">")) (a8 (tCB a1Y (a8 (tOp qIx (b6 1) (tC (.int 0))) c8)) (a8 (tCB a1Y (a8 (tOp qIx (b6 1) (tC (.int 1))) c8)) c8))))) (o0 2)) C6) (G9 (tBM K "str" a1Z (tC (.str " ")) (a8 (b6 2) c8))))))
def a6W(K:Fg):Sp:=spD 2 3 (b6Z K)
def b6V(K:Fg):TS:=G9 (tBM K "str" a1Z (tC (.str "; ")) (a8 (M4 (a0c (a8 (tCB O9 (a8 (b6 0) c8)) c8)) L7 (o9 (a6W K) [] E0 (a8 (tOp qIx (b6 1) (b6 0)) (a8 (tOp qIx (b6 2) (b6 0)) c8)))) c8))
def a6T(K:Fg):Sp:=spD 2 2 (b6V K)
def a7x(K:Fg):TS:=t6 (D8 (S3 c8) (o0 1)) (t6 (a1o (b3C K (b6 0)) (o0 2) (Z7 (tBM K "list" b4w (b6 1) (a8 (tIf (tB (tCB a2R (a8 (b6 2) (a8 (tC (.ty "tuple")) c8)))) (b6 2) (S3 (a8 (b6 2) c8))) c8)))) (G9 (b6 1)))
def a1s(K:Fg):Sp:=spD 1 3 (a7x K)
def a4a(K:Fg):TS:=t6 (D8 (o9 (a1s K) [] E0 (a8 (b6 0) c8)) (o0 2)) (t6 (L4 (A7 (tOp qGt (tCB O9 (a8 (b6 1) c8)) (tC (.int 0)))) (t6 (Z7 (tBM K "list" X9 (b6 2) (a8 (tC (.str ">")) c8))) (Z7 (tBM K "list" b4w (b6 2) (a8 (b6 1) c8)))) C6) (G9 (tBM K "str" a1Z (tC (.str " ")) (a8 (M4 (T8 K (b6 2)) L7 (tCB a1Y (a8 (b6 0) c8))) c8))))
def Z9(K:Fg):Sp:=spD 2 3 (a4a K)
def b4j(K:Fg):TS:=G9 (tBM K "str" a1Z (tC (.str "; ")) (a8 (a2j K (b8w K (a8 (a7E K (b6 0) "rows") (a8 (a7E K (b6 0) "nexts") c8))) L7 (o9 (Z9 K) [] E0 (a8 (b6 0) (a8 (b6 1) c8)))) c8))
def a1W(K:Fg):Sp:=spD 1 1 (b4j K)
def a7y(K:Fg):TS:=t6 (L4 (b2I (A7 (a2k qLt qLe (tC (.int 0)) (tCB O9 (a8 (b6 0) c8)) (tCB O9 (a8 (tCB a1Y (a8 (tC (.int 1000000000000)) c8)) c8)))) (tB (tCB a6K (a8 (M4 (b8x (b6 0)) L7 (tOp (qIn false) (b6 0) (tC (.str "0123456789")))) c8)))) (G9 (tCB b7K (a8 (b6 0) c8))) C6) (G9 (b6 0))
def a0J(K:Fg):Sp:=spD 1 1 (a7y K)
def b1h(K:Fg):TS:=t6 (L4 (A7 (tOp qEq (tCB O9 (a8 (b6 0) c8)) (tC (.int 5)))) (G9 (a2Q (a8 (tOp qIx (b6 0) (tC (.int 0))) (a8 (tOp qIx (b6 0) (tC (.int 1))) (a8 (tCB a2u (a8 (tSl qSl (b6 0) (a4c (tC (.int 2))) a0B) c8)) c8))))) C6) (G9 (tCB a2u (a8 (b6 0) c8)))
def a3B(K:Fg):Sp:=spD 1 1 (b1h K)
def a3d(K:Fg):TS:=t6 (L4 (tOr (a4i (tB (tCB a2R (a8 (b6 0) (a8 (tC (.ty "list")) c8))))) (A7 (tOp qLt (tCB O9 (a8 (b6 0) c8)) (b6 2)))) (fun _ _ _=>False) C6) (L4 (A7 (tOp qGt (tCB O9 (a8 (b6 0) c8)) (tC (.int 400)))) (fun _ _ _=>False) C6)
def X8(K:Fg):Sp:=spD 3 3 (a3d K)
def a5J(K:Fg):TS:=t6 (L4 (tOr (a4i (tB (tCB a2R (a8 (b6 0) (a8 (tC (.ty "str")) c8))))) (a4i (A7 (a2k qLe qLe (tC (.int 1)) (tCB O9 (a8 (b6 0) c8)) (tC (.int 8)))))) (G9 (tC (.bl false))) C6) (G9 (a0q (tOp (qIn false) (tOp qIx (b6 0) (tC (.int 0))) (tC (.str "abcdefghijklmnopqrstuvwxyz"))) (tCB a6K (a8 (M4 (b8x (b6 0)) L7 (tOp (qIn false) (b6 0) (tOp Z0 (tC (.str "abcdefghijklmnopqrstuvwxyz")) (tC (.str "0123456789"))))) c8))))
def T0(K:Fg):Sp:=spD 1 1 (a5J K)
def b2G(K:Fg):TS:=G9 (a0q (tCB a2R (a8 (b6 0) (a8 (tC (.ty "int")) c8))) (b1k (tCB a2R (a8 (b6 0) (a8 (tC (.ty "bool")) c8)))))
def a0K(K:Fg):Sp:=spD 1 1 (b2G K)
def a7B(K:Fg):TS:=G9 (a0q (o9 (a0K K) [] E0 (a8 (b6 0) c8)) (a2k qLe qLt (tC (.int 0)) (b6 0) (tC (.int 1000000000000))))
def a1v(K:Fg):Sp:=spD 1 1 (a7B K)
def a4S(K:Fg):TS:=G9 (b9o (o9 (T0 K) [] E0 (a8 (b6 0) c8)) (o9 (a1v K) [] E0 (a8 (b6 0) c8)))
def Q7(K:Fg):Sp:=spD 1 1 (a4S K)
def a9d(K:Fg)(c:Cn):TS:=t6 (L4 (tOr (a4i (tB (tCB a2R (a8 (b6 0) (a8 (tC (.ty "tuple")) c8))))) (A7 (tOp qNe (tCB O9 (a8 (b6 0) c8)) (tC (.int 3))))) (G9 (tC (.bl false))) C6) (G9 (a0q (tOp (c1Z K) (tOp qIx (b6 0) (tC (.int 0))) (tC (.ref c.a2K))) (a0q (o9 (Q7 K) [] E0 (a8 (tOp qIx (b6 0) (tC (.int 1))) c8)) (o9 (Q7 K) [] E0 (a8 (tOp qIx (b6 0) (tC (.int 2))) c8)))))
def a2n(K:Fg)(c:Cn):Sp:=spD 1 1 (a9d K c)
def b1j(K:Fg)(c:Cn):TS:=t6 (L4 (tOr (a4i (tB (tCB a2R (a8 (b6 0) (a8 (tC (.ty "tuple")) c8))))) (A7 (tOp qEq (tCB O9 (a8 (b6 0) c8)) (tC (.int 0))))) (G9 (tC (.bl false))) C6) (t6 (D8 (tOp qIx (b6 0) (tC (.int 0))) (o0 1)) (t6 (D8 (tSl qSl (b6 0) (a4c (tC (.int 1))) a0B) (o0 2)) (t6 (L4 (A7 (tOp qEq (b6 1) (tC (.str "set")))) (G9 (a0q (tOp qEq (tCB O9 (a8 (b6 2) c8)) (tC (.int 2))) (a0q (o9 (T0 K) [] E0 (a8 (tOp qIx (b6 2) (tC (.int 0))) c8)) (o9 (a2n K c) [] E0 (a8 (tOp qIx (b6 2) (tC (.int 1))) c8))))) C6) (t6 (L4 (A7 (tOp qEq (b6 1) (tC (.str "copy")))) (G9 (a0q (tOp qEq (tCB O9 (a8 (b6 2) c8)) (tC (.int 2))) (a0q (o9 (T0 K) [] E0 (a8 (tOp qIx (b6 2) (tC (.int 0))) c8)) (o9 (Q7 K) [] E0 (a8 (tOp qIx (b6 2) (tC (.int 1))) c8))))) C6) (t6 (L4 (A7 (tOp qEq (b6 1) (tC (.str "take")))) (G9 (a0q (tOp qEq (tCB O9 (a8 (b6 2) c8)) (tC (.int 1))) (o9 (T0 K) [] E0 (a8 (tOp qIx (b6 2) (tC (.int 0))) c8)))) C6) (t6 (L4 (A7 (tOp (qIn false) (b6 1) (a2Q (a8 (tC (.str "tell")) (a8 (tC (.str "ask")) c8))))) (G9 (a0q (tOp qEq (tCB O9 (a8 (b6 2) c8)) (tC (.int 1))) (o9 (Q7 K) [] E0 (a8 (tOp qIx (b6 2) (tC (.int 0))) c8)))) C6) (G9 (a0q (tOp qEq (b6 1) (tC (.str "skip"))) (tOp qEq (tCB O9 (a8 (b6 2) c8)) (tC (.int 0)))))))))))
def a3D(K:Fg)(c:Cn):Sp:=spD 1 3 (b1j K c)
def a4U(K:Fg):TS:=a1o (a8l K (a8 (b6 0) c8)) (b2b K 2 (a1D (o0 1) (a1D (o0 2) (b2c)))) (L4 (a4i (tB (b6 2))) (fun _ _ _=>False) C6)
def X4(K:Fg):Sp:=spD 1 3 (a4U K)
def a7C(K:Fg):TS:=G9 (a0q (o9 (a0K K) [] E0 (a8 (b6 0) c8)) (a2k qLe qLt (tC (.int 0)) (b6 0) (b6 1)))
def a1w(K:Fg):Sp:=spD 2 2 (a7C K)
def a6r(K:Fg):TS:=t6 (L4 (a4i (tB (tCB a2R (a8 (b6 1) (a8 (tC (.ty "list")) c8))))) (G9 (tC (.bl false))) C6) (t6 (D8 (tIf (A7 (tOp qEq (tOp qIx (b6 0) (tC (.int 0))) (tC (.str "ask")))) (a2Q (a8 (tC (.int 2)) c8)) (a2Q (a8 (tC (.int 0)) (a8 (tC (.int 1)) c8)))) (o0 3)) (G9 (a0q (tOp (qIn false) (tCB O9 (a8 (b6 1) c8)) (b6 3)) (tCB a6K (a8 (M4 (T8 K (b6 1)) L7 (o9 (a1w K) [] E0 (a8 (b6 0) (a8 (b6 3) c8)))) c8)))))
def a0U(K:Fg):Sp:=spD 3 4 (a6r K)
def a4b(K:Fg):TS:=t6 (L4 (tOr (a4i (tB (tCB a2R (a8 (b6 1) (a8 (tC (.ty "list")) c8))))) (A7 (tOp qNe (tCB O9 (a8 (b6 1) c8)) (tCB O9 (a8 (b6 0) c8))))) (fun _ _ _=>False) C6) (Z7 (o9 (X4 K) [] E0 (a8 (a2j K (b8w K (a8 (b6 0) (a8 (b6 1) c8))) L7 (o9 (a0U K) [] E0 (a8 (b6 0) (a8 (b6 1) (a8 (tCB O9 (a8 (b6 2) c8)) c8))))) c8)))
def a0a(K:Fg):Sp:=spD 2 2 (a4b K)
def a9a(K:Fg):TS:=t6 (D8 a7F (o0 2)) (t6 (D8 (tCB a6v (a8 (b6 0) c8)) (o0 3)) (t6 (a9E (A7 (tOp qGt (tCB O9 (a8 (b6 3) c8)) (tC (.int 0)))) (t6 (D8 (b9p K "list" b5v (b6 3)) (o0 4)) (L4 (tB (a3z (b6 4) (b6 2))) (t6 (a5d (b6 2) (b6 4) (tC (.bl true))) (Z7 (tBM K "list" a1A (b6 3) (a8 (tOp qIx (b6 1) (b6 4)) c8)))) C6))) (G9 (b6 2))))
def a1f(K:Fg):Sp:=spD 2 5 (a9a K)
def b1g(K:Fg):TS:=t6 (fun D σ H=>(M4 (T8 K (b6 0)) L7 (S3 c8)) σ H fun v H1=>D.nx (σ.set 1 (some v)) H1) (t6 (a1o (a8l K (a8 (b6 0) c8)) (b2b K 2 (a1D (o0 2) (a1D (o0 3) (b2c)))) (a1o (T8 K (b6 3)) (o0 4) (Z7 (tBM K "list" X9 (tOp qIx (b6 1) (b6 4)) (a8 (b6 2) c8))))) (G9 (b6 1)))
def a3A(K:Fg):Sp:=spD 1 5 (b1g K)
def a7z(K:Fg):TS:=G9 (a2j K (a8l K (a8 (b6 0) c8)) (A7 (tOp qEq (tCB O9 (a8 (b6 1) c8)) (tC (.int 0)))) (b6 0))
def a1t(K:Fg):Sp:=spD 1 1 (a7z K)
def a4T(K:Fg):TS:=t6 (D8 (o9 (a1f K) [] E0 (a8 (S3 (a8 (tC (.int 0)) c8)) (a8 (b6 0) c8))) (o0 1)) (t6 (D8 (o9 (a1f K) [] E0 (a8 (o9 (a1t K) [] E0 (a8 (b6 0) c8)) (a8 (o9 (a3A K) [] E0 (a8 (b6 0) c8)) c8))) (o0 2)) (a1o (a0c (a8 (tCB O9 (a8 (b6 0) c8)) c8)) (o0 3) (L4 (tOr (tB (a3z (b6 3) (b6 1))) (tB (a3z (b6 3) (b6 2)))) (fun _ _ _=>False) C6)))
def a0C(K:Fg):Sp:=spD 1 4 (a4T K)
def a7A(K:Fg)(c:Cn):TS:=t6 (D8 (S3 (a8 (tC (.ref c.a0m)) c8)) (o0 1)) (t6 (a1o (a8l K (a8 (b6 0) c8)) (b2b K 2 (a1D (o0 2) (a1D (o0 3) (b2c)))) (Z7 (tBM K "list" a1A (b6 1) (a8 (M4 (a0c (a8 (tCB O9 (a8 (b6 3) c8)) c8)) L7 (a2Q (a8 (b6 3) (a8 (b6 0) c8)))) c8)))) (G9 (b6 1)))
def a1u(K:Fg)(c:Cn):Sp:=spD 1 4 (a7A K c)
def a2L(K:Fg)(c:Cn):TS:=t6 (L4 (A7 (tOp (c2a K) (b6 1) (tC (.ref c.a0m)))) (G9 (tC (.int 0))) C6) (G9 (tOp qIx (tOp qIx (a7E K (b6 0) "nexts") (tOp qIx (b6 1) (tC (.int 0)))) (tOp qIx (b6 1) (tC (.int 1)))))
def W5(K:Fg)(c:Cn):Sp:=spD 2 2 (a2L K c)
def a6s(K:Fg)(c:Cn):TS:=t6 (Z7 (o9 (X8 K) [] E0 (a8 (b6 1) (a8 (tC (.int 0)) (a8 (tC (.int 1)) c8))))) (t6 (Z7 (o9 (X4 K) [] E0 (a8 (M4 (T8 K (b6 1)) L7 (o9 (a3D K c) [] E0 (a8 (b6 0) c8))) c8))) (t6 (Z7 (o9 (a0a K) [] E0 (a8 (b6 1) (a8 (b6 2) c8)))) (t6 (Z7 (o9 (a0C K) [] E0 (a8 (b6 2) c8))) (t6 (b5s K (b6 0) (tCB a6v (a8 (b6 1) c8)) "rows") (t6 (b5s K (b6 0) (M4 (T8 K (b6 2)) L7 (tCB a6v (a8 (b6 0) c8))) "nexts") (t6 (b5s K (b6 0) (M4 (T8 K (b6 1)) L7 (S3 c8)) "entries") (a1o (T8 K (o9 (a1u K c) [] E0 (a8 (a7E K (b6 0) "nexts") c8))) (o0 3) (Z7 (tBM K "list" X9 (tOp qIx (a7E K (b6 0) "entries") (b1l c.K7 "leads_to" (W5 K c) [] E0 (b6 0) (a8 (b6 3) c8))) (a8 (b6 3) c8))))))))))
def a0b(K:Fg)(c:Cn):Sp:=spD 3 4 (a6s K c)
def a9b(K:Fg)(c:Cn):TS:=t6 (D8 (S3 c8) (o0 1)) (t6 (D8 (S3 c8) (o0 2)) (t6 (a1o (T8 K (tBM K "str" a7U (b6 0) (a8 (tC (.str "; ")) c8))) (o0 3) (t6 (fun D σ H=>(M4 (T8 K (tBM K "str" a7U (b6 3) (a8 (tC (.str " ")) c8))) L7 (o9 (a0J K) [] E0 (a8 (b6 0) c8))) σ H fun v H1=>D.nx (σ.set 4 (some v)) H1) (t6 (D8 (tIf (A7 (tOp (qIn false) (tC (.str ">")) (b6 4))) (tBM K "list" a9V (b6 4) (a8 (tC (.str ">")) c8)) (tCB O9 (a8 (b6 4) c8))) (o0 5)) (t6 (Z7 (tBM K "list" X9 (b6 1) (a8 (o9 (a3B K) [] E0 (a8 (tSl qSl (b6 4) a0B (a4c (b6 5))) c8)) c8))) (Z7 (tBM K "list" X9 (b6 2) (a8 (tSl qSl (b6 4) (a4c (tOp Z0 (b6 5) (tC (.int 1)))) a0B) c8))))))) (G9 (a7D c.K7 (a0b K c) [] E0 (a8 (b6 1) (a8 (b6 2) c8))))))
def a2m(K:Fg)(c:Cn):Sp:=spD 1 6 (a9b K c)
def b6X(K:Fg)(c:Cn):TS:=t6 (L4 (a4i (tB (tCB a2R (a8 (b6 0) (a8 (tC (.ty "str")) c8))))) (fun _ _ _=>False) C6) (t6 (D8 (o9 (a2m K c) [] E0 (a8 (b6 0) c8)) (o0 1)) (t6 (L4 (tOr (A7 (tOp qIs (b6 1) (tC .non))) (A7 (tOp qNe (o9 (a1W K) [] E0 (a8 (b6 1) c8)) (b6 0)))) (fun _ _ _=>False) C6) (G9 (b6 1))))
def a6U(K:Fg)(c:Cn):Sp:=spD 1 2 (b6X K c)
def b4n(K:Fg)(c:Cn):TS:=t6 (L4 (tOr (a4i (tB (tCB (b7J K) (a8 (b6 0) (a8 (tC (.ref c.K7)) c8))))) (tOr (A7 (tOp (b9H K) (a7E K (b6 0) "rows") (b6 1))) (A7 (tOp (b9H K) (a7E K (b6 0) "nexts") (b6 2))))) (G9 (tC (.bl false))) C6) (t6 (a1o (T8 K (a7E K (b6 0) "rows")) (o0 3) (a1o (b3C K (b6 3)) (o0 4) (L4 (tB (tCB a2R (a8 (b6 4) (a8 (tC (.ty "bool")) c8)))) (G9 (tC (.bl false))) C6))) (G9 (tC (.bl true))))
def a4Z(K:Fg)(c:Cn):Sp:=spD 3 5 (b4n K c)
def b7a(K:Fg)(c:Cn):TS:=t6 (D8 (o9 (a9J K) [] E0 (a8 (b6 0) c8)) (o0 1)) (t6 (D8 (S3 (a8 (o9 (a3f K) [] E0 (a8 (b6 1) c8)) (a8 (o9 (a3f K) [] E0 (a8 (b6 1) c8)) c8))) (o0 2)) (t6 (L4 (A7 (tOp qEq (o9 (C9 K) [] E0 (a8 (b6 1) (a8 (tC (.int 16)) c8))) (tC (.int 0)))) (D8 (o9 (a4Y K) [] E0 (a8 (b6 1) c8)) (b3F (b6 2) (tC (.int 0)) a6J)) C6) (t6 (fun D σ H=>(a2j K (T8 K (b6 2)) L7 (a7D c.K7 (a0b K c) [] E0 (a8 (b6 0) (a8 (b6 1) c8)))) σ H fun v H1=>D.nx (σ.set 3 (some v)) H1) (t6 (a1o (b3C K (a2Q (a8 (tC (.int 0)) (a8 (tC (.int 1)) (a8 (tC (.int 0)) c8))))) (o0 4) (t6 (D8 (tOp qIx (b6 2) (b6 4)) (b2b K 2 (a1D (o0 5) (a1D (o0 6) (b2c))))) (t6 (D8 (o9 (a6T K) [] E0 (a8 (b6 5) (a8 (b6 6) c8))) (o0 7)) (t6 (D8 (o9 (a1W K) [] E0 (a8 (tOp qIx (b6 3) (b6 4)) c8)) (o0 8)) (t6 (L4 (tOr (a4i (tB (tCB a2R (a8 (b6 8) (a8 (tC (.ty "str")) c8))))) (A7 (tOp qNe (b6 8) (b6 7)))) (G9 (tC (.bl false))) C6) (t6 (D8 (o9 (a6U K c) [] E0 (a8 (b6 7) c8)) (o0 9)) (L4 (tOr (a4i (tB (o9 (a4Z K c) [] E0 (a8 (b6 9) (a8 (b6 5) (a8 (b6 6) c8)))))) (A7 (tOp qNe (o9 (a1W K) [] E0 (a8 (b6 9) c8)) (b6 7)))) (G9 (tC (.bl false))) C6))))))) (G9 (tC (.bl true)))))))
def a7K(K:Fg):Sp:=fun vs H Q _=>vs.length=1/\∀c,a6R K c->b7a K c { nx:=fun _ H'=>Q .non H',rt:=Q } (vs.map some++v5 (10 - vs.length) none) H
end RD
local macro_rules | `(tactic| walk_at "st") => `(tactic| (with_reducible first
 | refine RD.c4h ?_ | refine RD.a7b ?_ | refine RD.c1N ?_ | refine RD.b1x ?_ | refine RD.c1O ?_ | refine RD.c5k ?_ | refine RD.b2X ?_ | refine RD.c1I ?_ | refine RD.c5h ?_ | refine RD.c4c ?_ | refine RD.c4i ?_ | refine RD.c5j ?_ | refine RD.c1R ?_ | refine RD.c4a ?_ | refine RD.c1L ?_ | refine RD.c4e ?_ | refine RD.c4b ?_ | refine RD.a1x ?_ | refine RD.s_un ?_ | refine RD.s_neg ?_ | refine RD.s_c ?_ | refine RD.b7v ?_ | refine RD.c1n ?_ | refine RD.c1P ?_ | refine RD.c5l ?_ | refine RD.c3Z ?_ | refine RD.c4d ?_ | refine RD.c5i ?_ | refine RD.c1K ?_ | refine RD.b7o ?_ | refine RD.s_rev ?_ | refine RD.b2T ?_ | refine RD.c1Q ?_ | refine RD.c4f ?_
 | refine RD.b7m (by with_unfolding_all rfl) ?_ | refine Exists.intro _ (And.intro (Eq.refl (L2.V.bl _)) ?_) | refine Exists.intro _ (And.intro (Eq.refl (L2.V.int _)) ?_)
 | refine RD.c4u ?_ | refine RD.c1X ?_ | refine RD.c5q ?_ | refine RD.c4v ?_ | refine RD.c5r rfl ?_ | refine RD.c5p rfl ?_))
local macro_rules | `(tactic| walk_at "ev") => `(tactic| repeat walk_at "st")
local macro_rules | `(tactic| walk_at "go") => `(tactic| repeat (first | with_reducible refine RD.a0r ?_ | walk_at "st"))
local macro_rules | `(tactic| ext) => `(tactic| walk_at "ev")
local macro_rules | `(tactic| exists $t:term) => `(tactic| (refine $t; walk_at "ev"))
local macro_rules | `(tactic| specialize $t:term) => `(tactic| (with_reducible refine $t; walk_at "ev"))
local macro_rules | `(tactic| exact_mod_cast $t:term) => `(tactic| with_reducible refine $t)
local macro_rules | `(tactic| nofun) => `(tactic| (with_reducible refine RD.a0r ?_; walk_at "ev"))
namespace RD
open PySem PySem.Spec L2
variable{C D a b c d dx na p ra x:Addr}{H H' H0 H1:Hp}{o:HO}{ws xs ys:List V}{σ:St}{ta te:TE}{tt:TT}{Q:VK}{v w:V}{i m n t:Nat}{f:V->List V->Hp->VK->Prop}{z:Str}{ks l:List Nat}{QD:Hp->Prop}{R:It->Hp->Prop}{M N:Nt}{ns:List Int}{as rs:List Addr}{Ws:List (List V)}
section
theorem b7s(h:ta σ H fun v H2=>∃x,v=.str x/\R (Its x) H2):b8x ta σ H R:=h
theorem b2h{x:Str}(Pv:Nat->List V->Hp->Prop)(h0:Pv 0 [] (upd H1 D (.lst [])))(hP:∀i ys H,Pv i ys H->H D=some (.lst ys))
  (step:∀i c ys H2,x.cps[i]? = some c->Pv i ys H2->∀(R:VK) (R':Hp->Prop),(∀y H5,H5 D=some (.lst ys)->ys.length<g9->Pv (i+1) (ys++[y]) (upd H5 D (.lst (ys++[y])))->R y H5)->(∀H4,Pv (i+1) ys H4->R' H4) ->
   tt (some (.str ⟨#[c]⟩)::σ) H2 fun ok H4=>if ok=true then te (some (.str ⟨#[c]⟩)::σ) H4 R else R' H4)
  (done:∀ys H2,Pv x.length ys H2->QD H2) :
  ∃W:Nat->Nat->List V->Hp->Prop,(∃m,W 0 m [] (upd H1 D (.lst [])))/\∀i m ys H2,W i m ys H2->H2 D=some (.lst ys) /\
   (((Its x).stop i H2 /\ QD H2) \/ ((Its x).go i H2 /\ ∀ v H3,(Its x).yld i H2 v H3 -> tt (some v :: σ) H3 fun ok H4 => if ok = true then
     te (some v::σ) H4 (fun y H5=>H5 D=some (.lst ys)/\ys.length<g9/\∃m',m'<m/\W (i+1) m' (ys++[y]) (upd H5 D (.lst (ys++[y]))))
     else ∃m',m'<m/\W (i+1) m' ys H4)):=by
 refine⟨fun i m ys H=>m=x.length - i/\i<=x.length/\Pv i ys H,⟨x.length,rfl,J8 _,h0⟩,?_⟩
 rintro i m ys H2 ⟨rfl,hi,p⟩
 refine⟨hP i ys H2 p,?_⟩
 by_cases hlt:i<x.length
 ·refine .inr ⟨hlt,fun v H3 y=>?_⟩
  obtain⟨e,c,hc,ev⟩:=y
  subst e ev
  exact step i c ys _ hc p _ _ (fun y H5 h1 h2 h3=>⟨h1,h2,x.length - (i+1),by omega,rfl,hlt,h3⟩) fun H4 h=>⟨x.length - (i+1),by omega,rfl,hlt,h⟩
 ·have e:i=x.length:=by omega
  subst e
  exact .inl ⟨d5 _,done ys H2 p⟩
end
def sgn(S:Str)(c:Nat):Bool := !(Builtin.Str.occurrences S ⟨#[c]⟩ 0 S.length 1).isEmpty
theorem b7H{S:Str}{c:Nat}(h:Q (.bl (sgn S c)) H):qIn false (.str ⟨#[c]⟩) (.str S) H Q:=h
abbrev LET:Str := "abcdefghijklmnopqrstuvwxyz"
abbrev SGN:Str := "abcdefghijklmnopqrstuvwxyz0123456789"
theorem b7d:LET++("0123456789" : Str)=SGN:=by decide +kernel
def a1B(z:Str):Bool:=decide (1<=z.length)&&decide (z.length<=8)&&(match z.cps[0]? with | some c=>sgn LET c | none=>false)&&z.cps.toList.all (sgn SGN)
theorem b1Z{K:Fg}{E:XK}(hz:z.length<=400)(k:∀H',o6 H H'->Q (.bl (a1B z)) H'):T0 K [.str z] H Q E:=by
 refine⟨rfl,?_⟩
 unfold a5J
 have hz':=small (show z.length<=100000 by omega)
 nofun
 exists a1z (s := "str") rfl (by decide) ?_
 exists A8 (by decide) ?_
 exists b3b hz' ?_
 by_cases h1:1<=z.length
 case neg=>
  exists A8 (c6F (by omega)) ?_
  exists F9 rfl ?_
  have e:a1B z=false:=by unfold a1B;rw[c6F h1];simp
  rw[<-e]
  exact k H (o6.refl _)
 exists F9 (c6G (by omega)) ?_
 by_cases h8:z.length<=8
 case neg=>
  rw[c6F (show ¬((z.length:Int)<=8) by omega)]
  exists F9 rfl ?_
  have e:a1B z=false:=by unfold a1B;rw[c6F h8];simp
  rw[<-e]
  exact k H (o6.refl _)
 rw[c6G (show(z.length:Int)<=8 by omega)]
 exists A8 rfl ?_
 have hl:z.cps.toList.length=z.length:=u5
 obtain⟨c0,hc0,hc1⟩:=a1P (xs:=z.cps.toList) (i:=0) (by decide) (by omega)
 have hc2:z.cps[0]? = some c0:=by rw[<-P5];exact hc1
 exists b7G hz' hc0 ?_
 have en:a1B z=(sgn LET c0&&z.cps.toList.all (sgn SGN)):=by
  unfold a1B
  rw[c6G h1,c6G h8,hc2]
  simp
 refine b7H (S:=LET) ?_
 refine⟨_,rfl,?_⟩
 cases hs:sgn LET c0 with
 | false=>
  refine c3l ?_
  have e:a1B z=false:=by rw[en,hs];rfl
  rw[<-e]
  exact k H (o6.refl _)
 | true=>
  exists a6N ?_
  specialize O5 (b7s ?_)
  refine⟨z,rfl,fun D hD=>?_⟩
  refine b2h (fun i ys H2=>ys=(z.cps.toList.take i).map (fun c=>V.bl (sgn SGN c))/\H2=upd H D (.lst ys)) ⟨by simp,rfl⟩ ?_ ?_ ?_
  ·rintro i ys _ ⟨_,rfl⟩
   exact c5
  ·rintro i c ys _ hc ⟨rfl,rfl⟩ R R' hR hR'
   have hc':z.cps.toList[i]? = some c:=by rw[P5];exact hc
   ext
   exists a6N ?_
   refine b3c (small (by decide +kernel)) ?_
   have e:(("abcdefghijklmnopqrstuvwxyz" : Str)++("0123456789" : Str))=SGN:=b7d
   rw[e]
   refine b7H (S:=SGN) ?_
   refine hR (.bl (sgn SGN c)) _ c5 (E8 ?_) ⟨?_,?_⟩
   ·rw[a9,C8];omega
   ·rw[D5,hc'];simp
   ·rw[a3y]
  ·rintro ys _ ⟨rfl,rfl⟩
   ext
   have eb:M7 ((z.cps.toList.take z.length).map (fun c=>V.bl (sgn SGN c)))=some ((z.cps.toList.take z.length).map (sgn SGN)):=by
    generalize z.cps.toList.take z.length=l
    induction l with
    | nil=>rfl
    | cons a r ih=>simp[M7,ih]
   have ea:((z.cps.toList.take z.length).map (sgn SGN)).all id=a1B z:=by
    rw[en,hs,c4X,z9 (by omega),b4T]
    rfl
   refine(show a6K [.ref D] _ _ from ?_)
   unfold a6K
   simp only[c5]
   refine⟨_,eb,?_⟩
   rw[ea]
   exact k _ (o5 hD)
def NmS(s:Str):Prop:=a1B s=true/\s.length<=8
def OpN(v:V):Prop:=(∃s,v=.str s/\NmS s)\/∃n:Int,v=.int n/\0<=n/\n<1000000000000
theorem OpN.flat{v:V}(h:OpN v):E5 v=true:=by
 rcases h with ⟨s,rfl,_⟩ | ⟨n,rfl,_⟩ <;> rfl
abbrev a3r:List Str:=["plus","minus","times","less","same"]
def a6D(H:Hp)(p:Addr):Prop:=∃k v1 v2,H p=some (.tup [.str k,v1,v2])/\OpN v1/\OpN v2/\k∈a3r
theorem a6D.ts(h:a6D H p)(t:Q9 H H'):a6D H' p:=by
 obtain⟨k,v1,v2,h,a,b,c⟩:=h
 exact⟨k,v1,v2,t _ _ h,a,b,c⟩
inductive a6Q(H:Hp):List V->Prop
 | set (n:Str) (p:Addr):NmS n->a6D H p->a6Q H [.str "set",.str n,.ref p]
 | copy (n:Str) (v:V):NmS n->OpN v->a6Q H [.str "copy",.str n,v]
 | take (n:Str):NmS n->a6Q H [.str "take",.str n]
 | tell (v:V):OpN v->a6Q H [.str "tell",v]
 | ask (v:V):OpN v->a6Q H [.str "ask",v]
 | skip:a6Q H [.str "skip"]
theorem a6Q.ts(h:a6Q H xs)(t:Q9 H H'):a6Q H' xs:=by
 cases h with
 | set n p a d=>exact .set n p a (d.ts t)
 | copy n v a o=>exact .copy n v a o
 | take n a=>exact .take n a
 | tell v o=>exact .tell v o
 | ask v o=>exact .ask v o
 | skip=>exact .skip
def a8U(H:Hp)(v:V)(ask:Bool):Prop:=∃p xs,v=.ref p/\H p=some (.tup xs)/\a6Q H xs/\(∃k r,xs=.str k::r/\decide ((k:Str) = "ask")=ask)
theorem a8U.ts{a:Bool}(h:a8U H v a)(t:Q9 H H'):a8U H' v a:=by
 obtain⟨p,xs,rfl,h,r,q⟩:=h
 exact⟨p,xs,rfl,t _ _ h,r.ts t,q⟩
theorem c3n{n:Int}(k:Q (.bl true) H) :
  G9 (a0q (tCB a2R (a8 (b6 0) (a8 (tC (.ty "int")) c8))) (b1k (tCB a2R (a8 (b6 0) (a8 (tC (.ty "bool")) c8))))) { nx:=fun _ H'=>Q .non H',rt:=Q } [some (.int n)] H:=by
 ext
 exists a1z (s := "int") rfl (by decide) ?_
 exists F9 (by decide) ?_
 exists a1z (s := "int") rfl (by decide) ?_
 exact k
theorem a5k{K:Fg}{n:Int}{E:XK}(k:Q (.bl true) H):a0K K [.int n] H Q E:=⟨rfl,c3n k⟩
theorem b0k{K:Fg}{n:Int}{E:XK}(h0:0<=n)(h1:n<1000000000000)(k:Q (.bl true) H):a1v K [.int n] H Q E:=by
 refine⟨rfl,?_⟩
 unfold a7B
 ext
 refine a5k ?_
 exists ⟨_,rfl,a6N ?_⟩
 exists F9 (c6G h0) ?_
 show Q (.bl (decide (n<1000000000000))) H
 rw[c6G h1]
 exact k
theorem b0l{K:Fg}{n m:Int}{E:XK}(h0:0<=n)(h1:n<m)(k:Q (.bl true) H):a1w K [.int n,.int m] H Q E:=by
 refine⟨rfl,?_⟩
 unfold a7C
 ext
 refine a5k ?_
 exists ⟨_,rfl,a6N ?_⟩
 exists F9 (c6G h0) ?_
 show Q (.bl (decide (n<m))) H
 rw[c6G h1]
 exact k
theorem a2y{K:Fg}{E:XK}(h:NmS z)(k:∀H',o6 H H'->Q (.bl true) H'):T0 K [.str z] H Q E:=by
 refine b1Z (by have:=h.2;omega) fun H' s=>?_
 rw[h.1]
 exact k H' s
theorem b2a{K:Fg}{n:Int}{E:XK}(k:Q (.bl false) H):T0 K [.int n] H Q E:=by
 refine⟨rfl,?_⟩
 unfold a5J
 nofun
 exists a1z (s := "int") rfl (by decide) ?_
 refine F9 (by decide) ?_
 exists F9 rfl ?_
 exact k
theorem X6{K:Fg}{E:XK}(h:OpN v)(k:∀H',o6 H H'->Q (.bl true) H'):Q7 K [v] H Q E:=by
 refine⟨rfl,?_⟩
 unfold a4S
 ext
 rcases h with ⟨s,rfl,hs⟩ | ⟨n,rfl,h0,h1⟩
 ·refine a2y hs fun G s=>?_
  exact⟨_,rfl,a6N (k G s)⟩
 ·refine b2a ?_
  exists ⟨_,rfl,c3l ?_⟩
  exact b0k h0 h1 (k H (o6.refl _))
theorem b8s{k:Str}(h:k∈a3r):inV (.str k) [.str "plus",.str "minus",.str "times",.str "less",.str "same"]=true:=by
 simp only[a3r,c7,g7,or_false]at h
 rcases h with rfl | rfl | rfl | rfl | rfl <;> decide +kernel
theorem b3B{K:Fg}{c:Cn}{E:XK}(ck:a6R K c)(h:a6D H p)(k:∀H',o6 H H'->Q (.bl true) H'):a2n K c [.ref p] H Q E:=by
 obtain⟨kd,v1,v2,hp,o1,o2,hk⟩:=h
 refine⟨rfl,?_⟩
 unfold a9d
 nofun
 exists a1z (s := "tuple") (by simp only[Y4,hp]) (by decide) ?_
 exists A8 (by decide) ?_
 exists a3g hp ?_
 exists A8 (by simp) ?_
 exists V8 hp (a2H _ _) ?_
 refine⟨_,_,rfl,ck.b0M H,rfl,rfl,?_⟩
 exists ⟨_,rfl,F9 (b8s hk) ?_⟩
 exists V8 hp (a6j _ _ _) ?_
 refine X6 o1 fun G1 s1=>?_
 exists ⟨_,rfl,a6N ?_⟩
 exists V8 (s1 _ _ hp) (b3W _ _ _ _) ?_
 exact X6 o2 fun G2 s2=>k G2 (s1.trans s2)
theorem c3p(a:V)(r:List V):a1r (a::r) (some 1) none=r:=by
 unfold a1r
 have e:HT.sIx (a::r).length 0 (some 1)=1:=by
  have:=HT.a5c (a::r).length 0 1
  rw[show((1:Nat):Int)=1 from rfl]at this
  rw[this,q9]
  omega
 rw[e]
 show List.take ((a::r).length - 1) r=r
 rw[z9 (by simp)]
theorem b1M(a:V)(r:List V):¬(HT.sIx (a::r).length 0 (some 1)=0/\HT.sIx (a::r).length (a::r).length none=(a::r).length):=by
 intro h
 have e:HT.sIx (a::r).length 0 (some 1)=1:=by
  have:=HT.a5c (a::r).length 0 1
  rw[show((1:Nat):Int)=1 from rfl]at this
  rw[this,q9]
  omega
 omega
theorem b5R{K:Fg}{c:Cn}{a:Bool}{E:XK}(ck:a6R K c)(h:a8U H v a)(k:∀H',o6 H H'->Q (.bl true) H'):a3D K c [v] H Q E:=by
 obtain⟨p,xs,rfl,hp,hr,kd,r,rfl,_⟩:=h
 refine⟨rfl,?_⟩
 unfold b1j
 nofun
 exists a1z (s := "tuple") (by simp only[Y4,hp]) (by decide) ?_
 exists A8 (by decide) ?_
 exists a3g hp ?_
 exists A8 (c6F (by intro z;have:=V.int.inj z;rw[q9]at this;omega)) ?_
 nofun
 exists V8 hp (a2H _ _) ?_
 nofun
 refine c1r hp (b1M _ _) fun q G hq e s=>?_
 rw[c3p]at e
 ext
 have hr:=hr.ts (o6.ts s)
 cases hr with
 | set n d hn hd=>
  nofun
  exists F9 (by decide) ?_
  exists a3g e ?_
  exists F9 (by simp) ?_
  exists V8 e (a2H _ _) ?_
  refine a2y hn fun G1 s1=>?_
  exists ⟨_,rfl,a6N ?_⟩
  exists V8 (s1 _ _ e) (a6j _ _ _) ?_
  exact b3B ck (hd.ts (o6.ts s1)) fun G2 s2=>k G2 ((s.trans s1).trans s2)
 | copy n v hn ho=>
  nofun
  exists A8 (by decide) ?_
  nofun
  exists F9 (by decide) ?_
  exists a3g e ?_
  exists F9 (by simp) ?_
  exists V8 e (a2H _ _) ?_
  refine a2y hn fun G1 s1=>?_
  exists ⟨_,rfl,a6N ?_⟩
  exists V8 (s1 _ _ e) (a6j _ _ _) ?_
  exact X6 ho fun G2 s2=>k G2 ((s.trans s1).trans s2)
 | take n hn=>
  nofun
  exists A8 (by decide) ?_
  nofun
  exists A8 (by decide) ?_
  nofun
  exists F9 (by decide) ?_
  exists a3g e ?_
  exists F9 (by simp) ?_
  exists V8 e (a2H _ _) ?_
  exact a2y hn fun G1 s1=>k G1 (s.trans s1)
 | tell v ho=>
  nofun
  exists A8 (by decide) ?_
  nofun
  exists A8 (by decide) ?_
  nofun
  exists A8 (by decide) ?_
  nofun
  refine C3 (by simp) fun q2 G2 hq2 e2 s2=>?_
  exists b4v e2 rfl rfl ?_
  exists F9 (by decide +kernel) ?_
  exists a3g (s2 _ _ e) ?_
  exists F9 (by simp) ?_
  exists V8 (s2 _ _ e) (a2H _ _) ?_
  exact X6 ho fun G1 s1=>k G1 ((s.trans s2).trans s1)
 | ask v ho=>
  nofun
  exists A8 (by decide) ?_
  nofun
  exists A8 (by decide) ?_
  nofun
  exists A8 (by decide) ?_
  nofun
  refine C3 (by simp) fun q2 G2 hq2 e2 s2=>?_
  exists b4v e2 rfl rfl ?_
  exists F9 (by decide +kernel) ?_
  exists a3g (s2 _ _ e) ?_
  exists F9 (by simp) ?_
  exists V8 (s2 _ _ e) (a2H _ _) ?_
  exact X6 ho fun G1 s1=>k G1 ((s.trans s2).trans s1)
 | skip=>
  nofun
  exists A8 (by decide) ?_
  nofun
  exists A8 (by decide) ?_
  nofun
  exists A8 (by decide) ?_
  nofun
  refine C3 (by simp) fun q2 G2 hq2 e2 s2=>?_
  exists b4v e2 rfl rfl ?_
  exists A8 (by decide +kernel) ?_
  exists F9 (by decide) ?_
  exists a3g (s2 _ _ e) ?_
  have e0:decide (V.int ((([]:List V).length:Nat):Int)=V.int 0)=true:=by decide
  rw[e0]
  exact k G2 (s.trans s2)
theorem ix0{α:Type}(a b c d:α):ixN [a,b,c,d].length 0=some 0:=by
 show ixN 4 0=some 0
 decide
theorem ix1{α:Type}(a b c d:α):ixN [a,b,c,d].length 1=some 1:=by
 show ixN 4 1=some 1
 decide
theorem ix2{α:Type}(a b c d:α):ixN [a,b,c,d].length 2=some 2:=by
 show ixN 4 2=some 2
 decide
structure a8x(H:Hp)(b:Addr)(i0 i1 i2:Int)(c:Addr)(ns:List Int):Prop where
 hb:H b=some (.lst [.int i0,.int i1,.int i2,.ref c])
 hc:H c=some (.lst (ns.map V.int))
 p0:0<=i0
 p1:0<=i1
 p1':i1<2147483647
 p2:0<=i2
 pn:∀x∈ns,0<=x
theorem a8x.bag{i0 i1 i2:Int}(h:a8x H b i0 i1 i2 c ns):Bag H b c:=⟨i0,i1,i2,ns,h.hb,h.hc,h.p0,h.p1,h.p1',h.p2,h.pn⟩
theorem Bag.parts(h:Bag H b c):∃i0 i1 i2 ns,a8x H b i0 i1 i2 c ns:=by
 obtain⟨i0,i1,i2,ns,h1,h2,h3,h4,h5,h6,h7⟩:=h.ex
 exact⟨i0,i1,i2,ns,h1,h2,h3,h4,h5,h6,h7⟩
theorem a8x.ne{i0 i1 i2:Int}(h:a8x H b i0 i1 i2 c ns):c≠b:=L3 h.hc h.hb (by
  intro z
  have z:=HO.lst.inj z
  cases ns with
  | nil=>cases z
  | cons a r=>cases r with
   | nil=>cases z
   | cons a2 r=>cases r with
    | nil=>cases z
    | cons a3 r=>cases r with
     | nil=>cases z
     | cons a4 r=>simp at z)
theorem a8x.put{i0 i1 i2 j0 j1 j2:Int}(h:a8x H b i0 i1 i2 c ns)(q0:0<=j0)(q1:0<=j1)(q1':j1<2147483647)(q2:0<=j2) :
  a8x (upd H b (.lst [.int j0,.int j1,.int j2,.ref c])) b j0 j1 j2 c ns:=⟨c5,by rw[c9 h.ne];exact h.hc,q0,q1,q1',q2,h.pn⟩
theorem F1{K:Fg}{many:Int}{E:XK}(hB:Bag H b c)(h0:0<many)(h1:many<2 ^ 64)
  (k:∀n H',0<=n->n<many->Bag H' b c->w4 b H H'->Q (.int n) H'):C9 K [.ref b,.int many] H Q E:=by
 obtain⟨i0,i1,i2,ns,B⟩:=hB.parts
 refine⟨rfl,?_⟩
 unfold b6W
 refine X5 (P:=fun σ H1=>∃x2 x3 j0 j1 j2,σ=[some (.ref b),some (.int many),x2,x3,none,none,none]/\a8x H1 b j0 j1 j2 c ns/\w4 b H H1) ?_ ?_
 ·-- the second part
  rintro _ H1 ⟨x2,x3,j0,j1,j2,rfl,B1,k1⟩
  refine X5 (P:=fun σ H2=>H2=H1/\σ=[some (.ref b),some (.int many),x2,x3,none,none,none]) ?_ ?_
  ·rintro _ _ ⟨rfl,rfl⟩
   walk_at "go"
   refine F8 B1.hb (a6j _ _ _) ?_
   walk_at "go"
   refine a0t (.inr (by omega)) ?_
   walk_at "go"
   refine a0t (by omega) ?_
   walk_at "go"
   have g1:=R7 (j1 * 39373) (show(1000000007:Int)≠0 by decide)
   have g2:=Q4 (j1 * 39373) (show(0:Int)<1000000007 by decide)
   refine a0t (.inr (by omega)) ?_
   walk_at "go"
   refine a0t (by omega) ?_
   walk_at "go"
   have g3:=R7 (j1 * 39373 % 1000000007 * 30011) (show(998244353:Int)≠0 by decide)
   have g4:=Q4 (j1 * 39373 % 1000000007 * 30011) (show(0:Int)<998244353 by decide)
   refine a0p (fun _=>?_) (fun _=>?_)
   ·walk_at "go"
    refine a0t (.inr (by omega)) ?_
    walk_at "go"
    refine a0t h0 ?_
    exact k _ _ (R7 _ (by omega)) (Q4 _ h0) B1.bag k1
   ·walk_at "go"
    refine a0t (by omega) ?_
    walk_at "go"
    refine a0t h0 ?_
    exact k _ _ (R7 _ (by omega)) (Q4 _ h0) B1.bag k1
  ·intro nx hnx
   walk_at "go"
   refine F8 B1.hb (a2H _ _) ?_
   walk_at "go"
   refine a0p (fun _=>?_) (fun _=>?_)
   ·walk_at "go"
    refine F8 B1.hb (a2H _ _) ?_
    walk_at "go"
    refine a0t h0 ?_
    walk_at "go"
    refine F8 B1.hb (a2H _ _) ?_
    walk_at "go"
    refine a0t ⟨h0,h1⟩ ?_
    walk_at "go"
    refine b4t B1.hb (ix0 _ _ _ _) ?_
    walk_at "go"
    refine k _ _ (R7 _ (by omega)) (Q4 _ h0) (B1.put (Int.ediv_nonneg B1.p0 (by omega)) B1.p1 B1.p1' B1.p2).bag (k1.trans (w4.upd _ _ _))
   ·walk_at "go"
    exact hnx _ _ ⟨rfl,rfl⟩
 ·intro nx hnx
  walk_at "go"
  refine F8 B.hb (a2H _ _) ?_
  walk_at "go"
  refine a0p (fun e=>?_) (fun _=>?_)
  ·have e:i0=0:=by simpa using e
   subst e
   nofun
   exact_mod_cast X5 (P:=fun σ H1=>∃m x3 j0 j2,σ=[some (.ref b),some (.int many),some (.int m),x3,none,none,none]/\a8x H1 b j0 i1 j2 c ns/\w4 b H H1/\0<=m) ?_ ?_
   ·rintro _ H1 ⟨m,x3,j0,j2,rfl,B1,k1,hm⟩
    walk_at "go"
    refine F8 B1.hb (a6j _ _ _) ?_
    walk_at "go"
    refine a0t (.inr (by omega)) ?_
    walk_at "go"
    refine a0t (by omega) ?_
    walk_at "go"
    refine b4t B1.hb (ix1 _ _ _ _) ?_
    have g1:=R7 (i1 * 48271+m) (show(2147483647:Int)≠0 by decide)
    have g2:=Q4 (i1 * 48271+m) (show(0:Int)<2147483647 by decide)
    exact hnx _ _ ⟨_,x3,j0,_,j2,rfl,B1.put B1.p0 g1 g2 B1.p2,k1.trans (w4.upd _ _ _)⟩
   ·intro nx2 hnx2
    walk_at "go"
    refine F8 B.hb (b3W _ _ _ _) ?_
    walk_at "go"
    refine F8 B.hb (c4T _ _ _ _ _) ?_
    walk_at "go"
    refine G6 B.hc ?_
    walk_at "go"
    refine a0p (fun e=>?_) (fun _=>?_)
    ·have e:i2<(ns.length:Int):=by simpa using e
     obtain⟨v,ev,ev2⟩:=a1P (xs:=ns.map V.int) B.p2 (by simpa using e)
     obtain⟨z,ez,rfl⟩:∃z,ns[i2.toNat]? = some z/\v=V.int z:=by
      rw[b7]at ev2
      cases q:ns[i2.toNat]? with
      | none=>rw[q]at ev2;cases ev2
      | some z=>rw[q]at ev2;exact⟨z,rfl,(Option.some.inj ev2).symm⟩
     have hz:0<=z:=B.pn z (mI ez)
     walk_at "go"
     refine F8 B.hb (c4T _ _ _ _ _) ?_
     walk_at "go"
     refine F8 B.hb (b3W _ _ _ _) ?_
     walk_at "go"
     refine F8 B.hc ev ?_
     walk_at "go"
     exists c4r B.hb (by decide) rfl ?_
     refine b4t B.hb (ix2 _ _ _ _) ?_
     have B2:=B.put (j0:=0) (j1:=i1) (j2:=i2+1) (Int.le_refl _) B.p1 B.p1' (by have:=B.p2;omega)
     exact_mod_cast X5 (P:=fun σ H1=>∃j0,σ=[some (.ref b),some (.int many),some (.int 12345),some (.int z),none,none,none]/\a8x H1 b j0 i1 (i2+1) c ns/\w4 b H H1) ?_ ?_
     ·rintro _ H1 ⟨j0,rfl,B1,k1⟩
      walk_at "go"
      refine a0t (by omega) ?_
      walk_at "go"
      have g1:=R7 z (show(2147483647:Int)≠0 by decide)
      exact hnx2 _ _ ⟨_,_,j0,_,rfl,B1,k1,by omega⟩
     ·intro nx3 hnx3
      walk_at "go"
      refine a0p (fun _=>?_) (fun _=>?_)
      ·walk_at "go"
       refine b4t B2.hb (ix0 _ _ _ _) ?_
       refine hnx3 _ _ ⟨z,rfl,?_,(w4.upd _ _ _).trans (w4.upd _ _ _)⟩
       exact B2.put hz B.p1 B.p1' (by have:=B.p2;omega)
      ·walk_at "go"
       exact hnx3 _ _ ⟨0,rfl,B2,w4.upd _ _ _⟩
    ·walk_at "go"
     exact hnx2 _ _ ⟨_,_,0,i2,rfl,B,w4.refl _ _,by decide⟩
  ·walk_at "go"
   exact hnx _ _ ⟨_,_,i0,i1,i2,rfl,B,w4.refl _ _⟩
theorem c3s{K:Fg}{E:XK}(hS:SqL K H a (ns.map V.int))(hl:ns.length<=63)
  (k:∀b c H',Bag H' b c->o6 H H'->H b=none->Q (.ref b) H'):a9J K [.ref a] H Q E:=by
 refine⟨rfl,?_⟩
 unfold c1m
 walk_at "go"
 exact_mod_cast O5 (U6 ?_)
 walk_at "go"
 refine⟨a,_,rfl,hS,fun p hp=>⟨p,rfl,⟨_,SqL.of c5⟩,fun D hD=>?_⟩⟩
 have hcut:a1r (ns.map V.int) none (some 63)=ns.map V.int:=by
  unfold a1r
  have e:HT.sIx (ns.map V.int).length 0 none=0:=rfl
  have e2:HT.sIx (ns.map V.int).length (ns.map V.int).length (some 63)=ns.length:=by
   have:=HT.a5c (ns.map V.int).length (ns.map V.int).length 63
   rw[a9]at this ⊢
   rw[show((63:Nat):Int)=63 from rfl]at this
   rw[this];omega
  rw[e,e2,b0P,Nat.sub_zero,z9 (by simp)]
 rw[hcut]at hD ⊢
 have s1:o6 H (upd H p (.lst (ns.map V.int))):=o5 hp
 refine U0 (xs:=ns.map V.int) (fun i ys H2=>ys=(ns.take i).map (fun x=>V.int (if x<0 then -x else x))/\H2=upd (upd H p (.lst (ns.map V.int))) D (.lst ys)) ⟨by simp,rfl⟩ ?_ ?_ ?_ ?_
 ·rintro i ys _ ⟨_,rfl⟩
  exact c5
 ·rintro i ys _ _ ⟨_,rfl⟩
  refine SqL.of ?_
  rw[c9 (c4 c5 hD),c5]
 ·rintro i x ys _ hx ⟨rfl,rfl⟩ R hR
  rw[b7]at hx
  cases e:ns[i]? with
  | none=>rw[e]at hx;cases hx
  | some z=>
   rw[e]at hx
   cases hx
   ext
   refine hR _ _ c5 (E8 ?_) ⟨?_,?_⟩
   ·rw[a9,C8];omega
   ·rw[D5,e];simp
   ·rw[a3y]
 ·rintro ys _ ⟨rfl,rfl⟩
  ext
  refine C3 (by simp) fun b H4 hb hb4 s4=>?_
  rw[a9,z9 (d5 _)]at hb s4
  refine k b D _ ⟨0,1234567891,0,ns.map (fun x=>if x<0 then -x else x),hb4,?_,by decide,by decide,by decide,by decide,?_⟩ ?_ ?_
  ·rw[s4 D _ c5,R5];rfl
  ·intro x hx
   obtain⟨y,_,rfl⟩:=A0.mp hx
   split <;> omega
  ·exact(s1.trans (o5 hD)).trans s4
  ·exact(s1.trans (o5 hD)).free hb
structure a1Q(H:Hp)(a:Addr):Prop where
 ex:∃ss:List Str,H a=some (.lst (ss.map V.str))/\ss≠[]/\ss.length<=8/\∀s∈ss,NmS s
theorem a1Q.kept(h:a1Q H a)(hB:Bag H b c)(k:w4 b H H'):a1Q H' a/\a≠b:=by
 obtain⟨ss,h1,h2,h3,h4⟩:=h.ex
 obtain⟨i0,i1,i2,ns,hb,_⟩:=hB.ex
 have ne:a≠b:=L3 h1 hb (by
  intro z
  have z:=HO.lst.inj z
  cases ss with
  | nil=>exact h2 rfl
  | cons s r=>cases z)
 exact⟨⟨ss,k.1 a _ h1 ne,h2,h3,h4⟩,ne⟩
theorem a1Q.same(h:a1Q H a)(s:o6 H H'):a1Q H' a:=by
 obtain⟨ss,h1,h2,h3⟩:=h.ex
 exact⟨ss,s _ _ h1,h2,h3⟩
theorem b9s:∀c∈LET.cps.toList,sgn LET c=true:=by decide +kernel
theorem b9r:∀c∈SGN.cps.toList,sgn SGN c=true:=by decide +kernel
theorem c0C:∀c∈LET.cps.toList,sgn SGN c=true:=by decide +kernel
theorem b3A(cs:List Nat):Txt.join (Str.ofString "") (cs.map fun k=>(⟨#[k]⟩:Str))=⟨cs.toArray⟩:=by
 show Builtin.Str.glued ("") _=_
 rw[StrLaws.glued_eq_join]
 exact PyProof.Rows.join_ones cs
theorem c4M{ch:Nat}{cs:List Nat}(h1:ch∈LET.cps.toList)(h2:∀c∈cs,c∈SGN.cps.toList)(hl:cs.length<=7):NmS ((⟨#[ch]⟩:Str)++⟨cs.toArray⟩):=by
 have hlen:((⟨#[ch]⟩:Str)++⟨cs.toArray⟩).length=cs.length+1:=by
  rw[Str.length_append]
  show 1+cs.toArray.size=_
  rw[d6];omega
 have hc:((⟨#[ch]⟩:Str)++⟨cs.toArray⟩).cps=(ch::cs).toArray:=by
  rw[Str.cps_append]
  show #[ch]++cs.toArray=_
  simp
 refine⟨?_,by omega⟩
 unfold a1B
 rw[hlen,hc]
 have e0:(ch::cs).toArray[0]? = some ch:=by simp
 rw[e0]
 simp only[O8,decide_eq_true_eq,v7]
 refine⟨⟨⟨by omega,by omega⟩,b9s ch h1⟩,?_⟩
 intro c hcc
 have hcc:c∈ch::cs:=by simpa using hcc
 rcases c7.mp hcc with q | q
 ·subst q;exact c0C _ h1
 ·exact b9r c (h2 c q)
theorem b9q{ss:List Str}{s:Str}(h:∀s∈ss,NmS s)(hs:NmS s):∀t∈ss++[s],NmS t:=by
 intro t ht
 rcases l7.mp ht with q | q
 ·exact h t q
 ·rw[j3.mp q];exact hs
structure a9t(H:Hp)(a:Addr):Prop where
 ex:∃ps:List Addr,H a=some (.lst (ps.map V.ref))/\ps≠[]/\ps.length<=8/\∀p∈ps,a6D H p
theorem a3G(hB:Bag H b c)(h:H a=some (.lst (as.map V.ref))):a≠b:=by
 obtain⟨i0,i1,i2,ns,hb,_⟩:=hB.ex
 refine L3 h hb ?_
 intro z
 have z:=HO.lst.inj z
 cases as with
 | nil=>cases z
 | cons s r=>cases z
theorem b1o(hB:Bag H b c)(h:H a=some (.lst xs))(hl:xs.length<=3):a≠b:=by
 obtain⟨i0,i1,i2,ns,hb,_⟩:=hB.ex
 refine L3 h hb ?_
 intro z
 have z:=HO.lst.inj z
 rw[z]at hl
 simp at hl
theorem a9t.kept(h:a9t H a)(hB:Bag H b c)(k:w4 b H H'):a9t H' a:=by
 obtain⟨ps,h1,h2,h3,h4⟩:=h.ex
 exact⟨ps,k.1 a _ h1 (a3G hB h1),h2,h3,fun p hp=>(h4 p hp).ts (w4.ts k hB)⟩
structure A9(H:Hp)(a:Addr)(N:Nt):Prop where
 ex:∃as:List Addr,H a=some (.lst (as.map V.ref))/\as.length=N.length/\∀(i:Nat) x l,as[i]? = some x->N[i]? = some l->H x=some (.lst (IL l))
theorem A9.same(h:A9 H a N)(k:o6 H H'):A9 H' a N:=by
 obtain⟨as,h1,h2,h3⟩:=h.ex
 exact⟨as,k a _ h1,h2,fun i x l e1 e2=>k _ _ (h3 i x l e1 e2)⟩
theorem A9.kept(h:A9 H a N)(hB:Bag H b c)(hN:∀l∈N,l.length<=2)(k:w4 b H H'):A9 H' a N:=by
 obtain⟨as,h1,h2,h3⟩:=h.ex
 refine⟨as,k.1 a _ h1 (a3G hB h1),h2,fun i x l e1 e2=>?_⟩
 have q:=h3 i x l e1 e2
 refine k.1 _ _ q (b1o hB q ?_)
 rw[M3]
 have:=hN l (mI e2)
 omega
theorem A9.at(h:A9 H a N){k:Nat}(e:N[k]? = some l):∃(xs:List V) (x:Addr),H a=some (.lst xs)/\atI xs (k:Int)=some (.ref x)/\H x=some (.lst (IL l))/\xs.length=N.length:=by
 obtain⟨as,h1,h2,h3⟩:=h.ex
 have hk:k<as.length:=by rw[h2];exact(gI e)
 have e1:as[k]? = some as[k]:=by simp
 refine⟨_,as[k],h1,?_,h3 k _ l e1 e,by rw[a9,h2]⟩
 exact U9 (by rw[b7,e1];rfl)
theorem A9.len(h:A9 H a N):∃xs,H a=some (.lst xs)/\xs.length=N.length:=by
 obtain⟨as,h1,h2,h3⟩:=h.ex
 exact⟨_,h1,by rw[a9,h2]⟩
theorem c4V{j:Nat}(e:l[j]? = some t):atI (IL l) (j:Int)=some (.int (t:Int)):=U9 (by unfold IL;rw[b7,e];rfl)
theorem b4x{K:Fg}{E:XK}(hB:Bag H b c)(ha:H a=some (.lst xs))(na:a≠b)(h0:xs≠[])(hl:xs.length<=100)
  (k:∀(n:Int) v H',atI xs n=some v->v∈xs->H' a=some (.lst xs)->Bag H' b c->w4 b H H'->Q (.int n) H'):C9 K [.ref b,.int xs.length] H Q E:=by
 have hp:0<xs.length:=a5B.mpr h0
 refine F1 hB (by omega) (by omega) fun n H1 n0 n1 B1 k1=>?_
 obtain⟨v,hv,hv2⟩:=a1P (xs:=xs) n0 n1
 exact k n v H1 hv (mI hv2) (k1.1 _ _ ha na) B1 k1
theorem b2M{α:Type}(l:List α):l=[]\/∃r a,l=r++[a]:=by
 cases h:l.reverse with
 | nil=>left;simpa using h
 | cons a r=>
  right
  refine⟨r.reverse,a,?_⟩
  have:=congrArg List.reverse h
  simpa using this
structure a8V(H0 H:Hp)(b c D:Addr)(m:Nat)(as:List Addr)(N:Nt):Prop where
 bag:Bag H b c
 kept:w4 b H0 H
 hD:H D=some (.lst (as.map V.ref))
 nb:D≠b
 nc:D≠c
 len:as.length=N.length
 at_:∀(i:Nat) x l,as[i]? = some x->N[i]? = some l->H x=some (.lst (IL l))/\x≠D/\x≠b
 small:∀l∈N,l.length<=2/\∀t∈l,t<m
theorem a8V.next(h:a8V H0 H b c D m as N)(B:Bag H' b c)(k:w4 b H H'):a8V H0 H' b c D m as N:=
 ⟨B,h.kept.trans k,k.1 _ _ h.hD h.nb,h.nb,h.nc,h.len,fun i x l e1 e2=>let⟨q1,q2,q3⟩:=h.at_ i x l e1 e2; ⟨k.1 _ _ q1 q3,q2,q3⟩,h.small⟩
structure a5u(H:Hp)(b D q:Addr)(m:Nat)(l:List Nat):Prop where
 h:H q=some (.lst (IL l))
 nD:q≠D
 nb:q≠b
 len:l.length<=2
 lt:∀t∈l,t<m
theorem a5u.next{q:Addr}(h:a5u H b D q m l)(k:w4 b H H'):a5u H' b D q m l:=⟨k.1 _ _ h.h h.nb,h.nD,h.nb,h.len,h.lt⟩
theorem W9{α:Type}{xs:List α}{x y:α}(h:(xs++[x])[i]? = some y):(i<xs.length/\xs[i]? = some y)\/(i=xs.length/\y=x):=by
 by_cases hi:i<xs.length
 ·left
  rw[u9 hi]at h
  exact⟨hi,h⟩
 ·right
  rw[A5 (by omega)]at h
  have:i - xs.length=0:=by
   have:=(gI h)
   simp at this
   omega
  rw[this]at h
  simp at h
  exact⟨by omega,h.symm⟩
theorem b2f{a b:Int}:decide (V.int a=V.int b)=decide (a=b):=by
 by_cases h:a=b
 ·subst h;simp
 ·rw[c6F h,c6F (fun z=>h (V.int.inj z))]
theorem c0A:∀s∈(["a","k0","ab","set","abc","k1","abcdefgh","b","ask","x9","a1","abcdefg","plus","ba","k10","z"]:List Str),NmS s:=by
 have:∀s∈(["a","k0","ab","set","abc","k1","abcdefgh","b","ask","x9","a1","abcdefg","plus","ba","k10","z"]:List Str),a1B s=true/\s.length<=8:=by decide +kernel
 exact this
theorem c0y{K:Fg}{E:XK}(hB:Bag H b c)(k:∀s H',NmS s->Bag H' b c->w4 b H H'->Q (.str s) H'):a6V K [.ref b] H Q E:=by
 refine⟨rfl,?_⟩
 unfold b6Y
 walk_at "go"
 refine b3c (small (by decide +kernel)) ?_
 walk_at "go"
 refine F1 hB (by decide) (by decide) fun n H1 n0 n1 B1 k1=>?_
 obtain⟨ch,hc,hc2⟩:=a1P (xs:=("abcdefghijklmnopqrstuvwxyz" : Str).cps.toList) n0 (by
  have:(("abcdefghijklmnopqrstuvwxyz" : Str).cps.toList).length=26:=by decide +kernel
  omega)
 refine b7G (small (by decide +kernel)) hc ?_
 walk_at "go"
 exact_mod_cast O5 (Y5 ?_)
 walk_at "go"
 refine F1 B1 (by decide) (by decide) fun m H2 m0 m1 B2 k2=>?_
 walk_at "go"
 refine⟨m,rfl,by omega,by omega,fun D hD=>?_⟩
 obtain⟨nb,nc⟩:=B2.nb hD
 refine a0L (fun i ys H3=>∃cs:List Nat,ys=cs.map (fun k=>V.str (⟨#[k]⟩:Str))/\cs.length=i/\(∀c∈cs,c∈SGN.cps.toList)/\H3 D=some (.lst ys)/\Bag H3 b c/\w4 b H2 H3) ?_ ?_ ?_ ?_
 ·exact⟨[],rfl,rfl,by simp,c5,B2.new hD,w4.new hD⟩
 ·rintro i ys H3 ⟨_,_,_,_,h,_⟩
  exact h
 ·rintro i ys H3 hi ⟨cs,rfl,rfl,h1,hd,B3,k3⟩ R hR
  ext
  refine F1 B3 (by decide) (by decide) fun j H4 j0 j1 B4 k4=>?_
  obtain⟨cj,hcj,hcj2⟩:=a1P (xs:=(("abcdefghijklmnopqrstuvwxyz" : Str)++("0123456789" : Str)).cps.toList) j0 (by
   have:((("abcdefghijklmnopqrstuvwxyz" : Str)++("0123456789" : Str)).cps.toList).length=36:=by decide +kernel
   omega)
  refine b7G (small (by decide +kernel)) hcj ?_
  refine hR _ _ (k4.1 _ _ hd nb) (E8 (by rw[a9];omega)) ⟨cs++[cj],by simp,by simp,?_,c5,B4.put nb nc,(k3.trans k4).put hD⟩
  intro s hs
  rcases l7.mp hs with q | q
  ·exact h1 s q
  ·rw[j3.mp q,<-b7d]
   exact mI hcj2
 ·rintro ys H3 ⟨cs,rfl,hn,h1,hd,B3,k3⟩
  ext
  have he:cs.map (fun k=>V.str (⟨#[k]⟩:Str))=(cs.map fun k=>(⟨#[k]⟩:Str)).map V.str:=by rw[R5];rfl
  rw[he]at hd
  have hsum:((cs.map fun k=>(⟨#[k]⟩:Str)).map (·.length)).sum=cs.length:=by
   clear hn hd he h1
   induction cs with
   | nil=>rfl
   | cons s r ih=>
    rw[C4,C4,b2w,ih,q9]
    show 1+_=_
    omega
  refine a9U hd (a4k _) ?_ ?_
  ·rw[hsum,a9]
   show cs.length+cs.length * 0<=_
   omega
  ·have hj:Txt.join (Str.ofString "") (cs.map fun k=>(⟨#[k]⟩:Str))=⟨cs.toArray⟩:=b3A cs
   rw[hj]
   have hl7:cs.length<=7:=by omega
   have hN:=c4M (mI hc2) h1 hl7
   refine b3c (small ?_) ?_
   ·have:=hN.2
    rw[Str.length_append]at this
    omega
   ·exact k _ _ hN B3 ((k1.trans k2).trans k3)
theorem b8O(ss:List Str):(ss.map V.str).all E5=true:=by
 rw[v7]
 intro x hx
 obtain⟨s,_,rfl⟩:=A0.mp hx
 rfl
theorem b1Q{K:Fg}{E:XK}(hB:Bag H b c)(k:∀a H',a1Q H' a->Bag H' b c->w4 b H H'->H a=none->Q (.ref a) H'):a3e K [.ref b] H Q E:=by
 refine⟨rfl,?_⟩
 unfold b4k
 walk_at "go"
 refine C3 (by decide) fun p1 G1 h1 e1 s1=>?_
 walk_at "go"
 refine C3 (by decide) fun p2 G2 h2 e2 s2=>?_
 walk_at "go"
 refine a5R (s2 _ _ e1) e2 (C3 (by decide) fun p3 H0 h3 e3 s3'=>?_)
 have s3:o6 H H0:=(s1.trans s2).trans s3'
 have B0:=hB.same s3
 obtain⟨M,hM⟩:∃M:List Str,M=(["a","k0","ab","set","abc","k1","abcdefgh","b","ask","x9","a1","abcdefg","plus","ba","k10","z"]:List Str):=⟨_,rfl⟩
 have hm:H0 p3=some (.lst (M.map V.str)):=by rw[e3,hM];rfl
 have nM:∀s∈M,NmS s:=by rw[hM];exact c0A
 have lM:M.length=16:=by rw[hM];rfl
 clear hM e1 e2 e3 h1 h2 h3 s1 s2 s3'
 walk_at "go"
 refine F1 B0 (by decide) (by decide) fun f H1 f0 f1 B1 k1=>?_
 walk_at "go"
 refine F1 B1 (by decide) (by decide) fun g H2 g0 g1 B2 k2=>?_
 refine a0t (.inl (by omega)) ?_
 walk_at "go"
 exists C3 (by decide) fun D H2' hD hd2 s2=>?_
 have pb:p3≠b:=by
  obtain⟨i0,i1,i2,ns,hb,_⟩:=B0.ex
  refine L3 hm hb ?_
  intro z
  have z:=HO.lst.inj z
  cases M with
  | nil=>cases lM
  | cons s r=>cases z
 have hm2:H2 p3=some (.lst (M.map V.str)):=k2.1 _ _ (k1.1 _ _ hm pb) pb
 obtain⟨nb,nc⟩:=B2.nb hD
 have hDp:D≠p3:=(c4 hm2 hD).symm
 exact_mod_cast a0r ?_
 exact_mod_cast a0s (Y5 ?_)
 walk_at "go"
 refine F1 (B2.same s2) (by decide) (by decide) fun m H3 m0 m1 B3 k3=>?_
 walk_at "go"
 have hd3:H3 D=some (.lst (([]:List Str).map V.str)):=k3.1 _ _ hd2 nb
 have k03:w4 b H2 H3:=(w4.of_same s2).trans k3
 refine⟨2+m,rfl,by omega,by omega,a0z (fun i σ H4=>∃x5 x6 ss,(∀s∈(ss:List Str),NmS s)/\σ=[some (.ref b),some (.ref p3),some (.int f),some (.int (1+2 * g)),some (.ref D),x5,x6]/\H4 D=some (.lst ((ss:List Str).map V.str))/\ss.length<=i/\(0<i->ss≠[])/\Bag H4 b c/\w4 b H2 H4) ?_ ?_ ?_⟩
 ·exact⟨_,_,[],by simp,rfl,hd3,d5 _,by simp,B3,k03⟩
 ·rintro i _ H4 hi ⟨x5,x6,ss,hss,rfl,hd,hl,hne,B4,k4⟩
  have hi:i<(2+m).toNat:=hi
  ext
  exact_mod_cast X5 (P:=fun σ H5=>∃s,NmS s/\σ=[some (.ref b),some (.ref p3),some (.int f),some (.int (1+2 * g)),some (.ref D),some (.int (0+i)),some (.str s)]/\H5 D=some (.lst ((ss:List Str).map V.str))/\Bag H5 b c/\w4 b H2 H5) ?_ ?_
  ·rintro _ H5 ⟨s,hs,rfl,hd5,B5,k5⟩
   exact_mod_cast X5 (P:=fun σ H6=>∃s,NmS s/\σ=[some (.ref b),some (.ref p3),some (.int f),some (.int (1+2 * g)),some (.ref D),some (.int (0+i)),some (.str s)]/\H6 D=some (.lst ((ss:List Str).map V.str))/\Bag H6 b c/\w4 b H2 H6) ?_ ?_
   ·rintro _ H6 ⟨s,hs,rfl,hd6,B6,k6⟩
    ext
    exists c1W hd6 rfl (b8O ss) ?_
    refine a0p (fun e=>?_) (fun e=>?_)
    ·ext
     specialize a5Q ?_
     exists ⟨.inl ⟨rfl,_,SqL.of hd6⟩,?_⟩
     refine a1h hd6 (E8 (by rw[a9];omega)) ?_
     exact⟨_,_,ss++[s],b9q hss hs,rfl,by rw[c5];simp,by rw[j4,G8];omega,fun _=>by simp,B6.put nb nc,k6.put hD⟩
    ·ext
     refine⟨_,_,ss,hss,rfl,hd6,by omega,fun _ z=>?_,B6,k6⟩
     subst z
     exact e rfl
   ·intro nx hnx
    ext
    exists F1 B5 (by decide) (by decide) fun q H6 _ _ B6 k6=>?_
    refine a0p (fun _=>?_) (fun _=>?_)
    ·ext
     exists c0y B6 fun s' H7 hs' B7 k7=>?_
     exact hnx _ _ ⟨s',hs',rfl,k7.1 _ _ (k6.1 _ _ hd5 nb) nb,B7,(k5.trans k6).trans k7⟩
    ·ext
     exact hnx _ _ ⟨s,hs,rfl,k6.1 _ _ hd5 nb,B6,k5.trans k6⟩
  ·intro nx hnx
   ext
   exists a0t (.inl (by omega)) ?_
   refine a0t (by decide) ?_
   obtain⟨v,hv,hv2⟩:=a1P (xs:=M.map V.str) (i:=(f+(0+(i:Int)) * (1+2 * g)) % 16) (R7 _ (by decide)) (by
    rw[a9,lM]
    exact Q4 _ (by decide))
   obtain⟨s,hsM,rfl⟩:=A0.mp (mI hv2)
   exists F8 (k4.1 _ _ hm2 pb) hv ?_
   exact hnx _ _ ⟨s,nM s hsM,rfl,hd,B4,k4⟩
 ·rintro _ H4 ⟨x5,x6,ss,hss,rfl,hd,hl,hne,B4,k4⟩
  walk_at "go"
  refine k D H4 ⟨ss,hd,hne (by omega),by omega,hss⟩ B4 (((w4.of_same s3).trans (k1.trans k2)).trans k4) ?_
  exact(w4.of_same (b:=b) s3).none (k1.none (k2.none hD))
theorem c4y:(10:Int) ^ (12:Int).toNat=1000000000000:=by decide
theorem b6P{K:Fg}{E:XK}(hB:Bag H b c)(k:∀n H',0<=n->n<1000000000000->Bag H' b c->w4 b H H'->Q (.int n) H'):a4W K [.ref b] H Q E:=by
 refine⟨rfl,?_⟩
 unfold b4i
 walk_at "go"
 refine a0t ⟨by decide,by decide,by decide⟩ ?_
 walk_at "go"
 refine F1 hB (by decide) (by decide) fun n1 H1 a0 a1 B1 k1=>?_
 walk_at "go"
 refine F1 B1 (by decide) (by decide) fun n2 H2 b0 b1 B2 k2=>?_
 walk_at "go"
 refine C3 (by simp) fun p G hp e s=>?_
 walk_at "go"
 refine F1 (B2.same s) (by decide) (by decide) fun n3 H3 c0 c1 B3 k3=>?_
 have hp3:=k3.1 p _ e (B2.nb hp).1
 rw[c4y]at hp3
 have kk:w4 b H H3:=(k1.trans k2).trans ((w4.of_same s).trans k3)
 obtain⟨v,hv,hv2⟩:=a1P (xs:=([.int 0,.int 1,.int (1000000000000 - 1 - n1),.int n2]:List V)) c0 (by simpa using c1)
 refine F8 hp3 hv ?_
 have:∃n,v=.int n/\0<=n/\n<1000000000000:=by
  have m:=mI hv2
  simp only[c7,g7,or_false]at m
  rcases m with rfl | rfl | rfl | rfl
  ·exact⟨0,rfl,by decide,by decide⟩
  ·exact⟨1,rfl,by decide,by decide⟩
  ·exact⟨_,rfl,by omega,by omega⟩
  ·exact⟨_,rfl,by omega,by omega⟩
 obtain⟨n,rfl,q0,q1⟩:=this
 exact k n H3 q0 q1 B3 kk
theorem a1j{K:Fg}{E:XK}(hB:Bag H b c)(hN:a1Q H a)(k:∀v H',OpN v->Bag H' b c->w4 b H H'->Q v H'):V7 K [.ref b,.ref a] H Q E:=by
 refine⟨rfl,?_⟩
 unfold a9c
 nofun
 exists F1 hB (by decide) (by decide) fun n1 H1 a0 a1 B1 k1=>?_
 refine a0p (fun _=>?_) (fun _=>?_)
 ·ext
  exact b6P B1 fun n H2 q0 q1 B2 k2=>k _ _ (.inr ⟨n,rfl,q0,q1⟩) B2 (k1.trans k2)
 ·ext
  obtain⟨N1,ne⟩:=hN.kept hB k1
  obtain⟨ss,h1,h2,h3,h4⟩:=N1.ex
  exists G6 h1 ?_
  have hl:0<ss.length:=a5B.mpr h2
  refine F1 B1 (by rw[a9];omega) (by rw[a9];omega) fun n2 H2 b0 b1 B2 k2=>?_
  obtain⟨v,hv,hv2⟩:=a1P (xs:=ss.map V.str) b0 b1
  obtain⟨s,hs,rfl⟩:=A0.mp (mI hv2)
  exact F8 (k2.1 _ _ h1 ne) hv (k _ _ (.inl ⟨s,rfl,h4 s hs⟩) B2 (k1.trans k2))
theorem b4I{K:Fg}{E:XK}(hB:Bag H b c)(hN:a1Q H a)(k:∀p H',a6D H' p->H p=none->Bag H' b c->w4 b H H'->Q (.ref p) H'):a4X K [.ref b,.ref a] H Q E:=by
 refine⟨rfl,?_⟩
 unfold b7b
 nofun
 exists C3 (by decide) fun p G hp e s=>?_
 refine F1 (hB.same s) (by decide) (by decide) fun n1 H1 a0 a1 B1 k1=>?_
 have hp1:=k1.1 p _ e (hB.nb hp).1
 have k01:w4 b H H1:=(w4.of_same s).trans k1
 obtain⟨v,hv,hv2⟩:=a1P (xs:=([.str "plus",.str "minus",.str "times",.str "less",.str "same"]:List V)) a0 (by simpa using a1)
 refine F8 hp1 hv ?_
 have:∃kd:Str,v=.str kd/\kd∈(["plus","minus","times","less","same"]:List Str):=by
  have m:=mI hv2
  simp only[c7,g7,or_false]at m
  rcases m with rfl | rfl | rfl | rfl | rfl <;> exact⟨_,rfl,by simp⟩
 obtain⟨kd,rfl,hkd⟩:=this
 ext
 nofun
 obtain⟨N1,_⟩:=hN.kept hB k01
 exists a1j B1 N1 fun v1 H2 o1 B2 k2=>?_
 nofun
 obtain⟨N2,_⟩:=N1.kept B1 k2
 exists a1j B2 N2 fun v2 H3 o2 B3 k3=>?_
 exact_mod_cast X5 (P:=fun σ H4=>∃v2,σ=[some (.ref b),some (.ref a),some (.str kd),some v1,some v2]/\OpN v2/\Bag H4 b c/\w4 b H3 H4) ?_ ?_
 ·rintro _ H4 ⟨v2,rfl,o2,B4,k4⟩
  ext
  refine C3 (by simp) fun q G hq e s=>?_
  exact k q _ ⟨kd,v1,v2,e,o1,o2,hkd⟩ (k01.none (k2.none (k3.none (k4.none hq)))) (B4.same s) ((((k01.trans k2).trans k3).trans k4).trans (w4.of_same s))
 ·intro nx hnx
  ext
  exists F1 B3 (by decide) (by decide) fun n4 H4 d0 d1 B4 k4=>?_
  refine a0p (fun _=>?_) (fun _=>?_)
  ·ext
   exact hnx _ _ ⟨v1,rfl,o1,B4,k4⟩
  ·ext
   exact hnx _ _ ⟨v2,rfl,o2,B4,k4⟩
theorem b7B{K:Fg}{E:XK}(hB:Bag H b c)(hN:a1Q H a)(hP:a9t H p)(k:∀v H',a8U H' v (m == 2)->Bag H' b c->w4 b H H'->Q v H'):a7J K [.ref b,.ref a,.ref p,.int (m:Int)] H Q E:=by
 refine⟨rfl,?_⟩
 unfold c1k
 nofun
 by_cases h2:m=2
 ·subst h2
  exists F9 (by decide) ?_
  exists a1j hB hN fun v H1 o1 B1 k1=>?_
  refine C3 (by simp) fun q G hq e s=>?_
  exact k _ _ ⟨q,_,rfl,e,.ask v o1,_,_,rfl,by decide⟩ (B1.same s) (k1.trans (w4.of_same s))
 have hm:(m == 2)=false:=by simpa using h2
 rw[hm]at k
 exists A8 (c6F (by intro z;have:=V.int.inj z;omega)) ?_
 nofun
 exists F1 hB (by decide) (by decide) fun w H1 w0 w1 B1 k1=>?_
 nofun
 obtain⟨N1,na⟩:=hN.kept hB k1
 have P1:=hP.kept hB k1
 obtain⟨ss,s1,s2,s3,s4⟩:=N1.ex
 exists G6 s1 ?_
 refine b4x B1 s1 na (by simpa using s2) (by rw[a9];omega) fun n v H2 e1 e2 a2 B2 k2=>?_
 refine F8 a2 e1 ?_
 obtain⟨s,hs,rfl⟩:=A0.mp e2
 have ns:=s4 s hs
 ext
 obtain⟨N2,_⟩:=N1.kept B1 k2
 have P2:=P1.kept B1 k2
 have k02:=k1.trans k2
 nofun
 refine a0p (fun _=>?_) (fun _=>?_)
 ·obtain⟨ps,p1,p2,p3,p4⟩:=P2.ex
  ext
  exists G6 p1 ?_
  refine b4x B2 p1 (a3G B2 p1) (by simpa using p2) (by rw[a9];omega) fun n v H3 f1 f2 a3 B3 k3=>?_
  refine F8 a3 f1 ?_
  obtain⟨d,hd,rfl⟩:=A0.mp f2
  have hd3:=(p4 d hd).ts (w4.ts k3 B2)
  ext
  refine C3 (by simp) fun q G hq e s=>?_
  exact k _ _ ⟨q,_,rfl,e,.set _ d ns (hd3.ts (o6.ts s)),_,_,rfl,by decide⟩ (B3.same s) ((k02.trans k3).trans (w4.of_same s))
 ext
 nofun
 refine a0p (fun _=>?_) (fun _=>?_)
 ·ext
  exists a1j B2 N2 fun v H3 o1 B3 k3=>?_
  refine C3 (by simp) fun q G hq e s=>?_
  exact k _ _ ⟨q,_,rfl,e,.copy _ v ns o1,_,_,rfl,by decide⟩ (B3.same s) ((k02.trans k3).trans (w4.of_same s))
 ext
 nofun
 refine a0p (fun _=>?_) (fun _=>?_)
 ·ext
  refine C3 (by simp) fun q G hq e s=>?_
  exact k _ _ ⟨q,_,rfl,e,.take _ ns,_,_,rfl,by decide⟩ (B2.same s) (k02.trans (w4.of_same s))
 ext
 exists a1j B2 N2 fun v H3 o1 B3 k3=>?_
 exists C3 (by simp) fun q1 G1 hq1 e1 s1=>?_
 exists C3 (by simp) fun q2 G2 hq2 e2 s2=>?_
 exists C3 (by simp) fun q3 G3 hq3 e3 s3=>?_
 have sB:=(B3.same s1).same s2
 refine F1 (sB.same s3) (by decide) (by decide) fun j H4 j0 j1 B4 k4=>?_
 obtain⟨x,hx,hx2⟩:=a1P (xs:=[V.ref q1,V.ref q2]) j0 (by simpa using j1)
 refine F8 (k4.1 _ _ e3 (sB.nb hq3).1) hx ?_
 have kk:w4 b H H4:=(k02.trans k3).trans ((w4.of_same ((s1.trans s2).trans s3)).trans k4)
 have f1:H4 q1=_:=k4.1 _ _ (s3 _ _ (s2 _ _ e1)) (B3.nb hq1).1
 have f2:H4 q2=_:=k4.1 _ _ (s3 _ _ e2) ((B3.same s1).nb hq2).1
 have m:=mI hx2
 simp only[c7,g7,or_false]at m
 rcases m with rfl | rfl
 ·exact k _ _ ⟨q1,_,rfl,f1,.tell v o1,_,_,rfl,by decide⟩ B4 kk
 ·exact k _ _ ⟨q2,_,rfl,f2,.skip,_,_,rfl,by decide⟩ B4 kk
theorem c2X{K:Fg}{E:XK}(hB:Bag H b c)(m0:0<m)(m1:m<=24)
  (k:∀a N H',A9 H' a N->N.length=m->(∀l∈N,l.length<=2/\∀t∈l,t<m)->N[m - 1]? = some []->Bag H' b c->w4 b H H'->Q (.ref a) H'):a9I K [.ref b,.int (m:Int)] H Q E:=by
 refine⟨rfl,?_⟩
 unfold c1l
 nofun
 exists C3 (by simp) fun D H1 hD e1 s1=>?_
 obtain⟨nb,nc⟩:=hB.nb hD
 have B1:=hB.same s1
 exact_mod_cast a0r ?_
 specialize a0s (Y5 ?_)
 refine⟨m,rfl,by omega,by omega,?_⟩
 rw[A3]
 refine a0z (fun i σ H2=>∃x3 x4 x5 x6 as N,σ=[some (.ref b),some (.int (m:Int)),some (.ref D),x3,x4,x5,x6]/\a8V H H2 b c D m as N/\N.length=i/\(i=m->N[m - 1]? = some [])) ?_ ?_ ?_
 ·exact⟨_,_,_,_,[],[],rfl,⟨B1,w4.of_same s1,e1,nb,nc,rfl,fun i x l e=>by simp at e,fun l h=>by simp at h⟩,rfl,fun z=>by omega⟩
 ·rintro i _ H2 hi ⟨x3,x4,x5,x6,as,N,rfl,I2,hlen,_⟩
  ext
  rw[S0]
  nofun
  exists c4p ?_
  obtain⟨r,hr,hrm⟩:∃r:Nat,(if(m:Int) - 1<(i:Int)+1 then (m:Int) - 1 else (i:Int)+1)=(r:Int)/\r<m:=by
   by_cases h:(m:Int) - 1<(i:Int)+1
   ·exact⟨m - 1,by rw[if_pos h];omega,by omega⟩
   ·exact⟨i+1,by rw[if_neg h];omega,by omega⟩
  rw[hr]
  nofun
  refine F1 I2.bag (by omega) (by omega) fun j H3 j0 j1 B3 k3=>?_
  obtain⟨j,rfl⟩:=U3 j0
  ext
  exists C3 (by simp) fun q H4 hq e4 s4=>?_
  have I3:=I2.next B3 k3
  have I4:=I3.next (B3.same s4) (w4.of_same s4)
  have S4:a5u H4 b D q m [r,j]:=⟨e4,(c4 I3.hD hq).symm,(B3.nb hq).1,by simp,fun t ht=>by
   simp only[c7,g7,or_false]at ht
   rcases ht with rfl | rfl
   ·exact hrm
   ·omega⟩
  nofun
  exists F1 I4.bag (by decide) (by decide) fun w H5 w0 w1 B5 k5=>?_
  have I5:=I4.next B5 k5
  have S5:=S4.next k5
  exact_mod_cast X5 (P:=fun σ H6=>∃q l,σ=[some (.ref b),some (.int (m:Int)),some (.ref D),some (.int (i:Int)),some (.int (r:Int)),some (.ref q),some (.int w)]/\a8V H H6 b c D m as N/\a5u H6 b D q m l/\l.length=2) ?_ ?_
  rotate_left
  ·intro nx hnx
   ext
   refine a0p (fun _=>?_) (fun _=>?_)
   ·ext
    exists F8 S5.h (a6j _ _ _) ?_
    refine C3 (by simp) fun q6 H6 hq6 e6 s6=>?_
    exact hnx _ _ ⟨q6,[j,r],rfl,I5.next (B5.same s6) (w4.of_same s6),⟨e6,(c4 I5.hD hq6).symm,(B5.nb hq6).1,by simp,fun t ht=>by
     simp only[c7,g7,or_false]at ht
     rcases ht with rfl | rfl
     ·exact S5.lt _ (by simp)
     ·exact S5.lt _ (by simp)⟩,rfl⟩
   ·ext
    exact hnx _ _ ⟨q,[r,j],rfl,I5,S5,rfl⟩
  rintro _ H6 ⟨q,l,rfl,I6,S6,hl6⟩
  obtain⟨l0,l1,rfl⟩:∃l0 l1,l=[l0,l1]:=by
   match l,hl6 with
   | [a,b],_=>exact⟨a,b,rfl⟩
  exact_mod_cast X5 (P:=fun σ H6=>∃q l,σ=[some (.ref b),some (.int (m:Int)),some (.ref D),some (.int (i:Int)),some (.int (r:Int)),some (.ref q),some (.int w)]/\a8V H H6 b c D m as N/\a5u H6 b D q m l/\l.length=2) ?_ ?_
  rotate_left
  ·intro nx hnx
   ext
   refine a0p (fun _=>?_) (fun _=>?_)
   ·ext
    exists F8 S6.h (a6j _ _ _) ?_
    refine F1 I6.bag (by omega) (by omega) fun j2 H7 z0 z1 B7 k7=>?_
    obtain⟨j2,rfl⟩:=U3 z0
    ext
    have I7:=I6.next B7 k7
    refine C3 (by simp) fun q8 H8 hq8 e8 s8=>?_
    exact hnx _ _ ⟨q8,[l1,j2],rfl,I7.next (B7.same s8) (w4.of_same s8),⟨e8,(c4 I7.hD hq8).symm,(B7.nb hq8).1,by simp,fun t ht=>by
     simp only[c7,g7,or_false]at ht
     rcases ht with rfl | rfl
     ·exact S6.lt _ (by simp)
     ·omega⟩,rfl⟩
   ·ext
    exact hnx _ _ ⟨q,_,rfl,I6,S6,rfl⟩
  clear S6 I6 l0 l1 hl6 S5 I5 S4 I4 I3 B3 k3 B5 k5 s4 e4 hq
  rintro _ H6 ⟨q,l,rfl,I6,S6,hl6⟩
  obtain⟨l0,l1,rfl⟩:∃l0 l1,l=[l0,l1]:=by
   match l,hl6 with
   | [a,b],_=>exact⟨a,b,rfl⟩
  exact_mod_cast X5 (P:=fun σ H6=>∃q l,σ=[some (.ref b),some (.int (m:Int)),some (.ref D),some (.int (i:Int)),some (.int (r:Int)),some (.ref q),some (.int w)]/\a8V H H6 b c D m as N/\a5u H6 b D q m l/\(w=7->1<m->l.length=2)) ?_ ?_
  rotate_left
  ·intro nx hnx
   have one:∀H7,H7=H6->((w=7/\1<m)->False)->New (.lst [V.int (r:Int)]) 1 H7 fun v H1=>nx [some (.ref b),some (.int (m:Int)),some (.ref D),some (.int (i:Int)),some (.int (r:Int)),some v,some (.int w)] H1:=by
    rintro _ rfl hw
    refine C3 (by simp) fun q8 H8 hq8 e8 s8=>?_
    exact hnx _ _ ⟨q8,[r],rfl,I6.next (I6.bag.same s8) (w4.of_same s8),⟨e8,(c4 I6.hD hq8).symm,(I6.bag.nb hq8).1,by simp,fun t ht=>by rw[j3.mp ht];exact hrm⟩,fun h1 h2=>(hw ⟨h1,h2⟩).elim⟩
   ext
   refine a0p (fun a3=>?_) (fun a3=>?_)
   ·ext
    refine a0p (fun a7=>?_) (fun a7=>?_)
    ·exists F9 rfl ?_
     exact one _ rfl fun⟨z,_⟩=>by have:=of_decide_eq_true a7;omega
    ·ext
     refine a0p (fun a1=>?_) (fun a1=>?_)
     ·ext
      rw[b2f]at a1
      exact one _ rfl fun⟨_,z⟩=>by have:=of_decide_eq_true a1;omega
     ·ext
      exact hnx _ _ ⟨q,_,rfl,I6,S6,fun _ _=>rfl⟩
   ·ext
    exists A8 rfl ?_
    refine a0p (fun a1=>?_) (fun a1=>?_)
    ·ext
     rw[b2f]at a1
     exact one _ rfl fun⟨_,z⟩=>by have:=of_decide_eq_true a1;omega
    ·ext
     exact hnx _ _ ⟨q,_,rfl,I6,S6,fun _ _=>rfl⟩
  clear S6 I6 l0 l1 hl6
  rintro _ H6 ⟨q,l,rfl,I6,S6,hl6⟩
  exact_mod_cast X5 (P:=fun σ H6=>∃q l,σ=[some (.ref b),some (.int (m:Int)),some (.ref D),some (.int (i:Int)),some (.int (r:Int)),some (.ref q),some (.int w)]/\a8V H H6 b c D m as N/\a5u H6 b D q m l) ?_ ?_
  rotate_left
  ·intro nx hnx
   ext
   refine a0p (fun a7=>?_) (fun a7=>?_)
   ·ext
    refine a0p (fun a1=>?_) (fun a1=>?_)
    ·rw[b2f]at a7
     have a7:=of_decide_eq_true a7
     have a1:=of_decide_eq_true a1
     have hl:=hl6 a7 (by omega)
     obtain⟨l0,l1,rfl⟩:∃l0 l1,l=[l0,l1]:=by
      match l,hl with
      | [a,b],_=>exact⟨a,b,rfl⟩
     ext
     exists F8 S6.h (a6j _ _ _) ?_
     refine C3 (by simp) fun q8 H8 hq8 e8 s8=>?_
     exact hnx _ _ ⟨q8,[l1],rfl,I6.next (I6.bag.same s8) (w4.of_same s8),⟨e8,(c4 I6.hD hq8).symm,(I6.bag.nb hq8).1,by simp,fun t ht=>by rw[j3.mp ht];exact S6.lt _ (by simp)⟩⟩
    ·ext
     exact hnx _ _ ⟨q,_,rfl,I6,S6⟩
   ·exists A8 rfl ?_
    exact hnx _ _ ⟨q,_,rfl,I6,S6⟩
  clear S6 I6 hl6 l
  rintro _ H6 ⟨q,l,rfl,I6,S6⟩
  exact_mod_cast X5 (P:=fun σ H6=>∃q l,σ=[some (.ref b),some (.int (m:Int)),some (.ref D),some (.int (i:Int)),some (.int (r:Int)),some (.ref q),some (.int w)]/\a8V H H6 b c D m as N/\a5u H6 b D q m l/\(i+1=m->l=[])) ?_ ?_
  rotate_left
  ·intro nx hnx
   have none:∀H7,a8V H H7 b c D m as N->New (.lst []) 0 H7 fun v H1=>nx [some (.ref b),some (.int (m:Int)),some (.ref D),some (.int (i:Int)),some (.int (r:Int)),some v,some (.int w)] H1:=by
    intro H7 I7
    refine C3 (by simp) fun q8 H8 hq8 e8 s8=>?_
    exact hnx _ _ ⟨q8,[],rfl,I7.next (I7.bag.same s8) (w4.of_same s8),⟨e8,(c4 I7.hD hq8).symm,(I7.bag.nb hq8).1,by simp,fun t ht=>by simp at ht⟩,fun _=>rfl⟩
   ext
   refine a0p (fun a1=>?_) (fun a1=>?_)
   ·exists F9 rfl ?_
    exact none _ I6
   ·rw[b2f]at a1
    have a1:¬((i:Int)=(m:Int) - 1):=fun z=>a1 (c6G z)
    ext
    refine a0p (fun a6=>?_) (fun a6=>?_)
    ·ext
     exists F1 I6.bag (by decide) (by decide) fun z H7 z0 z1 B7 k7=>?_
     refine a0p (fun a0=>?_) (fun a0=>?_)
     ·ext
      exact none _ (I6.next B7 k7)
     ·ext
      exact hnx _ _ ⟨q,l,rfl,I6.next B7 k7,S6.next k7,fun z=>by omega⟩
    ·exists A8 rfl ?_
     exact hnx _ _ ⟨q,l,rfl,I6,S6,fun z=>by omega⟩
  clear S6 I6 l
  rintro _ H6 ⟨q,l,rfl,I6,S6,hlast⟩
  ext
  specialize a5Q ?_
  exists ⟨a2i I6.hD,?_⟩
  refine a1h I6.hD (E8 (by rw[a9,I6.len];omega)) ?_
  have nqc:D≠c:=I6.nc
  refine⟨_,_,_,_,as++[q],N++[l],rfl,⟨I6.bag.put I6.nb nqc,I6.kept.put hD,by rw[c5];simp,I6.nb,I6.nc,by simp[I6.len],?_,?_⟩,by simp[hlen],?_⟩
  ·intro i' x' l' e1' e2'
   rcases W9 e1' with ⟨hi1,f1⟩ | ⟨hi1,f1⟩
   ·rcases W9 e2' with ⟨hi2,f2⟩ | ⟨hi2,f2⟩
    ·obtain⟨g1,g2,g3⟩:=I6.at_ i' x' l' f1 f2
     exact⟨by rw[c9 g2];exact g1,g2,g3⟩
    ·have:=I6.len;omega
   ·rcases W9 e2' with ⟨hi2,f2⟩ | ⟨hi2,f2⟩
    ·have:=I6.len;omega
    ·subst f1 f2
     exact⟨by rw[c9 S6.nD];exact S6.h,S6.nD,S6.nb⟩
  ·intro l' hl'
   rcases l7.mp hl' with z | z
   ·exact I6.small l' z
   ·rw[j3.mp z];exact⟨S6.len,S6.lt⟩
  ·intro z
   rw[hlast z]
   have:m - 1=N.length:=by omega
   rw[this];simp
 ·rintro _ H2 ⟨x3,x4,x5,x6,as,N,rfl,I2,hlen,hlast⟩
  ext
  exact k D N H2 ⟨as,I2.hD,I2.len,fun i x l e1 e2=>(I2.at_ i x l e1 e2).1⟩ hlen I2.small (hlast rfl) I2.bag I2.kept
theorem c4S(xs:List V):a1r xs (some 1) none=xs.drop 1:=by
 cases xs with
 | nil=>rfl
 | cons a r=>rw[c3p];rfl
theorem c0Z(l:List Nat)(n:Nat):(IL l).drop n=IL (l.drop n):=by unfold IL;rw[List.map_drop]
theorem b3G(xs:List V):a0A xs []=decide (xs.length=0):=by
 unfold a0A
 rw[show min xs.length ([]:List V).length=0 by simp]
 simp only[List.range_zero,a1I,c4X,a3S]
 by_cases h:xs.length=0
 ·rw[h];rfl
 ·rw[c6F h]
  simpa using h
theorem c3t{G:List Nat}(h:(l.map fun t=>decide (t∈G)).any id=true):∃t∈l,t∈G:=by
 obtain⟨x,hx,e⟩:=c1w.mp h
 obtain⟨t,ht,rfl⟩:=A0.mp hx
 exact⟨t,ht,of_decide_eq_true e⟩
theorem b4D{α:Type}(l:List Nat)(f:Nat->α)(i:Nat)(e:l[i]? = some t):(l.take (i+1)).map f=(l.take i).map f++[f t]:=by
 rw[D5,e];simp
structure a2N(H0 H:Hp)(d:Addr)(N:Nt)(G:List Nat):Prop where
 same:o6 H0 H
 hd:H d=some (.dK (KS G))
 nd:G.Nodup
 lt:∀k∈G,k<N.length
 gd:∀k∈G,Gd N k
theorem a2N.next{G:List Nat}(h:a2N H0 H d N G)(s:o6 H H'):a2N H0 H' d N G:=⟨h.same.trans s,s _ _ h.hd,h.nd,h.lt,h.gd⟩
theorem a2N.put{G:List Nat}(h:a2N H0 H d N G)(n:H0 d=none){k:Nat}(hk:k<N.length)(g:Gd N k):a2N H0 (upd H d (.dK (KS (a3i G k)))) d N (a3i G k):=
 ⟨fun b o e=>by rw[c9 (c4 e n)];exact h.same b o e,c5,a7d h.nd,fun j hj=>(V9.mp hj).elim (h.lt j) fun z=>z ▸ hk,fun j hj=>(V9.mp hj).elim (h.gd j) fun z=>z ▸ g⟩
theorem c0K{K:Fg}{x2 x4 x5 x6:Option V}{G:List Nat}{D:a8w}(n0:H0 d=none)(hn:A9 H a N)(hN:N.length<=24)(hl:N[i]? = some l)(hl2:l.length<=2)(hG:a2N H0 H d N G)
  (k:∀H' G',a2N H0 H' d N G'->(∀j∈G,j∈G')->(l=[]->i∈G')->A9 H' a N->D.nx [some (.ref a),some (.ref d),x2,some (.int (i:Int)),x4,x5,x6] H') :
  L4 (tOr (A7 (tOp qEq (tOp qIx (b6 0) (b6 3)) (S3 (c8)))) (tB (tCB b3e (a8 (M4 (T8 K (tOp qIx (b6 0) (b6 3))) (L7) (a9F (b6 0) (b6 2))) (c8))))) (a5d (b6 1) (b6 3) (tC (.bl true))) (C6) D
   [some (.ref a),some (.ref d),x2,some (.int (i:Int)),x4,x5,x6] H:=by
 have hi:i<N.length:=(gI hl)
 have hGl:G.length<100000:=by
  have:=a8f _ _ hG.nd hG.lt
  omega
 have put:∀H1,A9 H1 a N->a2N H0 H1 d N G->a≠d->(∀x,H1 x=some (.dK (KS G))->True)->Gd N i->a5d (b6 1) (b6 3) (tC (.bl true)) D [some (.ref a),some (.ref d),x2,some (.int (i:Int)),x4,x5,x6] H1:=by
  intro H1 n1 g1 nad _ gd
  specialize b2Y ?_
  refine⟨d,_,rfl,b0p g1.hd hGl i,?_⟩
  refine k _ (a3i G i) (g1.put n0 hi gd) (fun j hj=>V9.mpr (.inl hj)) (fun _=>V9.mpr (.inr rfl)) ?_
  obtain⟨as,q1,q2,q3⟩:=n1.ex
  refine⟨as,by rw[c9 nad];exact q1,q2,fun j x l' e1 e2=>?_⟩
  have q:=q3 j x l' e1 e2
  rw[c9 (L3 q g1.hd (by intro z;cases z))]
  exact q
 obtain⟨xs,x,h1,h2,h3,_⟩:=hn.at hl
 have nad:a≠d:=L3 h1 hG.hd (by intro z;cases z)
 ext
 exists F8 h1 h2 ?_
 refine C3 (by simp) fun p H1 hp e1 s1=>?_
 refine⟨_,c0O (s1 _ _ h3) e1 (b4P l) rfl,?_⟩
 rw[b3G,M3]
 ext
 by_cases hz:l=[]
 ·refine F9 (c6G (by rw[hz];rfl)) ?_
  refine F9 rfl ?_
  exact put H1 (hn.same s1) (hG.next s1) nad (fun _ _=>trivial) (.stop (hz ▸ hl))
 exists A8 (c6F fun z=>hz (b4c.mp z)) ?_
 specialize O5 (U6 ?_)
 refine F8 (s1 _ _ h1) h2 ?_
 refine⟨x,rfl,⟨_,SqL.of (s1 _ _ h3)⟩,fun E hE=>?_⟩
 have G1:=hG.next s1
 refine U0 (xs:=IL l) (fun j ys H2=>ys=(l.take j).map (fun t=>V.bl (decide (t∈G)))/\H2 E=some (.lst ys)/\o6 H1 H2) ⟨by simp,c5,o5 hE⟩ ?_ ?_ ?_ ?_
 ·rintro j ys H2 ⟨_,h,_⟩
  exact h
 ·rintro j ys H2 _ ⟨_,_,s2⟩
  exact SqL.of (s2 _ _ (s1 _ _ h3))
 ·rintro j y ys H2 hy ⟨rfl,hE2,s2⟩ R hR
  have hy:(l.map fun(n:Nat)=>V.int (n:Int))[j]? = some y:=hy
  rw[b7]at hy
  cases ht:l[j]? with
  | none=>rw[ht]at hy;cases hy
  | some t=>
   rw[ht]at hy
   cases hy
   have hj:=(gI ht)
   specialize b7u ?_
   obtain⟨o,g1,g2⟩:=a3K (s2 _ _ G1.hd) t
   refine⟨d,o,rfl,g1,?_⟩
   rw[g2]
   refine hR _ _ hE2 (E8 ?_) ⟨?_,c5,fun b o e=>?_⟩
   ·rw[a9,C8]
    omega
   ·rw[b4D l _ j ht]
   ·rw[c9 (c4 e hE)];exact s2 b o e
 ·rintro ys H2 ⟨rfl,hE2,s2⟩
  rw[M3,a0S]at hE2
  have he:l.map (fun t=>V.bl (decide (t∈G)))=(l.map fun t=>decide (t∈G)).map V.bl:=by rw[R5];rfl
  rw[he]at hE2
  ext
  exists c4s hE2 ?_
  refine a0p (fun c=>?_) (fun c=>?_)
  ·obtain⟨t,t1,t2⟩:=c3t c
   exact put H2 ((hn.same s1).same s2) (G1.next s2) nad (fun _ _=>trivial) (.step hl t1 (hG.gd t t2))
  ·ext
   exact k H2 G (G1.next s2) (fun j hj=>hj) (fun z=>(hz z).elim) ((hn.same s1).same s2)
structure b0H(H0 H:Hp)(d:Addr)(N:Nt)(S:List Nat):Prop where
 same:o6 H0 H
 hd:H d=some (.dK (KS S))
 nd:S.Nodup
 lt:∀k∈S,k<N.length
 rc:∀k∈S,Rc N k
 zero:0∈S
theorem b0H.put{S:List Nat}(h:b0H H0 H d N S)(n:H0 d=none){k:Nat}(hk:k<N.length)(g:Rc N k):b0H H0 (upd H d (.dK (KS (a3i S k)))) d N (a3i S k):=
 ⟨fun b o e=>by rw[c9 (c4 e n)];exact h.same b o e,c5,a7d h.nd,fun j hj=>(V9.mp hj).elim (h.lt j) fun z=>z ▸ hk,fun j hj=>(V9.mp hj).elim (h.rc j) fun z=>z ▸ g,V9.mpr (.inl h.zero)⟩
def a4D(N:Nt)(S:List Nat):Prop:=∀k∈S,∀l,N[k]? = some l->∀t∈l,t∈S
theorem b9K{S:List Nat}{k:Nat}(h:k∈S):a3i S k=S:=by unfold a3i;rw[if_pos h]
theorem A9.dput{ks:List (Key×V)}(h:A9 H a N)(hd:H d=some (.dK ks)):A9 (upd H d o) a N:=by
 obtain⟨as,q1,q2,q3⟩:=h.ex
 exact⟨as,by rw[c9 (L3 q1 hd (by intro z;cases z))];exact q1,q2,fun j x l e1 e2=>by
  have q:=q3 j x l e1 e2
  rw[c9 (L3 q hd (by intro z;cases z))];exact q⟩
theorem b7D{K:Fg}{x1 x2 x5 x6:Option V}{S:List Nat}{D:a8w}(n0:H0 d=none)(hn:A9 H a N)(hN:N.length<=24)(hl:N[i]? = some l)(hlt:∀t∈l,t<N.length)(hS:b0H H0 H d N S)
  (k:∀H' S' x5,b0H H0 H' d N S'->(∀j∈S,j∈S')->(i∈S->∀t∈l,t∈S')->(a4D N S->S'=S)->A9 H' a N->D.nx [some (.ref a),x1,x2,some (.int (i:Int)),some (.ref d),x5,x6] H') :
  L4 (tB (a9F (b6 3) (b6 4))) (a1o (T8 K (tOp qIx (b6 0) (b6 3))) (o0 5) (a5d (b6 4) (b6 5) (tC (.bl true)))) (C6) D [some (.ref a),x1,x2,some (.int (i:Int)),some (.ref d),x5,x6] H:=by
 ext
 specialize b7u ?_
 obtain⟨o,g1,g2⟩:=a3K hS.hd i
 refine⟨d,o,rfl,g1,?_⟩
 rw[g2]
 ext
 refine a0p (fun c=>?_) (fun c=>?_)
 ·have hi:i∈S:=of_decide_eq_true c
  obtain⟨xs,x,h1,h2,h3,_⟩:=hn.at hl
  specialize a0s (U6 ?_)
  refine F8 h1 h2 ?_
  refine⟨x,rfl,⟨_,SqL.of h3⟩,a3p (xs:=IL l) (fun j σ H2=>∃S' x5,σ=[some (.ref a),x1,x2,some (.int (i:Int)),some (.ref d),x5,x6]/\b0H H0 H2 d N S'/\(∀j∈S,j∈S')/\(∀t∈l.take j,t∈S')/\(a4D N S->S'=S)/\A9 H2 a N/\H2 x=some (.lst (IL l))) ?_ ?_ ?_ ?_⟩
  ·exact⟨S,x5,rfl,hS,fun _ h=>h,by simp,fun _=>rfl,hn,h3⟩
  ·rintro j σ H2 _ ⟨_,_,_,_,_,_,_,_,h⟩
   exact SqL.of h
  ·rintro j y _ H2 hy ⟨S',x5,rfl,I2,i1,i2,i3,n2,hx2⟩
   have hy:(l.map fun(n:Nat)=>V.int (n:Int))[j]? = some y:=hy
   rw[b7]at hy
   cases ht:l[j]? with
   | none=>rw[ht]at hy;cases hy
   | some t=>
    rw[ht]at hy
    cases hy
    have tm:=mI ht
    ext
    specialize b2Y ?_
    refine⟨d,_,rfl,b0p I2.hd (by have:=a8f _ _ I2.nd I2.lt;omega) t,?_⟩
    refine⟨a3i S' t,_,rfl,I2.put n0 (hlt t tm) (.step (hS.rc i hi) hl tm),fun j hj=>V9.mpr (.inl (i1 j hj)),fun z hz=>?_,fun hc=>?_,n2.dput I2.hd,?_⟩
    ·rw[D5,ht]at hz
     rcases l7.mp hz with q | q
     ·exact V9.mpr (.inl (i2 z q))
     ·exact V9.mpr (.inr (by simpa using q))
    ·rw[i3 hc]
     exact b9K (hc i hi l hl t tm)
    ·rw[c9 (L3 hx2 I2.hd (by intro z;cases z))];exact hx2
  ·rintro _ H2 ⟨S',x5,rfl,I2,i1,i2,i3,n2,hx2⟩
   refine k H2 S' x5 I2 i1 (fun _ t ht=>i2 t ?_) i3 n2
   rw[M3,a0S];exact ht
 ·ext
  exact k H S x5 hS (fun _ h=>h) (fun h=>(c (c6G h)).elim) (fun _=>rfl) hn
theorem b1P{ms:List Int}{S:List Nat}(h:ms.Perm (S.map fun(n:Nat)=>(n:Int))):∃O:List Nat,O.Perm S/\ms=O.map fun(n:Nat)=>(n:Int):=by
 refine⟨ms.map b4U,?_,?_⟩
 ·have:=h.map b4U
  rw[R5]at this
  have e:(b4U ∘ fun(n:Nat)=>(n:Int))=id:=by funext n;simp
  rw[e,List.map_id]at this
  exact this
 ·rw[R5]
  have:∀x∈ms,((fun(n:Nat)=>(n:Int)) ∘ b4U) x=id x:=by
   intro x hx
   obtain⟨n,_,rfl⟩:=A0.mp (h.subset hx)
   simp
  rw[b8X this,List.map_id]
theorem b2L{O:List Nat}(h:(O.map fun(n:Nat)=>(n:Int)).Pairwise (· <= ·)):O.Pairwise (· <= ·):=by
 rw[List.pairwise_map]at h
 exact h.imp fun q=>by omega
theorem b8v(O:List Nat)(t:Nat):(O.map fun(n:Nat)=>(n:Int)).idxOf (t:Int)=O.idxOf t:=by
 induction O with
 | nil=>rfl
 | cons a r ih=>
  rw[C4,c3E,c3E]
  by_cases e:a=t
  ·subst e;simp
  ·have:((a:Int) == (t:Int))=false:=by simp;omega
   have e2:(a == t)=false:=by simpa using e
   rw[this,e2,ih]
theorem M8(h:i<N.length):N[i]? = some N[i]:=by simp
theorem b5L{K:Fg}{E:XK}(hn:A9 H a N)(hp:0<N.length)(hN:N.length<=24)(hs:∀l∈N,l.length<=2/\∀t∈l,t<N.length)(hl:N[N.length - 1]? = some [])
  (k:∀a' N' H',A9 H' a' N'->a0g N'->N'.length<=24->o6 H H'->Q (.ref a') H'):a3C K [.ref a] H Q E:=by
 refine⟨rfl,?_⟩
 unfold b1i
 nofun
 exists b7t fun d H1 hd e1 s1=>?_
 have n1:=hn.same s1
 obtain⟨xs0,hx0,lx0⟩:=hn.len
 exact_mod_cast X5 (P:=fun σ H2=>∃x2 x3 G,σ=[some (.ref a),some (.ref d),x2,x3,none,none,none]/\a2N H H2 d N G/\N.length - 1∈G/\A9 H2 a N) ?_ ?_
 rotate_left
 ·intro nx hnx
  specialize a0s (Y5 ?_)
  refine G6 (s1 _ _ hx0) ?_
  refine⟨N.length,by rw[lx0],by omega,by omega,?_⟩
  rw[A3]
  refine a0z (fun i σ H2=>∃x2 x3 G,σ=[some (.ref a),some (.ref d),x2,x3,none,none,none]/\a2N H H2 d N G/\(0<i->N.length - 1∈G)/\A9 H2 a N) ?_ ?_ ?_
  ·exact⟨_,_,[],rfl,⟨s1,e1,by simp,by simp,by simp⟩,by omega,n1⟩
  ·rintro i _ H2 hi ⟨x2,x3,G,rfl,I2,g2,n2⟩
   ext
   obtain⟨xs2,hx2,lx2⟩:=n2.len
   specialize a0s (Y5 ?_)
   refine G6 hx2 ?_
   refine⟨N.length,by rw[lx2],by omega,by omega,?_⟩
   rw[A3]
   refine a0z (fun j σ H3=>∃x3 G,σ=[some (.ref a),some (.ref d),some (.int (0+(i:Int))),x3,none,none,none]/\a2N H H3 d N G/\(j=N.length->N.length - 1∈G)/\A9 H3 a N) ?_ ?_ ?_
   ·exact⟨_,G,rfl,I2,by omega,n2⟩
   ·rintro j _ H3 hj ⟨x3,G3,rfl,I3,g3,n3⟩
    exact_mod_cast a7b ?_
    rw[S0 (j:Int)]
    refine c0K hd n3 hN (M8 hj) (hs _ (C0 _)).1 I3 fun H4 G4 I4 sub4 h4 n4=>?_
    refine⟨_,G4,rfl,I4,fun z=>?_,n4⟩
    have e:N.length - 1=j:=by omega
    rw[e]at hl ⊢
    refine h4 ?_
    rw[M8 hj]at hl
    exact Option.some.inj hl
   ·rintro _ H3 ⟨x3,G3,rfl,I3,g3,n3⟩
    exact⟨_,_,G3,rfl,I3,fun _=>g3 rfl,n3⟩
  ·rintro _ H2 ⟨x2,x3,G,rfl,I2,g2,n2⟩
   exact hnx _ _ ⟨x2,x3,G,rfl,I2,g2 hp,n2⟩
 rintro _ H2 ⟨x2,x3,G,rfl,I2,hlast,n2⟩
 nofun
 exact_mod_cast O5 (Y5 ?_)
 obtain⟨xs2,hx2,lx2⟩:=n2.len
 ext
 refine G6 hx2 ?_
 refine⟨N.length,by rw[lx2],by omega,by omega,fun A hA=>?_⟩
 rw[A3]
 refine a0L (fun i ys H3=>∃as:List Addr,ys=as.map V.ref/\as.length=i/\(∀(j:Nat) x l,as[j]? = some x->(a1C N G)[j]? = some l->H3 x=some (.lst (IL l))/\x≠A)/\H3 A=some (.lst ys)/\o6 H2 H3) ?_ ?_ ?_ ?_
 ·exact⟨[],rfl,rfl,by simp,c5,o5 hA⟩
 ·rintro i ys H3 ⟨_,_,_,_,h,_⟩
  exact h
 ·rintro i ys H3 hi ⟨as,rfl,la,at3,hA3,s3⟩ R hR
  rw[S0]
  obtain⟨ys0,x,f1,f2,f3,f4⟩:=(n2.same s3).at (M8 hi)
  have more:∀q H4,o6 H3 H4->(∀l,(a1C N G)[i]? = some l->H4 q=some (.lst (IL l)))->q≠A->R (.ref q) H4:=by
   intro q H4 s4 hq nq
   refine hR _ _ (s4 _ _ hA3) (E8 (by rw[a9];omega)) ⟨as++[q],by simp,by simp[la],?_,c5,fun b o e=>?_⟩
   ·intro j y l' h1 h2
    rcases W9 h1 with ⟨_,g1⟩ | ⟨hj,g1⟩
    ·obtain⟨g2,g3⟩:=at3 j y l' g1 h2
     exact⟨by rw[c9 g3];exact s4 _ _ g2,g3⟩
    ·rw[hj,la]at h2
     subst g1
     exact⟨by rw[c9 nq];exact hq l' h2,nq⟩
   ·rw[c9 (c4 e hA)]
    exact s4 _ _ (s3 _ _ e)
  ext
  specialize b7u ?_
  obtain⟨o,g1,g2⟩:=a3K (s3 _ _ I2.hd) i
  refine⟨d,o,rfl,g1,?_⟩
  rw[g2]
  ext
  refine a0p (fun c=>?_) (fun c=>?_)
  ·ext
   refine F8 f1 f2 ?_
   refine more x H3 (o6.refl _) (fun l hl'=>?_) ?_
   ·rw[a5j (M8 hi) (of_decide_eq_true c)]at hl'
    cases hl'
    exact f3
   ·refine(c4 (H:=H2) (a:=x) (b:=A) (o:=.lst (IL N[i])) ?_ hA)
    obtain⟨ys1,x',f1',f2',f3',_⟩:=n2.at (M8 hi)
    have e1:=s3 _ _ f1'
    rw[f1]at e1
    cases e1
    rw[f2]at f2'
    cases f2'
    exact f3'
  ·ext
   exists G6 f1 ?_
   exists C3 (by simp) fun p1 H4 hp1 e4 s4=>?_
   exists F8 (s4 _ _ f1) f2 ?_
   refine c4n (s4 _ _ f3) fun p2 H5 hp2 e5 s5=>?_
   rw[c4S,c0Z]at e5
   have hl2:=(hs _ (C0 (l:=N) (h:=hi))).1
   refine a5R (s5 _ _ e4) e5 (C3 (by simp[M3];omega) fun p3 H6 hp3 e6 s6=>?_)
   refine more p3 H6 ((s4.trans s5).trans s6) (fun l hl'=>?_) ?_
   ·rw[a9g (M8 hi) (fun z=>c (c6G z))]at hl'
    cases hl'
    rw[e6,f4]
    have:((N.length:Int) - 1)=((N.length - 1:Nat):Int):=by omega
    rw[this]
    rfl
   ·exact(c4 ((s4.trans s5) _ _ hA3) hp3).symm
 rintro ys H3 ⟨as,rfl,la,at3,hA3,s3⟩
 obtain⟨N2,hN2⟩:∃N2,N2=a1C N G:=⟨_,rfl⟩
 have len2:N2.length=N.length:=by rw[hN2,a9h]
 have n3:A9 H3 A N2:=⟨as,hA3,by rw[len2,la],fun i x l h1 h2=>(at3 i x l h1 (hN2 ▸ h2)).1⟩
 have small2:∀l∈N2,l.length<=2/\∀t∈l,t<N2.length:=by
  rw[len2,hN2]
  exact b1T hp hs hl hlast
 have gd2:∀k,k<N2.length->Gd N2 k:=by
  rw[len2,hN2]
  exact c0M I2.gd hl hlast
 have s03:o6 H H3:=I2.same.trans s3
 clear at3 hN2 la
 ext
 nofun
 intro r hr
 refine⟨c5,[(Sum.inl 0,V.bl true)],rfl,by simp,?_⟩
 have e4:(upd (upd H3 r (.dK [])) r (.dK (a6b [] [(Sum.inl 0,V.bl true)])))=upd H3 r (.dK (KS [0])):=by
  rw[a3y];rfl
 rw[e4]
 ext
 obtain⟨H4,hH4⟩:∃H4,H4=upd H3 r (.dK (KS [0])):=⟨_,rfl⟩
 rw[<-hH4]
 have s4:o6 H3 H4:=hH4 ▸ o5 hr
 have er:H4 r=some (.dK (KS [0])):=hH4 ▸ c5
 have n4:=n3.same s4
 clear hH4 e4
 have hp2:0<N2.length:=by omega
 exact_mod_cast X5 (P:=fun σ H5=>∃x2 x3 x5 S,σ=[some (.ref A),some (.ref d),x2,x3,some (.ref r),x5,none]/\b0H H3 H5 r N2 S/\a4D N2 S/\A9 H5 A N2) ?_ ?_
 rotate_left
 ·intro nx hnx
  obtain⟨ys4,hy4,ly4⟩:=n4.len
  specialize a0s (Y5 ?_)
  refine G6 hy4 ?_
  refine⟨N2.length,by rw[ly4],by omega,by omega,?_⟩
  rw[A3]
  refine a0z (fun i σ H5=>∃x2 x3 x5 S,σ=[some (.ref A),some (.ref d),x2,x3,some (.ref r),x5,none]/\b0H H3 H5 r N2 S/\(a4D N2 S\/i+1<=S.length)/\A9 H5 A N2) ?_ ?_ ?_
  ·exact⟨_,_,_,[0],rfl,⟨s4,er,by simp,by simpa using hp2,by simpa using Rc.zero,by simp⟩,.inr (by simp),n4⟩
  ·rintro i _ H5 hi ⟨x2,x3,x5,S,rfl,I5,g5,n5⟩
   ext
   obtain⟨ys5,hy5,ly5⟩:=n5.len
   specialize a0s (Y5 ?_)
   refine G6 hy5 ?_
   refine⟨N2.length,by rw[ly5],by omega,by omega,?_⟩
   rw[A3]
   refine a0z (fun j σ H6=>∃x3 x5 S',σ=[some (.ref A),some (.ref d),some (.int (0+(i:Int))),x3,some (.ref r),x5,none]/\b0H H3 H6 r N2 S'/\(∀k∈S,k∈S')/\(∀k∈S,k<j->∀l,N2[k]? = some l->∀t∈l,t∈S')/\(a4D N2 S->S'=S)/\A9 H6 A N2) ?_ ?_ ?_
   ·exact⟨_,_,S,rfl,I5,fun _ h=>h,by omega,fun _=>rfl,n5⟩
   ·rintro j _ H6 hj ⟨x3,x5,S',rfl,I6,b1,b2,b3,n6⟩
    exact_mod_cast a7b ?_
    rw[S0 (j:Int)]
    refine b7D hr n6 (by omega) (M8 hj) (small2 _ (C0 _)).2 I6 fun H7 S7 x5 I7 c1 c2 c3 n7=>?_
    refine⟨_,x5,S7,rfl,I7,fun k hk=>c1 k (b1 k hk),fun k hk hkj l hl' t ht=>?_,fun hc=>?_,n7⟩
    ·by_cases e:k=j
     ·subst e
      rw[M8 hj]at hl'
      cases hl'
      exact c2 (b1 k hk) t ht
     ·exact c1 t (b2 k hk (by omega) l hl' t ht)
    ·have:=b3 hc
     rw[this]at c3
     exact c3 hc
   ·rintro _ H6 ⟨x3,x5,S',rfl,I6,b1,b2,b3,n6⟩
    refine⟨_,x3,x5,S',rfl,I6,?_,n6⟩
    rcases g5 with hc | hc
    ·exact .inl (by rw[b3 hc];exact hc)
    ·by_cases hcl:a4D N2 S
     ·exact .inl (by rw[b3 hcl];exact hcl)
     ·right
      obtain⟨t,t1,t2⟩:∃t,t∈S'/\¬t∈S:=by
       refine Classical.byContradiction fun hno=>hcl fun k hk l hl' t ht=>?_
       refine Classical.byContradiction fun hts=>hno ⟨t,b2 k hk (I5.lt k hk) l hl' t ht,hts⟩
      have:(t::S).length<=S'.length:=by
       have nd:(t::S).Nodup:=V3.mpr ⟨t2,I5.nd⟩
       have sub:∀k∈t::S,k∈S':=fun k hk=>(c7.mp hk).elim (fun z=>z ▸ t1) (b1 k)
       exact b8m _ _ nd sub
      rw[q9]at this
      omega
  ·rintro _ H5 ⟨x2,x3,x5,S,rfl,I5,g5,n5⟩
   refine hnx _ _ ⟨x2,x3,x5,S,rfl,I5,g5.elim id fun h=>?_,n5⟩
   have:=a8f _ _ I5.nd I5.lt
   omega
 rintro _ H5 ⟨y2,y3,y5,S,rfl,I5,hcl,n5⟩
 have hSl:=a8f _ _ I5.nd I5.lt
 nofun
 have ek:(KS S).map (fun kv=>kV kv.1)=(S.map fun(n:Nat)=>(n:Int)).map V.int:=by
  unfold KS;rw[R5,R5];rfl
 have ld:a5S [.ref r] H5=fun Q=>∀l,H5 l=none->Q (.ref l) (upd H5 l (.lst ((KS S).map fun kv=>kV kv.1))):=by
  unfold a5S
  simp only[I5.hd]
 rw[ld]
 intro p6 hp6
 rw[ek]
 obtain⟨H6,hH6⟩:∃H6,H6=upd H5 p6 (.lst ((S.map fun(n:Nat)=>(n:Int)).map V.int)):=⟨_,rfl⟩
 rw[<-hH6]
 have s6:o6 H5 H6:=hH6 ▸ o5 hp6
 have e6:H6 p6=some (.lst ((S.map fun(n:Nat)=>(n:Int)).map V.int)):=hH6 ▸ c5
 clear hH6 ld
 ext
 have so:a3H [.ref p6] H6=fun Q=>∃ns,a0Q ((S.map fun(n:Nat)=>(n:Int)).map V.int)=some ns/\ns.length<64/\∀(p:Addr) (ms:List Int),ms.Perm ns->ms.Pairwise (· <= ·)->H6 p=none->Q (.ref p) (upd H6 p (.lst (ms.map V.int))):=by
  unfold a3H
  simp only[e6]
 rw[so]
 refine⟨_,a8k _,by rw[a9];omega,fun p7 ms hperm hsort hp7=>?_⟩
 obtain⟨O,hO,rfl⟩:=b1P hperm
 have hsO:=b2L hsort
 have ndO:O.Nodup:=hO.nodup_iff.mpr I5.nd
 have memO:∀k,k∈O↔k∈S:=fun k=>hO.mem_iff
 obtain⟨H7,hH7⟩:∃H7,H7=upd H6 p7 (.lst ((O.map fun(n:Nat)=>(n:Int)).map V.int)):=⟨_,rfl⟩
 rw[<-hH7]
 have s7:o6 H6 H7:=hH7 ▸ o5 hp7
 have e7:H7 p7=some (.lst ((O.map fun(n:Nat)=>(n:Int)).map V.int)):=hH7 ▸ c5
 clear hH7 so
 have hOl:O.length<=24:=by rw[hO.length_eq];omega
 ext
 have n7:=(n5.same s6).same s7
 have s07:o6 H H7:=((s03.trans I5.same).trans s6).trans s7
 have valid:a0g (a4j N2 O):=b5i ((memO 0).mpr I5.zero) hsO ndO (fun k hk=>I5.lt k ((memO k).mp hk)) (by omega) (fun k hk l hl' t ht=>(memO t).mpr (hcl k ((memO k).mp hk) l hl' t ht)) (fun k hk=>I5.rc k ((memO k).mp hk))
  (fun l hl'=>(small2 l hl').1) gd2
 specialize O5 (U6 ?_)
 refine⟨p7,rfl,⟨_,SqL.of e7⟩,fun B hB=>?_⟩
 refine U0 (xs:=(O.map fun(n:Nat)=>(n:Int)).map V.int) (fun i ys H8=>∃bs:List Addr,ys=bs.map V.ref/\bs.length=i/\(∀(j:Nat) x l,bs[j]? = some x->(a4j N2 O)[j]? = some l->H8 x=some (.lst (IL l))/\x≠B)/\H8 B=some (.lst ys)/\o6 H7 H8) ?_ ?_ ?_ ?_ ?_
 ·exact⟨[],rfl,rfl,by simp,c5,o5 hB⟩
 ·rintro i ys H8 ⟨_,_,_,_,h,_⟩
  exact h
 ·rintro i ys H8 _ ⟨_,_,_,_,_,s8⟩
  exact SqL.of (s8 _ _ e7)
 ·rintro i x ys H8 hx ⟨bs,rfl,lb,at8,hB8,s8⟩ R hR
  rw[b7,b7]at hx
  cases ho:O[i]? with
  | none=>rw[ho]at hx;cases hx
  | some kk=>
   rw[ho]at hx
   cases hx
   have hko:=mI ho
   have hks:=(memO kk).mp hko
   have hkl:=I5.lt kk hks
   obtain⟨ys8,x8,f1,f2,f3,_⟩:=(n7.same s8).at (M8 hkl)
   obtain⟨l8,hl8⟩:∃l8,l8=N2[kk]:=⟨_,rfl⟩
   rw[<-hl8]at f3
   have hN8:N2[kk]? = some l8:=by rw[hl8];exact M8 hkl
   specialize O5 (U6 ?_)
   refine F8 f1 f2 ?_
   refine⟨x8,rfl,⟨_,SqL.of f3⟩,fun C hC=>?_⟩
   refine U0 (xs:=IL l8) (fun j zs H9=>zs=IL ((l8.take j).map fun t=>O.idxOf t)/\H9 C=some (.lst zs)/\o6 H8 H9) ⟨rfl,c5,o5 hC⟩ ?_ ?_ ?_ ?_
   ·rintro j zs H9 ⟨_,h,_⟩
    exact h
   ·rintro j zs H9 _ ⟨_,_,s9⟩
    exact SqL.of (s9 _ _ f3)
   ·rintro j y zs H9 hy ⟨rfl,hC9,s9⟩ R' hR'
    have hy:(l8.map fun(n:Nat)=>V.int (n:Int))[j]? = some y:=hy
    rw[b7]at hy
    cases ht:l8[j]? with
    | none=>rw[ht]at hy;cases hy
    | some t=>
     rw[ht]at hy
     cases hy
     have htO:t∈O:=(memO t).mpr (hcl kk hks l8 hN8 t (mI ht))
     specialize a5Q ?_
     have e9:H9 p7=_:=s9 _ _ (s8 _ _ e7)
     exists ⟨a2i e9,?_⟩
     have ix:a5T (.ref p7) [.int (t:Int)] H9=fun Q=>∃ns,a0Q ((O.map fun(n:Nat)=>(n:Int)).map V.int)=some ns/\ns.length<10000/\(t:Int)∈ns/\Q (.int (ns.idxOf (t:Int):Nat)) H9:=by
      unfold a5T
      simp only[e9]
     rw[ix]
     refine⟨_,a8k _,by rw[a9];omega,A0.mpr ⟨t,htO,rfl⟩,?_⟩
     rw[b8v]
     have hl2:=(small2 l8 (mI hN8)).1
     refine hR' _ _ hC9 (E8 ?_) ⟨?_,c5,fun b o e=>?_⟩
     ·rw[M3,a9,C8];omega
     ·unfold IL
      rw[b4D l8 (fun t=>O.idxOf t) j ht]
      simp
     ·rw[c9 (c4 e hC)];exact s9 _ _ e
   ·rintro zs H9 ⟨rfl,hC9,s9⟩
    rw[M3,a0S]at hC9
    refine hR _ _ (s9 _ _ hB8) (E8 (by rw[a9];have:=(gI ho);omega)) ⟨bs++[C],by simp,by simp[lb],?_,c5,fun b o e=>?_⟩
    ·have nCB:C≠B:=(c4 hB8 hC).symm
     intro j y l' h1 h2
     rcases W9 h1 with ⟨_,g1⟩ | ⟨hj,g1⟩
     ·obtain⟨g2,g3⟩:=at8 j y l' g1 h2
      exact⟨by rw[c9 g3];exact s9 _ _ g2,g3⟩
     ·rw[hj,lb]at h2
      subst g1
      refine⟨?_,nCB⟩
      rw[c9 nCB,hC9]
      have h2':(a4j N2 O)[i]? = some (l8.map fun t=>O.idxOf t):=by
       unfold a4j
       rw[b7,ho]
       simp[N4,hN8]
      rw[h2']at h2
      cases h2
      rfl
    ·rw[c9 (c4 e hB)]
     exact s9 _ _ (s8 _ _ e)
 ·rintro ys H8 ⟨bs,rfl,lb,at8,hB8,s8⟩
  rw[a9,a9]at lb
  have hlen:(a4j N2 O).length=O.length:=by simp[a4j]
  exact k B (a4j N2 O) H8 ⟨bs,hB8,by rw[lb,hlen],fun i x l h1 h2=>(at8 i x l h1 h2).1⟩ valid (by rw[hlen];exact hOl) (s07.trans s8)
structure M9(H:Hp)(a:Addr)(N:Nt):Prop where
 ex:∃rs:List Addr,H a=some (.lst (rs.map V.ref))/\rs.length=N.length/\∀(i:Nat) x l,rs[i]? = some x->N[i]? = some l->a8U H (.ref x) (l.length == 2)
theorem M9.same(h:M9 H a N)(k:o6 H H'):M9 H' a N:=by
 obtain⟨rs,h1,h2,h3⟩:=h.ex
 exact⟨rs,k a _ h1,h2,fun i x l e1 e2=>(h3 i x l e1 e2).ts (o6.ts k)⟩
theorem M9.kept(h:M9 H a N)(hB:Bag H b c)(k:w4 b H H'):M9 H' a N:=by
 obtain⟨rs,h1,h2,h3⟩:=h.ex
 exact⟨rs,k.1 a _ h1 (a3G hB h1),h2,fun i x l e1 e2=>(h3 i x l e1 e2).ts (w4.ts k hB)⟩
theorem b2d{K:Fg}{E:XK}(hB:Bag H b c)
  (k:∀p ra na N H',H' p=some (.tup [.ref ra,.ref na])->M9 H' ra N->A9 H' na N->a0g N->N.length<=24->Bag H' b c->w4 b H H'->Q (.ref p) H'):a3f K [.ref b] H Q E:=by
 refine⟨rfl,?_⟩
 unfold b4l
 nofun
 exists F1 hB (by decide) (by decide) fun n1 H1 a0 a1 B1 k1=>?_
 exact_mod_cast X5 (P:=fun σ H2=>∃m:Nat,σ=[some (.ref b),some (.int (m:Int)),none,none,none]/\0<m/\m<=24/\Bag H2 b c/\w4 b H H2) ?_ ?_
 rotate_left
 ·intro nx hnx
  ext
  exists F1 B1 (by decide) (by decide) fun n2 H2 b0 b1 B2 k2=>?_
  refine a0p (fun _=>?_) (fun _=>?_)
  ·ext
   exists F1 B2 (by decide) (by decide) fun n3 H3 c0 c1 B3 k3=>?_
   obtain⟨n3,rfl⟩:=U3 c0
   exact hnx _ _ ⟨15+n3,rfl,by omega,by omega,B3,(k1.trans k2).trans k3⟩
  ·ext
   obtain⟨n1,rfl⟩:=U3 a0
   exact hnx _ _ ⟨1+n1,rfl,by omega,by omega,B2,k1.trans k2⟩
 rintro _ H2 ⟨m,rfl,m0,m1,B2,k2⟩
 nofun
 exists c2X B2 m0 m1 fun a N0 H3 n3 l3 s3 z3 B3 k3=>?_
 exists b5L n3 (by omega) (by omega) (by rw[l3];exact s3) (by rw[l3];exact z3) fun na N H4 n4 v4 lN s4=>?_
 have B4:=B3.same s4
 have k4:w4 b H H4:=(k2.trans k3).trans (w4.of_same s4)
 nofun
 exists b1Q B4 fun sa H5 N5 B5 k5 _=>?_
 have n5:=n4.kept B4 v4.two k5
 nofun
 specialize O5 (Y5 ?_)
 exists F1 B5 (by decide) (by decide) fun n6 H6 d0 d1 B6 k6=>?_
 obtain⟨n6,rfl⟩:=U3 d0
 refine⟨1+n6,rfl,by omega,by omega,fun D hD=>?_⟩
 obtain⟨nb,nc⟩:=B6.nb hD
 have n6':=n5.kept B5 v4.two k6
 obtain⟨N6,_⟩:=N5.kept B5 k6
 refine a0L (fun i ys H7=>∃ps:List Addr,ys=ps.map V.ref/\ps.length=i/\(∀p∈ps,a6D H7 p)/\H7 D=some (.lst ys)/\Bag H7 b c/\w4 b H6 H7) ?_ ?_ ?_ ?_
 ·exact⟨[],rfl,rfl,by simp,c5,B6.new hD,w4.new hD⟩
 ·rintro i ys H7 ⟨_,_,_,_,h,_⟩
  exact h
 ·rintro i ys H7 hi ⟨ps,rfl,lp,hp,hD7,B7,k7⟩ R hR
  obtain⟨N7,_⟩:=N6.kept B6 k7
  ext
  refine b4I B7 N7 fun p H8 hd8 _ B8 k8=>?_
  have hD8:=k8.1 _ _ hD7 nb
  refine hR _ _ hD8 (E8 (by rw[a9];omega)) ⟨ps++[p],by simp,by simp[lp],fun q hq=>?_,c5,B8.put nb nc,(k7.trans k8).put hD⟩
  rcases l7.mp hq with z | z
  ·exact((hp q z).ts (w4.ts k8 B7)).ts (Q9.put hD8)
  ·rw[j3.mp z];exact hd8.ts (Q9.put hD8)
 rintro ys H7 ⟨ps,rfl,lp,hp,hD7,B7,k7⟩
 ext
 have P7:a9t H7 D:=⟨ps,hD7,by intro z;subst z;simp at lp;omega,by omega,hp⟩
 obtain⟨N7,_⟩:=N6.kept B6 k7
 have n7:=n6'.kept B6 v4.two k7
 have k07:w4 b H H7:=((k4.trans k5).trans k6).trans k7
 specialize O5 (U6 ?_)
 obtain⟨as,q1,q2,q3⟩:=id n7.ex
 refine⟨na,rfl,⟨_,SqL.of q1⟩,fun R' hR'=>?_⟩
 obtain⟨rb,rc⟩:=B7.nb hR'
 refine U0 (xs:=as.map V.ref) (fun i ys H8=>∃rs:List Addr,ys=rs.map V.ref/\rs.length=i/\(∀(j:Nat) x l,rs[j]? = some x->N[j]? = some l->a8U H8 (.ref x) (l.length == 2))/\H8 R'=some (.lst ys)/\Bag H8 b c/\w4 b H7 H8) ?_ ?_ ?_ ?_ ?_
 ·exact⟨[],rfl,rfl,by simp,c5,B7.new hR',w4.new hR'⟩
 ·rintro i ys H8 ⟨_,_,_,_,h,_⟩
  exact h
 ·rintro i ys H8 _ ⟨_,_,_,_,_,_,k8⟩
  exact SqL.of (k8.1 _ _ q1 (a3G B7 q1))
 ·rintro i x ys H8 hx ⟨rs,rfl,lr,hr,hR8,B8,k8⟩ R hR
  rw[b7]at hx
  cases hxa:as[i]? with
  | none=>rw[hxa]at hx;cases hx
  | some xa=>
   rw[hxa]at hx
   cases hx
   have hi:i<N.length:=by rw[<-q2];exact(gI hxa)
   have n8:=n7.kept B7 v4.two k8
   have hx8:=q3 i xa _ hxa (M8 hi)
   have hx8:=k8.1 _ _ hx8 (b1o B7 hx8 (by rw[M3];have:=v4.two _ (C0 hi);omega))
   obtain⟨N8,_⟩:=N7.kept B7 k8
   have P8:=P7.kept B7 k8
   ext
   exists G6 hx8 ?_
   rw[M3]
   refine b7B B8 N8 P8 fun v H9 r9 B9 k9=>?_
   obtain⟨pv,xv,rfl,_⟩:=id r9
   have hR9:=k9.1 _ _ hR8 rb
   refine hR _ _ hR9 (E8 (by rw[a9];omega)) ⟨rs++[pv],by simp,by simp[lr],?_,c5,B9.put rb rc,(k8.trans k9).put hR'⟩
   intro j y l h1 h2
   rcases W9 h1 with ⟨_,g1⟩ | ⟨hj,g1⟩
   ·exact((hr j y l g1 h2).ts (w4.ts k9 B8)).ts (Q9.put hR9)
   ·rw[hj,lr,M8 hi]at h2
    cases h2
    subst g1
    exact r9.ts (Q9.put hR9)
 ·rintro ys H8 ⟨rs,rfl,lr,hr,hR8,B8,k8⟩
  rw[a9]at lr
  ext
  refine C3 (by simp) fun p H9 hp9 e9 s9=>?_
  exact k p R' na N H9 e9 ((⟨rs,hR8,by rw[lr,q2],hr⟩:M9 H8 R' N).same s9) ((n7.kept B7 v4.two k8).same s9) v4 lN (B8.same s9) ((k07.trans k8).trans (w4.of_same s9))
theorem big(h:n<=1000000):n<=g9:=v9 h (by rw[a2e];decide)
theorem a6P{K:Fg}{E:XK}(ha:H a=some (.lst xs))(h1:1<=xs.length)(h2:xs.length<=400)(k:Q .non H):X8 K [.ref a,.int 0,.int 1] H Q E:=by
 refine⟨rfl,?_⟩
 unfold a3d
 nofun
 exists a1z (s := "list") (by simp only[Y4,ha]) (by decide) ?_
 exists A8 (by decide) ?_
 exists G6 ha ?_
 exists A8 (c6F (by omega)) ?_
 exists G6 ha ?_
 exists A8 (c6F (by omega)) ?_
 exact k
theorem a4e{K:Fg}{E:XK}(ha:H a=some (.lst (v5 n (V.bl true))))(k:∀H',o6 H H'->Q .non H'):X4 K [.ref a] H Q E:=by
 refine⟨rfl,?_⟩
 unfold a4U
 specialize a0s (a6Z ?_)
 refine⟨a,rfl,⟨_,SqL.of ha⟩,?_⟩
 refine b8B n (fun i σ H2=>∃x1 x2,σ=[some (.ref a),x1,x2]/\o6 H H2) ⟨_,_,rfl,o6.refl _⟩ ?_ ?_ ?_
 ·rintro _ H2 ⟨x1,x2,rfl,s2⟩
  exact⟨⟨_,SqL.of (s2 _ _ ha),by simp⟩,k H2 s2⟩
 ·rintro i _ H2 hi ⟨x1,x2,rfl,s2⟩
  exact⟨_,V.bl true,SqL.of (s2 _ _ ha),by rw[J4,if_pos hi]⟩
 ·rintro i _ H2 hi ⟨x1,x2,rfl,s2⟩ x H3 ⟨p,y,hp,rfl,rfl,hy⟩
  have hy:=hy _ (SqL.of (s2 _ _ ha))
  rw[J4,if_pos hi]at hy
  cases hy
  exists a7a (SqT.of c5) ?_
  exists A8 rfl ?_
  exact⟨_,_,rfl,s2.trans (o5 hp)⟩
theorem a7w(n:Nat):v5 n (V.bl true)++[V.bl true]=v5 (n+1) (V.bl true):=by
 rw[a4G]
theorem c2Z(h:n=0\/n=1):inV (.int (n:Int)) [.int 0,.int 1]=true:=by
 rcases h with rfl | rfl <;> decide
theorem b0F{K:Fg}{E:XK}(hv:a8U H v (l.length == 2))(hx:H x=some (.lst (IL l)))(h2:l.length<=2)(hlt:∀t∈l,t<m)(k:∀H',o6 H H'->Q (.bl true) H') :
  a0U K [v,.ref x,.int (m:Int)] H Q E:=by
 obtain⟨p,xs,rfl,hp,_,kd,r,rfl,hk⟩:=hv
 refine⟨rfl,?_⟩
 unfold a6r
 nofun
 exists a1z (s := "list") (by simp only[Y4,hx]) (by decide) ?_
 exists A8 (by decide) ?_
 exact_mod_cast X5 (P:=fun σ H1=>∃w ws,σ=[some (.ref p),some (.ref x),some (.int (m:Int)),some (.ref w)]/\H1 w=some (.tup ws)/\ws.all E5=true/\inV (.int (l.length:Int)) ws=true/\o6 H H1) ?_ ?_
 rotate_left
 ·intro nx hnx
  ext
  exists V8 hp (a2H _ _) ?_
  by_cases e:kd = "ask"
  ·exists F9 (c6G (by rw[e])) ?_
   refine C3 (by simp) fun w H1 hw e1 s1=>?_
   rw[c6G e]at hk
   have:l.length=2:=by simpa using hk.symm
   exact hnx _ _ ⟨w,_,rfl,e1,rfl,by rw[this];decide,s1⟩
  ·exists A8 (c6F (fun z=>e (V.str.inj z))) ?_
   refine C3 (by simp) fun w H1 hw e1 s1=>?_
   rw[c6F e]at hk
   have:¬l.length=2:=by
    intro z
    rw[z]at hk
    exact absurd hk (by decide)
   exact hnx _ _ ⟨w,_,rfl,e1,rfl,c2Z (by omega),s1⟩
 rintro _ H1 ⟨w,ws,rfl,hw,fw,iw,s1⟩
 ext
 exists G6 (s1 _ _ hx) ?_
 rw[M3]
 refine b4v hw rfl fw ?_
 exists ⟨_,rfl,F9 iw ?_⟩
 specialize O5 (U6 ?_)
 refine⟨x,rfl,⟨_,SqL.of (s1 _ _ hx)⟩,fun D hD=>?_⟩
 refine U0 (xs:=IL l) (fun i ys H2=>ys=v5 i (V.bl true)/\H2 D=some (.lst ys)/\o6 H1 H2) ⟨rfl,c5,o5 hD⟩ ?_ ?_ ?_ ?_
 ·rintro i ys H2 ⟨_,h,_⟩
  exact h
 ·rintro i ys H2 _ ⟨_,_,s2⟩
  exact SqL.of (s2 _ _ (s1 _ _ hx))
 ·rintro i y ys H2 hy ⟨rfl,hD2,s2⟩ R hR
  have hy:(l.map fun(n:Nat)=>V.int (n:Int))[i]? = some y:=hy
  rw[b7]at hy
  cases ht:l[i]? with
  | none=>rw[ht]at hy;cases hy
  | some t=>
   rw[ht]at hy
   cases hy
   have hi:=(gI ht)
   have:=hlt t (mI ht)
   ext
   refine b0l (by omega) (by omega) ?_
   refine hR _ _ hD2 (E8 (by rw[C5];omega)) ⟨a7w i,c5,fun b o e=>?_⟩
   rw[c9 (c4 e hD)];exact s2 _ _ e
 ·rintro ys H2 ⟨rfl,hD2,s2⟩
  ext
  have e:v5 (IL l).length (V.bl true)=(v5 l.length true).map V.bl:=by rw[M3];simp
  rw[e]at hD2
  refine c4t hD2 ?_
  have:(v5 l.length true).all id=true:=by simp
  rw[this]
  exact k H2 (s1.trans s2)
theorem a8o{K:Fg}{E:XK}(hr:M9 H ra N)(hn:A9 H na N)(h400:N.length<=400)(h2:∀l∈N,l.length<=2)(hlt:∀l∈N,∀t∈l,t<N.length)(k:∀H',o6 H H'->Q .non H') :
  a0a K [.ref ra,.ref na] H Q E:=by
 obtain⟨rs,r1,r2,r3⟩:=id hr.ex
 obtain⟨as,a1,a2,a3⟩:=id hn.ex
 refine⟨rfl,?_⟩
 unfold a4b
 nofun
 exists a1z (s := "list") (by simp only[Y4,a1]) (by decide) ?_
 exists A8 (by decide) ?_
 exists G6 a1 ?_
 exists G6 r1 ?_
 exists A8 (by rw[a9,a9,r2,a2];simp) ?_
 specialize a7c (b7r ?_)
 refine⟨ra,na,rfl,⟨_,SqL.of r1⟩,⟨_,SqL.of a1⟩,fun D hD=>?_⟩
 refine b0r N.length (fun i ys H2=>ys=v5 i (V.bl true)/\H2 D=some (.lst ys)/\o6 H H2) ⟨rfl,c5,o5 hD⟩ ?_ ?_ ?_ ?_
 ·rintro i ys H2 ⟨_,h,_⟩
  exact h
 ·rintro ys H2 ⟨rfl,hD2,s2⟩
  exists ⟨⟨_,_,SqL.of (s2 _ _ r1),SqL.of (s2 _ _ a1),.inl (by rw[a9,r2];exact d5 _)⟩,?_⟩
  exact a4e hD2 fun H3 s3=>k H3 (s2.trans s3)
 ·rintro i ys H2 hi ⟨_,_,s2⟩
  have e1:rs[i]? = some (rs[i]'(by omega)):=by simp[r2,hi]
  have e2:as[i]? = some (as[i]'(by omega)):=by simp[a2,hi]
  exact⟨_,_,_,_,SqL.of (s2 _ _ r1),SqL.of (s2 _ _ a1),by rw[b7,e1];rfl,by rw[b7,e2];rfl⟩
 ·rintro i ys H2 hi ⟨rfl,hD2,s2⟩ x H3 ⟨p,y1,y2,hp,rfl,rfl,g1,g2⟩
  obtain⟨rx,e1⟩:∃rx,rs[i]? = some rx:=⟨_,c6 (by omega)⟩
  obtain⟨ax,e2⟩:∃ax,as[i]? = some ax:=⟨_,c6 (by omega)⟩
  have g1:=g1 _ (SqL.of (s2 _ _ r1))
  have g2:=g2 _ (SqL.of (s2 _ _ a1))
  rw[b7,e1]at g1
  rw[b7,e2]at g2
  cases g1
  cases g2
  refine⟨p,_,_,rfl,SqT.of c5,fun R S hR hS=>?_⟩
  have s3:o6 H2 (upd H2 p (.tup [V.ref rx,V.ref ax])):=o5 hp
  obtain⟨H3,hH3⟩:∃H3,H3=upd H2 p (.tup [V.ref rx,V.ref ax]):=⟨_,rfl⟩
  rw[<-hH3]at s3 ⊢
  ext
  exists F9 rfl ?_
  have s03:=s2.trans s3
  exists G6 (s03 _ _ r1) ?_
  have hl:=M8 hi
  rw[a9,r2]
  refine b0F ((r3 i _ _ e1 hl).ts (o6.ts s03)) (s03 _ _ (a3 i _ _ e2 hl)) (h2 _ (C0 hi)) (hlt _ (C0 hi)) fun H4 s4=>?_
  refine hR _ _ (s4 _ _ (s3 _ _ hD2)) (E8 (by rw[C5];omega)) ⟨a7w i,c5,fun b o e=>?_⟩
  rw[c9 (c4 e hD)];exact s4 _ _ (s03 _ _ e)
def a3n(N:Nt)(k:Nat):Bool:=(N.getD k []).isEmpty
def a9H(N:Nt):List Nat:=(D9 N.length).filter (a3n N)
theorem b5M{k:Nat}(h:N[k]? = some []):k∈a9H N:=by
 refine a3R.mpr ⟨X2.mpr (gI h),?_⟩
 unfold a3n
 simp[N4,h]
theorem b1m{K:Fg}{E:XK}(hn:A9 H na N)(h400:N.length<=400)(k:∀a H',H a=none->H' a=some (.lst (IL (a9H N)))->o6 H H'->Q (.ref a) H'):a1t K [.ref na] H Q E:=by
 obtain⟨as,a1,a2,a3⟩:=id hn.ex
 refine⟨rfl,?_⟩
 unfold a7z
 ext
 specialize a7c (a6Z ?_)
 refine⟨na,rfl,⟨_,SqL.of a1⟩,fun D hD=>?_⟩
 refine b0r N.length (fun i ys H2=>ys=IL ((D9 i).filter (a3n N))/\H2 D=some (.lst ys)/\o6 H H2) ⟨rfl,c5,o5 hD⟩ ?_ ?_ ?_ ?_
 ·rintro i ys H2 ⟨_,h,_⟩
  exact h
 ·rintro ys H2 ⟨rfl,hD2,s2⟩
  exact⟨⟨_,SqL.of (s2 _ _ a1),by rw[a9,a2];exact d5 _⟩,k D H2 hD hD2 s2⟩
 ·rintro i ys H2 hi ⟨_,_,s2⟩
  exact⟨_,_,SqL.of (s2 _ _ a1),by rw[b7,c6 (show i<as.length by omega)];rfl⟩
 ·rintro i ys H2 hi ⟨rfl,hD2,s2⟩ x H3 ⟨p,y,hp,rfl,rfl,g1⟩
  obtain⟨ax,e1⟩:∃ax,as[i]? = some ax:=⟨_,c6 (by omega)⟩
  have g1:=g1 _ (SqL.of (s2 _ _ a1))
  rw[b7,e1]at g1
  cases g1
  refine⟨p,_,_,rfl,SqT.of c5,fun R S hR hS=>?_⟩
  have s3:o6 H2 (upd H2 p (.tup [V.int (i:Int),V.ref ax])):=o5 hp
  obtain⟨H3,hH3⟩:∃H3,H3=upd H2 p (.tup [V.int (i:Int),V.ref ax]):=⟨_,rfl⟩
  rw[<-hH3]at s3 ⊢
  have s03:=s2.trans s3
  have hl:=M8 hi
  ext
  exists G6 (s03 _ _ (a3 i _ _ e1 hl)) ?_
  have hst:a3n N i=decide (V.int ((IL N[i]).length:Int)=V.int 0):=by
   rw[b2f,M3]
   unfold a3n
   simp only[N4,hl,a2P]
   cases N[i] with
   | nil=>rfl
   | cons a r=>
    rw[List.isEmpty_cons,eq_comm,decide_eq_false_iff_not,q9]
    omega
  rw[<-hst]
  cases hb:a3n N i with
  | true=>
   exists F9 rfl ?_
   refine hR _ _ (s3 _ _ hD2) (E8 ?_) ⟨?_,c5,fun b o e=>?_⟩
   ·rw[M3]
    have:=a4g (a3n N) (D9 i)
    rw[a7k]at this
    omega
   ·rw[a9v,a6G]
    unfold IL
    rw[I0]
    congr 1
    simp[hb]
   ·rw[c9 (c4 e hD)];exact s03 _ _ e
  | false=>
   refine A8 rfl ?_
   refine hS _ ⟨?_,s3 _ _ hD2,s03⟩
   rw[a9v,a6G]
   simp[hb]
theorem c1t{α:Type}{l:List α}(nd:l.Nodup){j:Nat}{x:α}(h1:l[i]? = some x)(h2:l[j]? = some x):i=j:=
 (List.getElem?_inj (gI h1) nd).mp (h1.trans h2.symm)
structure a3q(H0 H:Hp)(a:Addr)(as:List Addr)(M:Nt):Prop where
 same:o6 H0 H
 h:H a=some (.lst (as.map V.ref))
 len:as.length=M.length
 nd:as.Nodup
 na:a∉as
 at_:∀(i:Nat) x l,as[i]? = some x->M[i]? = some l->H x=some (.lst (IL l))
 new:H0 a=none/\∀x∈as,H0 x=none
theorem a3q.next(h:a3q H0 H a as M)(s:o6 H H'):a3q H0 H' a as M:=
 ⟨h.same.trans s,s _ _ h.h,h.len,h.nd,h.na,fun i x l e1 e2=>s _ _ (h.at_ i x l e1 e2),h.new⟩
theorem a3q.add(h:a3q H0 H a as M){p:Nat}(e1:as[t]? = some x)(e2:M[t]? = some l) :
  a3q H0 (upd H x (.lst (IL (l++[p])))) a as (M.set t (l++[p])):=by
 have hx:=mI e1
 have hxa:x≠a:=fun z=>h.na (z ▸ hx)
 refine⟨fun b o e=>by rw[c9 (c4 e (h.new.2 x hx))];exact h.same b o e,by rw[c9 hxa.symm];exact h.h,by rw[a0j];exact h.len,h.nd,h.na,fun i y l' f1 f2=>?_,h.new⟩
 by_cases e:i=t
 ·subst e
  rw[e1]at f1
  cases f1
  rw[F2 (gI e2)]at f2
  cases f2
  exact c5
 ·rw[J3 (Ne.symm e)]at f2
  have:y≠x:=by
   rintro rfl
   exact e (c1t h.nd f1 e1)
  rw[c9 this]
  exact h.at_ i y l' f1 f2
theorem a3q.net(h:a3q H0 H a as M):A9 H a M:=⟨as,h.h,h.len,h.at_⟩
theorem a3q.nil(n:H0 a=none)(s:o6 H0 H)(e:H a=some (.lst [])):a3q H0 H a [] []:=⟨s,e,rfl,by simp,by simp,by simp,n,by simp⟩
theorem a3q.snoc(h:a3q H0 H a as M)(hp:H p=none)(ep:H' p=some (.lst (IL [])))(s:o6 H H') :
  a3q H0 (upd H' a (.lst ((as++[p]).map V.ref))) a (as++[p]) (M++[[]]):=by
 have npa:p≠a:=(c4 h.h hp).symm
 have npas:p∉as:=fun z=>by
  obtain⟨i,hi⟩:=L5.mp z
  have hl:i<M.length:=by rw[<-h.len];exact(gI hi)
  have:=h.at_ i p _ hi (M8 hl)
  rw[hp]at this
  cases this
 have fr0:H0 p=none:=h.same.free hp
 refine⟨fun b o e=>by rw[c9 (c4 e h.new.1)];exact s _ _ (h.same b o e),c5,by simp[h.len],?_,?_,fun i x l f1 f2=>?_,h.new.1,fun x hx=>?_⟩
 ·rw[c1c]
  exact⟨h.nd,by simp,fun x hx y hy=>by rw[j3.mp hy];intro z;exact npas (z ▸ hx)⟩
 ·intro z
  rcases l7.mp z with q | q
  ·exact h.na q
  ·exact npa (j3.mp q).symm
 ·rcases W9 f1 with ⟨hi,g1⟩ | ⟨hi,g1⟩
  ·rcases W9 f2 with ⟨hj,g2⟩ | ⟨hj,g2⟩
   ·have:x≠a:=fun z=>h.na (z ▸ mI g1)
    rw[c9 this]
    exact s _ _ (h.at_ i x l g1 g2)
   ·have:=h.len;omega
  ·rcases W9 f2 with ⟨hj,g2⟩ | ⟨hj,g2⟩
   ·have:=h.len;omega
   ·subst g1 g2
    rw[c9 npa]
    exact ep
 ·rcases l7.mp hx with q | q
  ·exact h.new.2 x q
  ·rw[j3.mp q];exact fr0
theorem b9u{u:Nat}{l':List Nat}(h:(M.set t l)[u]? = some l'):(u=t/\l'=l)\/(u≠t/\M[u]? = some l'):=by
 by_cases e:u=t
 ·subst e
  have hl:=(gI h)
  rw[a0j]at hl
  rw[F2 hl]at h
  exact .inl ⟨rfl,(Option.some.inj h).symm⟩
 ·rw[J3 (Ne.symm e)]at h
  exact .inr ⟨e,h⟩
theorem b5j{K:Fg}{E:XK}(hn:A9 H na N)(h400:N.length<=400)(h2:∀l∈N,l.length<=2)(hlt:∀l∈N,∀t∈l,t<N.length)
  (k:∀a M H',A9 H' a M->M.length=N.length->(∀(p:Nat) (l:List Nat),N[p]? = some l->∀t∈l,∃l',M[t]? = some l'/\p∈l')->(∀l∈M,l.length<=2 * N.length/\∀p∈l,p<N.length)->o6 H H'->Q (.ref a) H'):a3A K [.ref na] H Q E:=by
 obtain⟨ns,a1,a2,a3⟩:=id hn.ex
 refine⟨rfl,?_⟩
 unfold b1g
 exact_mod_cast a0r ?_
 specialize O5 (U6 ?_)
 refine⟨na,rfl,⟨_,SqL.of a1⟩,fun A hA=>?_⟩
 refine U0 (xs:=ns.map V.ref) (fun i ys H2=>∃as,ys=as.map V.ref/\a3q H H2 A as (v5 i [])) ?_ ?_ ?_ ?_ ?_
 ·exact⟨[],rfl,.nil hA (o5 hA) c5⟩
 ·rintro i ys H2 ⟨as,rfl,I⟩
  exact I.h
 ·rintro i ys H2 _ ⟨as,rfl,I⟩
  exact SqL.of (I.same _ _ a1)
 ·rintro i x ys H2 hx ⟨as,rfl,I⟩ R hR
  have hi:i<N.length:=by
   have:=(gI hx)
   rw[a9,a2]at this
   exact this
  ext
  refine C3 (by simp) fun p H3 hp e3 s3=>?_
  have:=I.len
  rw[C5]at this
  refine hR _ _ (s3 _ _ I.h) (E8 (by rw[a9];omega)) ⟨as++[p],by simp,?_⟩
  have q:=I.snoc hp e3 s3
  rw[show v5 i ([]:List Nat)++[[]]=v5 (i+1) [] from by rw[a4G]]at q
  rw[show as.map V.ref++[V.ref p]=(as++[p]).map V.ref by simp]
  exact q
 rintro ys H2 ⟨as,rfl,I2⟩
 rw[a9,a2]at I2
 ext
 exact_mod_cast a0r ?_
 specialize a0s (a6Z ?_)
 refine⟨na,rfl,⟨_,SqL.of (I2.same _ _ a1)⟩,?_⟩
 refine b8B N.length (fun i σ H3=>∃x2 x3 x4 M,σ=[some (.ref na),some (.ref A),x2,x3,x4]/\a3q H H3 A as M/\M.length=N.length/\(∀(p:Nat) (l:List Nat),p<i->N[p]? = some l->∀t∈l,∃l',M[t]? = some l'/\p∈l')/\(∀l∈M,l.length<=2 * i/\∀p∈l,p<N.length)) ?_ ?_ ?_ ?_
 ·exact⟨_,_,_,_,rfl,I2,by simp,by omega,fun l hl=>by rw[List.eq_of_mem_replicate hl];simp⟩
 ·rintro _ H3 ⟨x2,x3,x4,M,rfl,I3,lM,g1,g2⟩
  exists ⟨⟨_,SqL.of (I3.same _ _ a1),by rw[a9,a2];exact d5 _⟩,?_⟩
  exact k A M H3 I3.net lM (fun p l hl=>g1 p l (gI hl) hl) g2 I3.same
 ·rintro i _ H3 hi ⟨x2,x3,x4,M,rfl,I3,lM,g1,g2⟩
  exact⟨_,_,SqL.of (I3.same _ _ a1),by rw[b7,c6 (show i<ns.length by omega)];rfl⟩
 ·rintro i _ H3 hi ⟨x2,x3,x4,M,rfl,I3,lM,g1,g2⟩ x H4 ⟨p,y,hp,rfl,rfl,gy⟩
  obtain⟨nx,e1⟩:∃nx,ns[i]? = some nx:=⟨_,c6 (by omega)⟩
  have gy:=gy _ (SqL.of (I3.same _ _ a1))
  rw[b7,e1]at gy
  cases gy
  refine a7a (SqT.of c5) ?_
  have s4:o6 H3 (upd H3 p (.tup [V.int (i:Int),V.ref nx])):=o5 hp
  obtain⟨H4,hH4⟩:∃H4,H4=upd H3 p (.tup [V.int (i:Int),V.ref nx]):=⟨_,rfl⟩
  rw[<-hH4]at s4 ⊢
  have I4:=I3.next s4
  have hl:=M8 hi
  obtain⟨l,hle⟩:∃l,l=N[i]:=⟨_,rfl⟩
  rw[<-hle]at hl
  have hx:H nx=some (.lst (IL l)):=a3 i nx l e1 hl
  have hll:=h2 l (mI hl)
  specialize a0s (U6 ?_)
  refine⟨nx,rfl,⟨_,SqL.of (I4.same _ _ hx)⟩,a3p (xs:=IL l) (fun j σ H5=>∃x4 M',σ=[some (.ref na),some (.ref A),some (.int (i:Int)),some (.ref nx),x4]/\a3q H H5 A as M'/\M'.length=N.length/\(∀(p:Nat) (l:List Nat),p<i->N[p]? = some l->∀t∈l,∃l',M'[t]? = some l'/\p∈l')/\(∀t∈l.take j,∃l',M'[t]? = some l'/\i∈l')/\(∀l∈M',l.length<=2 * i+j/\∀p∈l,p<N.length)) ?_ ?_ ?_ ?_⟩
  ·exact⟨_,M,rfl,I4,lM,g1,by simp,g2⟩
  ·rintro j σ H5 _ ⟨_,_,_,I5,_⟩
   exact SqL.of (I5.same _ _ hx)
  ·rintro j y _ H5 hy ⟨x4,M',rfl,I5,lM',c1,c2,c3⟩
   have hy:(l.map fun(n:Nat)=>V.int (n:Int))[j]? = some y:=hy
   rw[b7]at hy
   cases ht:l[j]? with
   | none=>rw[ht]at hy;cases hy
   | some t=>
    rw[ht]at hy
    cases hy
    have tm:=mI ht
    have hj:=(gI ht)
    have htn:t<N.length:=hlt l (mI hl) t tm
    ext
    obtain⟨z,hz⟩:∃z,as[t]? = some z:=⟨_,c6 (by have:=I5.len;omega)⟩
    have hMt:=M8 (show t<M'.length by omega)
    have hMz:=I5.at_ t z _ hz hMt
    specialize a5Q ?_
    refine F8 I5.h (U9 (by rw[b7,hz];rfl)) ?_
    exists ⟨a2i hMz,?_⟩
    have hb:=c3 _ (C0 (show t<M'.length by omega))
    refine a1h hMz (E8 (by rw[M3];omega)) ?_
    refine⟨_,M'.set t (M'[t]++[i]),rfl,?_,by rw[a0j];exact lM',?_,?_,?_⟩
    ·have:=I5.add (p:=i) hz hMt
     rw[show IL M'[t]++[V.int (i:Int)]=IL (M'[t]++[i]) by simp[IL]]
     exact this
    ·intro p' l' hp' hl' u hu
     obtain⟨l'',q1,q2⟩:=c1 p' l' hp' hl' u hu
     by_cases e:u=t
     ·subst e
      rw[hMt]at q1
      cases q1
      exact⟨_,F2 (by omega),D7 _ q2⟩
     ·exact⟨l'',by rw[J3 (Ne.symm e)];exact q1,q2⟩
    ·intro u hu
     rw[D5,ht]at hu
     by_cases e:u=t
     ·subst e
      exact⟨_,F2 (by omega),by simp⟩
     ·rcases l7.mp hu with q | q
      ·obtain⟨l'',q1,q2⟩:=c2 u q
       exact⟨l'',by rw[J3 (Ne.symm e)];exact q1,q2⟩
      ·exact absurd (by simpa using q) e
    ·intro l' hl'
     obtain⟨u,hu⟩:=L5.mp hl'
     rcases b9u hu with ⟨_,rfl⟩ | ⟨_,q⟩
     ·refine⟨by rw[j4,G8];omega,fun p' hp'=>?_⟩
      rcases l7.mp hp' with q | q
      ·exact hb.2 p' q
      ·rw[j3.mp q];exact hi
     ·obtain⟨r1,r2⟩:=c3 l' (mI q)
      exact⟨by omega,r2⟩
  ·rintro _ H5 ⟨x4,M',rfl,I5,lM',c1,c2,c3⟩
   rw[M3,a0S]at c2
   refine⟨_,_,x4,M',rfl,I5,lM',fun p' l' hp' hl' t ht=>?_,fun l' hl'=>?_⟩
   ·by_cases e:p'=i
    ·subst e
     rw[hl]at hl'
     cases hl'
     exact c2 t ht
    ·exact c1 p' l' (by omega) hl' t ht
   ·obtain⟨r1,r2⟩:=c3 l' hl'
    rw[M3]at r1
    exact⟨by omega,r2⟩
theorem a7T{K:Fg}{ba la:Addr}{bs:List Nat}{B:Nat}{E:XK}(hb:H ba=some (.lst (IL bs)))(hm:A9 H la M)(h400:M.length<=400)(hB:B<=800)(hl:∀l∈M,l.length<=B/\∀t∈l,t<M.length)(hbs:∀x∈bs,x<M.length)(lb:bs.length<=400)
  (k:∀d S H',H' d=some (.dK (KS S))->S.Nodup->(∀x∈S,x<M.length)->(∀x∈bs,x∈S)->a4D M S->o6 H H'->Q (.ref d) H'):a1f K [.ref ba,.ref la] H Q E:=by
 refine⟨rfl,?_⟩
 unfold a9a
 nofun
 exists b7t fun d H1 hd e1 s1=>?_
 nofun
 exists a9T (s1 _ _ hb) fun w H2 hw e2 s2=>?_
 have s02:=s1.trans s2
 have hw0:H w=none:=s1.free hw
 have ndw:d≠w:=c4 e1 hw
 exact_mod_cast a0r ?_
 exact_mod_cast b9B ?_
 refine⟨fun m σ H3=>∃x4 ws S,σ=[some (.ref ba),some (.ref la),some (.ref d),some (.ref w),x4]/\H3 w=some (.lst (IL ws))/\H3 d=some (.dK (KS S))/\o6 H H3/\S.Nodup/\(∀x∈S,x<M.length)/\(∀x∈ws,x<M.length) /\
  (∀x∈bs,x∈S\/x∈ws)/\(∀k∈S,∀l,M[k]? = some l->∀t∈l,t∈S\/t∈ws)/\ws.length<=400+S.length * B/\m=(M.length - S.length) * (B+1)+ws.length,?_,?_⟩
 ·exact⟨_,_,bs,[],rfl,e2,s2 _ _ e1,s02,by simp,by simp,hbs,fun x hx=>.inr hx,by simp,by omega,rfl⟩
 rintro m _ H3 ⟨x4,ws,S,rfl,hw3,hd3,s3,nd,hS,hws,c1,c2,c3,rfl⟩
 ext
 exists G6 hw3 ?_
 have hSl:=a8f _ _ nd hS
 rcases b2M ws with rfl | ⟨r,p,rfl⟩
 ·exists A8 (c6F (by rw[M3];simp)) ?_
  refine k d S H3 hd3 nd hS (fun x hx=>(c1 x hx).elim id fun z=>by simp at z) (fun a ha l hl' t ht=>(c2 a ha l hl' t ht).elim id fun z=>by simp at z) s3
 refine F9 (c6G (by rw[M3,j4,G8];omega)) ?_
 have hp:p<M.length:=hws p (by simp)
 have eIL:IL (r++[p])=IL r++[V.int (p:Int)]:=by simp[IL]
 rw[eIL]at hw3
 refine⟨fun σ H4=>∃m' x4 ws S',σ=[some (.ref ba),some (.ref la),some (.ref d),some (.ref w),x4]/\H4 w=some (.lst (IL ws))/\H4 d=some (.dK (KS S'))/\o6 H H4/\S'.Nodup/\(∀x∈S',x<M.length)/\(∀x∈ws,x<M.length) /\
  (∀x∈bs,x∈S'\/x∈ws)/\(∀k∈S',∀l,M[k]? = some l->∀t∈l,t∈S'\/t∈ws)/\ws.length<=400+S'.length * B/\m'=(M.length - S'.length) * (B+1)+ws.length/\m'<(M.length - S.length) * (B+1)+(r++[p]).length,?_,?_⟩
 ·rintro σ' H4 ⟨m',x4,ws,S',e,r1,r2,r3,r4,r5,r6,r7,r8,r9,r10,r11⟩
  exact⟨m',r11,x4,ws,S',e,r1,r2,r3,r4,r5,r6,r7,r8,r9,r10⟩
 nofun
 specialize c4g ?_
 exists ⟨a2i hw3,c4o hw3 ?_⟩
 have sW:o6 H (upd H3 w (.lst (IL r))):=fun b o e=>by rw[c9 (c4 e hw0)];exact s3 b o e
 have hdW:(upd H3 w (.lst (IL r))) d=some (.dK (KS S)):=by rw[c9 ndw];exact hd3
 have hwW:(upd H3 w (.lst (IL r))) w=some (.lst (IL r)):=c5
 obtain⟨H4,hH4⟩:∃H4,H4=upd H3 w (.lst (IL r)):=⟨_,rfl⟩
 rw[<-hH4]at sW hdW hwW ⊢
 rw[j4,G8]at c3 ⊢
 specialize a7S ?_
 obtain⟨o,g1,g2⟩:=a3K hdW p
 refine⟨d,o,rfl,g1,?_⟩
 rw[g2]
 ext
 by_cases hps:p∈S
 ·exists A8 (by rw[c6G hps];rfl) ?_
  refine⟨_,_,r,S,rfl,hwW,hdW,sW,nd,hS,fun x hx=>hws x (D7 _ hx),fun x hx=>?_,fun a ha l hl' t ht=>?_,by omega,rfl,by omega⟩
  ·rcases c1 x hx with z | z
   ·exact .inl z
   ·rcases l7.mp z with q | q
    ·exact .inr q
    ·exact .inl (j3.mp q ▸ hps)
  ·rcases c2 a ha l hl' t ht with z | z
   ·exact .inl z
   ·rcases l7.mp z with q | q
    ·exact .inr q
    ·exact .inl (j3.mp q ▸ hps)
 refine F9 (by rw[c6F hps];rfl) ?_
 obtain⟨xs,y,f1,f2,f3,_⟩:=(hm.same sW).at (M8 hp)
 obtain⟨l,hle⟩:∃l,l=M[p]:=⟨_,rfl⟩
 have hlp:M[p]? = some l:=by rw[hle];exact M8 hp
 rw[<-hle]at f3
 obtain⟨b1,b2⟩:=hl l (mI hlp)
 have hput:a3i S p=S++[p]:=by unfold a3i;rw[if_neg hps]
 have hS1:S.length<M.length:=by
  have:=a8f _ _ (a7d (k:=p) nd) fun x hx=>(V9.mp hx).elim (hS x) fun z=>z ▸ hp
  rw[hput,j4,G8]at this
  omega
 exact_mod_cast a0r ?_
 specialize b2Y ?_
 refine⟨d,_,rfl,b0p hdW (by omega) p,?_⟩
 rw[hput]
 obtain⟨H5,hH5⟩:∃H5,H5=upd H4 d (.dK (KS (S++[p]))):=⟨_,rfl⟩
 have hd5:H5 d=some (.dK (KS (S++[p]))):=hH5 ▸ c5
 have oth:∀b o,H4 b=some o->b≠d->H5 b=some o:=fun b o e n=>by rw[hH5,c9 n];exact e
 have s5:o6 H H5:=fun b o e=>oth b o (sW b o e) (c4 e hd)
 rw[<-hH5]
 have hw5:=oth w _ hwW (Ne.symm ndw)
 have fx5:=oth _ _ f1 (L3 f1 hdW (by intro z;cases z))
 have fy5:=oth _ _ f3 (L3 f3 hdW (by intro z;cases z))
 ext
 specialize a5Q ?_
 exists ⟨a2i hw5,?_⟩
 refine F8 fx5 f2 ?_
 have hSB:S.length * B<=400 * 800:=Nat.mul_le_mul (by omega) hB
 ext
 refine a5f hw5 fy5 (big (by rw[M3,M3];omega)) ?_
 have e6:IL r++IL l=IL (r++l):=by simp[IL]
 rw[e6]
 ext
 have key:(M.length - (S.length+1)) * (B+1)+(B+1)=(M.length - S.length) * (B+1):=by
  rw[<-Nat.succ_mul]
  congr 1
  omega
 refine⟨_,_,r++l,S++[p],rfl,c5,by rw[c9 ndw];exact hd5,fun b o e=>by rw[c9 (c4 e hw0)];exact s5 b o e,hput ▸ a7d nd,fun x hx=>?_,fun x hx=>?_,fun x hx=>?_,fun a ha l' hl' t ht=>?_,?_,rfl,?_⟩
 ·rcases l7.mp hx with q | q
  ·exact hS x q
  ·rw[j3.mp q];exact hp
 ·rcases l7.mp hx with q | q
  ·exact hws x (D7 _ q)
  ·exact b2 x q
 ·rcases c1 x hx with z | z
  ·exact .inl (D7 _ z)
  ·rcases l7.mp z with q | q
   ·exact .inr (D7 _ q)
   ·exact .inl (l4 _ q)
 ·rcases l7.mp ha with q | q
  ·rcases c2 a q l' hl' t ht with z | z
   ·exact .inl (D7 _ z)
   ·rcases l7.mp z with u | u
    ·exact .inr (D7 _ u)
    ·exact .inl (l4 _ u)
  ·rw[j3.mp q,hlp]at hl'
   cases hl'
   exact .inr (l4 _ ht)
 ·rw[j4,j4,G8,Nat.succ_mul]
  omega
 ·rw[j4,j4,G8]
  omega
theorem a8O{K:Fg}{E:XK}(hn:A9 H na N)(hv:a0g N)(k:∀H',o6 H H'->Q .non H'):a0C K [.ref na] H Q E:=by
 refine⟨rfl,?_⟩
 unfold a4T
 nofun
 exists C3 (by simp) fun p1 H1 hp1 e1 s1=>?_
 exists a7T (bs:=[0]) (B:=2) e1 (hn.same s1) hv.le (by decide) (fun l hl=>⟨hv.two l hl,hv.lt l hl⟩) (by simpa using hv.pos) (by simp) fun d1 S1 H2 hd1 nd1 hS1 hb1 cl1 s2=>?_
 have in1:∀x,Rc N x->x∈S1:=by
  intro x h
  induction h with
  | zero=>exact hb1 0 (by simp)
  | @step a t l _ hl ht ih=>exact cl1 a ih l hl t ht
 nofun
 exists b1m ((hn.same s1).same s2) hv.le fun sa H3 _ e3 s3=>?_
 exists b5j (((hn.same s1).same s2).same s3) hv.le hv.two hv.lt fun ta M H4 m4 lM hM1 hM2 s4=>?_
 have lst:(a9H N).length<=N.length:=by
  have:=a4g (a3n N) (D9 N.length)
  rwa [a7k]at this
 have hle:=hv.le
 refine a7T (bs:=a9H N) (B:=2 * N.length) (s4 _ _ e3) m4 (by omega) (by omega) (fun l hl=>⟨(hM2 l hl).1,by rw[lM];exact(hM2 l hl).2⟩) (fun x hx=>by
  rw[lM]
  exact X2.mp (a3R.mp hx).1) (by omega) fun d2 S2 H5 hd2 nd2 hS2 hb2 cl2 s5=>?_
 have in2:∀x,Gd N x->x∈S2:=by
  intro x h
  induction h with
  | @stop a h=>exact hb2 a (b5M h)
  | @step a t l h ht _ ih=>
   obtain⟨l',q1,q2⟩:=hM1 a l h t ht
   exact cl2 t ih l' q1 a q2
 have s05:=(((s1.trans s2).trans s3).trans s4).trans s5
 have hd1':H5 d1=_:=s5 _ _ (s4 _ _ (s3 _ _ hd1))
 obtain⟨ys,hy,ly⟩:=(hn.same s05).len
 ext
 specialize a0s (Y5 ?_)
 refine G6 hy ?_
 refine⟨N.length,by rw[ly],by omega,by omega,?_⟩
 rw[A3]
 refine a0z (fun i σ H6=>∃x3,σ=[some (.ref na),some (.ref d1),some (.ref d2),x3]/\H6=H5) ⟨_,rfl,rfl⟩ ?_ ?_
 ·rintro i _ H6 hi ⟨x3,rfl,rfl⟩
  ext
  rw[S0]
  specialize a7S ?_
  obtain⟨o,g1,g2⟩:=a3K hd1' i
  refine⟨d1,o,rfl,g1,?_⟩
  rw[g2,c6G (in1 i (hv.rc i hi))]
  ext
  exists A8 rfl ?_
  specialize a7S ?_
  obtain⟨o',g1',g2'⟩:=a3K hd2 i
  refine⟨d2,o',rfl,g1',?_⟩
  rw[g2',c6G (in2 i (hv.gd i hi))]
  ext
  exists A8 rfl ?_
  exact⟨_,rfl,rfl⟩
 ·rintro _ H6 ⟨x3,rfl,rfl⟩
  exact k _ s05
abbrev Stp:=Int×Int
variable{s:Stp}
def FST:Stp:=(-1,0)
def a2l(N:Nt)(p:Nat):List Stp:=(D9 (N.getD p []).length).map fun(a:Nat)=>((p:Int),(a:Int))
def a4l(N:Nt)(i:Nat):List Stp:=FST::(D9 i).flatMap (a2l N)
def a1e(N:Nt):List Stp:=a4l N N.length
def a3m(N:Nt)(s:Stp):Nat:=if s=FST then 0 else (N.getD s.1.toNat []).getD s.2.toNat 0
theorem a6t(N:Nt)(i:Nat):a4l N (i+1)=a4l N i++a2l N i:=by
 unfold a4l
 rw[a9v,List.flatMap_append]
 simp
def b3Z(N:Nt)(s:Stp):Prop:=s=FST\/∃(p q:Nat) (l:List Nat) (t:Nat),s=((p:Int),(q:Int))/\N[p]? = some l/\l[q]? = some t
theorem b5S(h:s∈a1e N):b3Z N s:=by
 rcases c7.mp h with z | z
 ·exact .inl z
 ·obtain⟨p,hp,q⟩:=List.mem_flatMap.mp z
  have hp:=X2.mp hp
  obtain⟨a,ha,rfl⟩:=A0.mp q
  have ha:=X2.mp ha
  have e:N.getD p []=N[p]:=by simp[N4,hp]
  rw[e]at ha
  exact .inr ⟨p,a,N[p],N[p][a],rfl,M8 hp,by simp⟩
theorem c0H(hv:a0g N)(h:b3Z N s):a3m N s<N.length:=by
 unfold a3m
 rcases h with rfl | ⟨p,q,l,t,rfl,h1,h2⟩
 ·rw[if_pos rfl];exact hv.pos
 ·split
  ·exact hv.pos
  ·have:(N.getD ((p:Int),(q:Int)).1.toNat []).getD ((p:Int),(q:Int)).2.toNat 0=t:=by
    show(N.getD (p:Int).toNat []).getD (q:Int).toNat 0=t
    rw[A3,A3]
    simp[N4,h1,h2]
   rw[this]
   exact hv.lt l (mI h1) t (mI h2)
def a4f(K:Fg)(H:Hp)(a:Addr)(s:Stp):Prop:=H a=some (.tup [.int s.1,.int s.2])\/(s=FST/\∀H,SqT K H a [.int (-1),.int 0])
theorem a4f.ts{K:Fg}(h:a4f K H a s)(t:Q9 H H'):a4f K H' a s:=by
 rcases h with h | h
 ·exact .inl (t _ _ h)
 ·exact .inr h
theorem a4f.sq{K:Fg}(h:a4f K H a s):SqT K H a [.int s.1,.int s.2]:=by
 rcases h with h | ⟨e,h⟩
 ·exact SqT.of h
 ·subst e;exact h H
structure a0h(K:Fg)(H:Hp)(l:Addr)(S:List Stp):Prop where
 ex:∃vs:List Addr,H l=some (.lst (vs.map V.ref))/\vs.length=S.length/\∀(i:Nat) x s,vs[i]? = some x->S[i]? = some s->a4f K H x s
theorem a0h.same{K:Fg}{l:Addr}{S:List Stp}(h:a0h K H l S)(s:o6 H H'):a0h K H' l S:=by
 obtain⟨vs,h1,h2,h3⟩:=h.ex
 exact⟨vs,s _ _ h1,h2,fun i x t e1 e2=>(h3 i x t e1 e2).ts (o6.ts s)⟩
theorem a0h.put{K:Fg}{l y:Addr}{S:List Stp}(h:a0h K H l S)(hy:H y=some (.lst xs))(n:l≠y):a0h K (upd H y (.lst ys)) l S:=by
 obtain⟨vs,h1,h2,h3⟩:=h.ex
 exact⟨vs,by rw[c9 n];exact h1,h2,fun i x t e1 e2=>(h3 i x t e1 e2).ts (Q9.put hy)⟩
theorem b1n{K:Fg}{c:Cn}{E:XK}(ck:a6R K c)(hn:A9 H na N)(h400:N.length<=400)(h2:∀l∈N,l.length<=2)
  (k:∀a H',H a=none->a0h K H' a (a1e N)->o6 H H'->Q (.ref a) H'):a1u K c [.ref na] H Q E:=by
 obtain⟨ns,a1,a2,a3⟩:=id hn.ex
 refine⟨rfl,?_⟩
 unfold a7A
 nofun
 exists C3 (by simp) fun D H1 hD e1 s1=>?_
 exact_mod_cast a0r ?_
 specialize a0s (a6Z ?_)
 refine⟨na,rfl,⟨_,SqL.of (s1 _ _ a1)⟩,?_⟩
 refine b8B N.length (fun i σ H2=>∃x2 x3 vs,σ=[some (.ref na),some (.ref D),x2,x3]/\H2 D=some (.lst ((vs:List Addr).map V.ref))/\vs.length=(a4l N i).length/\vs.length<=1+2 * i/\(∀(j:Nat) x s,vs[j]? = some x->(a4l N i)[j]? = some s->a4f K H2 x s)/\o6 H H2) ?_ ?_ ?_ ?_
 ·refine⟨_,_,[c.a0m],rfl,e1,rfl,by simp,fun j x s f1 f2=>?_,s1⟩
  cases j with
  | zero=>
   cases f1
   cases f2
   exact .inr ⟨rfl,ck.a5y⟩
  | succ j=>simp at f1
 ·rintro _ H2 ⟨x2,x3,vs,rfl,hD2,lv,_,at2,s2⟩
  exists ⟨⟨_,SqL.of (s2 _ _ a1),by rw[a9,a2];exact d5 _⟩,?_⟩
  exact k D H2 hD ⟨vs,hD2,lv,at2⟩ s2
 ·rintro i _ H2 hi ⟨x2,x3,vs,rfl,hD2,lv,_,at2,s2⟩
  exact⟨_,_,SqL.of (s2 _ _ a1),by rw[b7,c6 (show i<ns.length by omega)];rfl⟩
 ·rintro i _ H2 hi ⟨x2,x3,vs,rfl,hD2,lv,lv2,at2,s2⟩ x H3 ⟨p,y,hp,rfl,rfl,gy⟩
  obtain⟨nx,f1⟩:∃nx,ns[i]? = some nx:=⟨_,c6 (by omega)⟩
  have gy:=gy _ (SqL.of (s2 _ _ a1))
  rw[b7,f1]at gy
  cases gy
  refine a7a (SqT.of c5) ?_
  have s3:o6 H2 (upd H2 p (.tup [V.int (i:Int),V.ref nx])):=o5 hp
  obtain⟨H3,hH3⟩:∃H3,H3=upd H2 p (.tup [V.int (i:Int),V.ref nx]):=⟨_,rfl⟩
  rw[<-hH3]at s3 ⊢
  have s03:=s2.trans s3
  have hl:=M8 hi
  obtain⟨l,hle⟩:∃l,l=N[i]:=⟨_,rfl⟩
  rw[<-hle]at hl
  have hll:=h2 l (mI hl)
  have hx:=s03 _ _ (a3 i nx l f1 hl)
  ext
  specialize a5Q ?_
  exists ⟨a2i (s3 _ _ hD2),?_⟩
  specialize O5 (Y5 ?_)
  refine G6 hx ?_
  rw[M3]
  refine⟨l.length,rfl,by omega,by omega,fun A hA=>?_⟩
  rw[A3]
  refine a0L (fun j ys H4=>∃ws:List Addr,ys=ws.map V.ref/\ws.length=j/\(∀(q:Nat) x,ws[q]? = some x->H4 x=some (.tup [.int (i:Int),.int (q:Int)]))/\H4 A=some (.lst ys)/\o6 H3 H4) ?_ ?_ ?_ ?_
  ·exact⟨[],rfl,rfl,by simp,c5,o5 hA⟩
  ·rintro j ys H4 ⟨_,_,_,_,h,_⟩
   exact h
  ·rintro j ys H4 hj ⟨ws,rfl,lw,at4,hA4,s4⟩ R hR
   ext
   refine C3 (by simp) fun z H5 hz e5 s5=>?_
   rw[S0]at e5
   have nzA:z≠A:=(c4 hA4 hz).symm
   refine hR _ _ (s5 _ _ hA4) (E8 (by rw[a9];omega)) ⟨ws++[z],by simp,by simp[lw],fun q x hq=>?_,c5,fun b o e=>?_⟩
   ·rcases W9 hq with ⟨_,g⟩ | ⟨hq',g⟩
    ·have:=s5 _ _ (at4 q x g)
     rw[c9 (L3 this (s5 _ _ hA4) (by intro z;cases z))]
     exact this
    ·subst g
     rw[c9 nzA,e5,hq',lw]
   ·rw[c9 (c4 e hA)];exact s5 _ _ (s4 _ _ e)
  ·rintro ys H4 ⟨ws,rfl,lw,at4,hA4,s4⟩
   ext
   have hD4:H4 D=_:=s4 _ _ (s3 _ _ hD2)
   have s04:=s03.trans s4
   refine a5f hD4 hA4 (big (by rw[a9,a9];omega)) ?_
   rw[<-I0]
   have hon:a2l N i=(D9 l.length).map fun(a:Nat)=>((i:Int),(a:Int)):=by
    unfold a2l
    simp[N4,hl]
   have hU:=a6t N i
   have lon:(a2l N i).length=l.length:=by rw[hon];simp
   refine⟨_,_,vs++ws,rfl,c5,by rw[hU,j4,j4,lv,lw,lon],by rw[j4];omega,fun j x s g1 g2=>?_,fun b o e=>?_⟩
   ·rw[hU]at g2
    by_cases hj:j<vs.length
    ·rw[u9 hj]at g1
     rw[u9 (by omega)]at g2
     exact((at2 j x s g1 g2).ts (o6.ts (s3.trans s4))).ts (Q9.put hD4)
    ·rw[A5 (by omega)]at g1
     rw[A5 (by omega),<-lv,hon,b7]at g2
     have hq:j - vs.length<l.length:=by
      have:=(gI g1)
      omega
     rw[Y9 hq]at g2
     cases g2
     have:=at4 _ _ g1
     exact .inl (by rw[c9 (L3 this hD4 (by intro z;cases z))];exact this)
   ·rw[c9 (c4 e hD)];exact s04 _ _ e
def c4U(c:Cn)(H:Hp)(x:Addr)(N:Nt):Prop:=∃dx fs n,H x=some (.ins c.K7 dx fs)/\fs.lookup ("nexts" : Str)=some (V.ref n)/\A9 H n N
theorem eq2(p q:Int):a0A [.int p,.int q] [.int (-1),.int 0]=decide ((p,q)=FST):=by
 unfold a0A
 simp only[q9,a3S,Nat.zero_add,Nat.reduceAdd,Nat.min_self]
 rw[show D9 2=[0,1] from rfl]
 simp only[Z3,a1I,c4Y,N4,b4d,List.getElem?_cons_succ,a2P,beq_self_eq_true]
 unfold FST
 by_cases h:p = -1
 ·by_cases h':q=0
  ·subst h h';decide
  ·subst h
   simp[eqV,h']
 ·simp[eqV,h]
theorem b1W{K:Fg}{c:Cn}{E:XK}(ck:a6R K c)(hp:c4U c H x N)(ha:a4f K H a s)(hs:b3Z N s)(k:Q (.int (a3m N s:Nat)) H):W5 K c [.ref x,.ref a] H Q E:=by
 refine⟨rfl,?_⟩
 unfold a2L
 nofun
 refine⟨_,_,_,_,rfl,rfl,ha.sq,ck.a5y H,rfl,rfl,?_⟩
 rw[eq2]
 ext
 by_cases e:s=FST
 ·exists F9 (c6G e) ?_
  unfold a3m at k
  rw[if_pos e]at k
  exact k
 ·exists A8 (c6F e) ?_
  rcases hs with z | ⟨p,q,l,t,rfl,h1,h2⟩
  ·exact(e z).elim
  rcases ha with ha | ⟨z,_⟩
  rotate_left
  ·exact(e z).elim
  obtain⟨dx,fs,n,hx,hf,hn⟩:=hp
  specialize a6u ?_
  exists ⟨x,_,dx,fs,_,rfl,hx,ck.U4,ck.Q8,hf,?_⟩
  refine V8 ha (a2H _ _) ?_
  obtain⟨xs,y,f1,f2,f3,_⟩:=hn.at h1
  exists F8 f1 f2 ?_
  refine V8 ha (a6j _ _ _) ?_
  refine F8 f3 (c4V h2) ?_
  have:a3m N ((p:Int),(q:Int))=t:=by
   unfold a3m
   rw[if_neg e]
   show(N.getD (p:Int).toNat []).getD (q:Int).toNat 0=t
   rw[A3,A3]
   simp[N4,h1,h2]
  rw[this]at k
  exact k
structure b8S(K:Fg)(H0 H:Hp)(e:Addr)(es:List Addr)(P:List (List Stp)):Prop where
 same:o6 H0 H
 h:H e=some (.lst (es.map V.ref))
 len:es.length=P.length
 nd:es.Nodup
 na:e∉es
 at_:∀(i:Nat) y S,es[i]? = some y->P[i]? = some S->a0h K H y S
 new:H0 e=none/\∀y∈es,H0 y=none
theorem b8S.add{K:Fg}{e:Addr}{es:List Addr}{P:List (List Stp)}(h:b8S K H0 H e es P){y:Addr}{S:List Stp}{vs:List Addr}(e1:es[t]? = some y)(e2:P[t]? = some S)(hy:H y=some (.lst (vs.map V.ref)))
  (lv:vs.length=S.length) (at2:∀(i:Nat) x s,vs[i]? = some x->S[i]? = some s->a4f K H x s) (ha:a4f K H a s):b8S K H0 (upd H y (.lst ((vs++[a]).map V.ref))) e es (P.set t (S++[s])):=by
 have hm:=mI e1
 have ye:y≠e:=fun z=>h.na (z ▸ hm)
 refine⟨fun b o q=>by rw[c9 (c4 q (h.new.2 y hm))];exact h.same b o q,by rw[c9 ye.symm];exact h.h,by rw[a0j];exact h.len,h.nd,h.na,fun i z S' f1 f2=>?_,h.new⟩
 by_cases q:i=t
 ·subst q
  rw[e1]at f1
  cases f1
  rw[F2 (gI e2)]at f2
  cases f2
  refine⟨vs++[a],c5,by simp[lv],fun j x s' g1 g2=>?_⟩
  rcases W9 g1 with ⟨_,k1⟩ | ⟨j1,k1⟩
  ·rcases W9 g2 with ⟨_,k2⟩ | ⟨j2,k2⟩
   ·exact(at2 j x s' k1 k2).ts (Q9.put hy)
   ·omega
  ·rcases W9 g2 with ⟨_,k2⟩ | ⟨j2,k2⟩
   ·omega
   ·subst k1 k2
    exact ha.ts (Q9.put hy)
 ·rw[J3 (Ne.symm q)]at f2
  have:z≠y:=by
   rintro rfl
   exact q (c1t h.nd f1 e1)
  exact(h.at_ i z S' f1 f2).put hy this
structure c5B(K:Fg)(c:Cn)(H:Hp)(x:Addr)(N:Nt):Prop where
 ex:∃dx r n e es,H x=some (.ins c.K7 dx [("rows",.ref r),("nexts",.ref n),("entries",.ref e)])/\M9 H r N/\A9 H n N/\H e=some (.lst ((es:List Addr).map V.ref))/\es.length=N.length /\
  ∀(t:Nat) y,es[t]? = some y->a0h K H y ((a1e N).filter fun s=>decide (a3m N s=t))
structure a6C(K:Fg)(c:Cn)(Z:Addr->Prop)(rs:List Addr)(H:Hp)(x:Addr)(N:Nt):Prop where
 ex:∃dx r n e es ns,H x=some (.ins c.K7 dx [("rows",.ref r),("nexts",.ref n),("entries",.ref e)])/\(M9 H r N/\H r=some (.lst (rs.map V.ref)))/\H n=some (.lst ((ns:List Addr).map V.ref))/\ns.length=N.length/\(∀(i:Nat) y l,ns[i]? = some y->N[i]? = some l->H y=some (.lst (IL l))) /\
  H e=some (.lst ((es:List Addr).map V.ref))/\es.length=N.length/\(∀(t:Nat) y,es[t]? = some y->a0h K H y ((a1e N).filter fun s=>decide (a3m N s=t)))/\∀z,Z z->z≠r/\z≠n/\z≠e/\z∉ns/\z∉es
theorem a6C.put{K:Fg}{c:Cn}{Z:Addr->Prop}{z:Addr}(h:a6C K c Z rs H x N)(hz:Z z)(hl:H z=some (.lst xs)):a6C K c Z rs (upd H z (.lst ys)) x N:=by
 obtain⟨dx,r,n,e,es,ns,h1,⟨h2,h2r⟩,h3,h4,h5,h6,h7,h8,h9⟩:=h.ex
 obtain⟨z1,z2,z3,z4,z5⟩:=h9 z hz
 refine⟨dx,r,n,e,es,ns,by rw[c9 (L3 h1 hl (by intro z;cases z))];exact h1,⟨?_,by rw[c9 z1.symm];exact h2r⟩,by rw[c9 z2.symm];exact h3,h4,fun i y l a b=>?_,by rw[c9 z3.symm];exact h6,h7,fun t y q=>(h8 t y q).put hl fun u=>z5 (u ▸ mI q),h9⟩
 ·obtain⟨rs',r1,r2,r3⟩:=h2.ex
  exact⟨rs',by rw[c9 z1.symm];exact r1,r2,fun i y l a b=>(r3 i y l a b).ts (Q9.put hl)⟩
 ·rw[c9 (show y≠z from fun u=>z4 (u ▸ mI a))]
  exact h5 i y l a b
theorem a6C.same{K:Fg}{c:Cn}{Z:Addr->Prop}(h:a6C K c Z rs H x N)(s:o6 H H'):a6C K c Z rs H' x N:=by
 obtain⟨dx,r,n,e,es,ns,h1,⟨h2,h2r⟩,h3,h4,h5,h6,h7,h8,h9⟩:=h.ex
 exact⟨dx,r,n,e,es,ns,s _ _ h1,⟨h2.same s,s _ _ h2r⟩,s _ _ h3,h4,fun i y l a b=>s _ _ (h5 i y l a b),s _ _ h6,h7,fun t y q=>(h8 t y q).same s,h9⟩
theorem A9.ins{H:Hp}{a x C dx:Addr}{N:Nt}{fs:List (Str×V)}{o:HO}(h:A9 H a N)(hx:H x=some (.ins C dx fs)):A9 (upd H x o) a N:=by
 obtain⟨as,q1,q2,q3⟩:=h.ex
 exact⟨as,by rw[c9 (L3 q1 hx (by intro z;cases z))];exact q1,q2,fun j y l e1 e2=>by
  have q:=q3 j y l e1 e2
  rw[c9 (L3 q hx (by intro z;cases z))];exact q⟩
theorem Q9.ins{H:Hp}{x C dx:Addr}{fs:List (Str×V)}{o:HO}(hx:H x=some (.ins C dx fs)):Q9 H (upd H x o):=fun a xs e=>by
 rw[c9 (L3 e hx (by intro z;cases z))];exact e
theorem M9.ins{H:Hp}{a x C dx:Addr}{N:Nt}{fs:List (Str×V)}{o:HO}(h:M9 H a N)(hx:H x=some (.ins C dx fs)):M9 (upd H x o) a N:=by
 obtain⟨as,q1,q2,q3⟩:=h.ex
 exact⟨as,by rw[c9 (L3 q1 hx (by intro z;cases z))];exact q1,q2,fun j y l e1 e2=>(q3 j y l e1 e2).ts (Q9.ins hx)⟩
theorem b5m(h:∀l∈N,l.length<=2):(a1e N).length<=1+2 * N.length:=by
 have go:∀i,i<=N.length->(a4l N i).length<=1+2 * i:=by
  intro i
  induction i with
  | zero=>intro _;show 1<=1;exact d5 _
  | succ i ih=>
   intro hi
   rw[a6t,j4]
   have:=ih (by omega)
   have h2:(a2l N i).length<=2:=by
    unfold a2l
    rw[a9,a7k]
    have e:N.getD i []=N[i]:=by simp[N4,show i<N.length by omega]
    rw[e]
    exact h _ (C0 _)
   omega
 exact go _ (d5 _)
theorem b3I{S:List Stp}{f:Stp->Nat}(h:S[i]? = some s):(S.take (i+1)).filter (fun s=>decide (f s=t))=(S.take i).filter (fun s=>decide (f s=t))++(if f s=t then [s] else []):=by
 rw[D5,h,a6G]
 congr 1
 by_cases e:f s=t
 ·rw[if_pos e];simp[e]
 ·rw[if_neg e];simp[e]
theorem a5h{K:Fg}{c:Cn}{E:XK}(ck:a6R K c)(hrs:H ra=some (.lst (rs.map V.ref)))(hr:M9 H ra N)(hn:A9 H na N)(hv:a0g N)(hx:H x=some (.ins c.K7 dx []))
  (k:∀H',a6C K c (fun z=>∃o,H z=some o/\z≠x) rs H' x N->(∀b o,H b=some o->b≠x->H' b=some o)->Q .non H'):a0b K c [.ref x,.ref ra,.ref na] H Q E:=by
 obtain⟨rs',r1,r2,r3⟩:=id hr.ex
 obtain rfl:rs'=rs:=by
  rw[hrs]at r1
  exact(a6F (f:=V.ref) (fun a b h=>V.ref.inj h) |>.mp (HO.lst.inj (Option.some.inj r1))).symm
 obtain⟨ns,n1,n2,n3⟩:=id hn.ex
 have hpos:=hv.pos
 have h400:=hv.le
 refine⟨rfl,?_⟩
 unfold a6s
 nofun
 exists a6P r1 (by rw[a9];omega) (by rw[a9];omega) ?_
 nofun
 specialize O5 (U6 ?_)
 refine⟨ra,rfl,⟨_,SqL.of r1⟩,fun D hD=>?_⟩
 refine U0 (xs:=rs'.map V.ref) (fun i ys H2=>ys=v5 i (V.bl true)/\H2 D=some (.lst ys)/\o6 H H2) ⟨rfl,c5,o5 hD⟩ ?_ ?_ ?_ ?_
 ·rintro i ys H2 ⟨_,h,_⟩
  exact h
 ·rintro i ys H2 _ ⟨_,_,s2⟩
  exact SqL.of (s2 _ _ r1)
 ·rintro i y ys H2 hy ⟨rfl,hD2,s2⟩ R hR
  rw[b7]at hy
  cases hrx:rs'[i]? with
  | none=>rw[hrx]at hy;cases hy
  | some rx=>
   rw[hrx]at hy
   cases hy
   have hi:i<N.length:=by rw[<-r2];exact(gI hrx)
   ext
   refine b5R ck ((r3 i rx _ hrx (M8 hi)).ts (o6.ts s2)) fun H3 s3=>?_
   refine hR _ _ (s3 _ _ hD2) (E8 (by rw[C5];omega)) ⟨a7w i,c5,fun b o e=>?_⟩
   rw[c9 (c4 e hD)];exact s3 _ _ (s2 _ _ e)
 rintro ys H2 ⟨rfl,hD2,s2⟩
 ext
 refine a4e hD2 fun H3 s3=>?_
 have s03:=s2.trans s3
 ext
 nofun
 refine a8o (hr.same s03) (hn.same s03) h400 hv.two hv.lt fun H4 s4=>?_
 have s04:=s03.trans s4
 ext
 nofun
 refine a8O (hn.same s04) hv fun H5 s5=>?_
 have s05:=s04.trans s5
 ext
 exact_mod_cast a0r ?_
 specialize b2V ?_
 refine a9T (s05 _ _ r1) fun rp H6 hrp e6 s6=>?_
 have s06:=s05.trans s6
 ext
 refine⟨x,_,dx,[],rfl,s06 _ _ hx,ck.U4,ck.W7,by simp,?_⟩
 obtain⟨H7,hH7⟩:∃H7,H7=upd H6 x (.ins c.K7 dx (a1q "rows" (.ref rp) [])):=⟨_,rfl⟩
 have x7:H7 x=some (.ins c.K7 dx [("rows",.ref rp)]):=hH7 ▸ c5
 have f7:∀b o,H6 b=some o->b≠x->H7 b=some o:=fun b o e n=>by rw[hH7,c9 n];exact e
 have rows7:M9 H7 rp N:=by
  have q:M9 H6 rp N:=⟨rs',e6,r2,fun i y l a b=>(r3 i y l a b).ts (o6.ts s06)⟩
  rw[hH7]
  exact q.ins (s06 _ _ hx)
 have net7:A9 H7 na N:=by rw[hH7];exact(hn.same s06).ins (s06 _ _ hx)
 have ra7:H7 ra=some (.lst (rs'.map V.ref)):=f7 _ _ (s06 _ _ r1) (L3 r1 hx (by intro z;cases z))
 rw[<-hH7]
 clear hH7
 exact_mod_cast a0r ?_
 exact_mod_cast b2V ?_
 exact_mod_cast O5 (U6 ?_)
 obtain⟨ns',m1,m2,m3⟩:=id net7.ex
 ext
 refine⟨na,rfl,⟨_,SqL.of m1⟩,fun np hnp=>?_⟩
 refine U0 (xs:=ns'.map V.ref) (fun i ys H8=>∃as:List Addr,ys=as.map V.ref/\as.length=i/\(∀(j:Nat) y l,as[j]? = some y->N[j]? = some l->H8 y=some (.lst (IL l))/\y≠np)/\H8 np=some (.lst ys)/\o6 H7 H8/\∀y∈as,H7 y=none) ?_ ?_ ?_ ?_ ?_
 ·exact⟨[],rfl,rfl,by simp,c5,o5 hnp,by simp⟩
 ·rintro i ys H8 ⟨_,_,_,_,h,_⟩
  exact h
 ·rintro i ys H8 _ ⟨_,_,_,_,_,s8,_⟩
  exact SqL.of (s8 _ _ m1)
 ·rintro i y ys H8 hy ⟨as,rfl,la,at8,hnp8,s8,fr8⟩ R hR
  rw[b7]at hy
  cases hnx:ns'[i]? with
  | none=>rw[hnx]at hy;cases hy
  | some nx=>
   rw[hnx]at hy
   cases hy
   have hi:i<N.length:=by rw[<-m2];exact(gI hnx)
   ext
   refine a9T (s8 _ _ (m3 i nx _ hnx (M8 hi))) fun q H9 hq e9 s9=>?_
   have nq:q≠np:=(c4 hnp8 hq).symm
   refine hR _ _ (s9 _ _ hnp8) (E8 (by rw[a9];omega)) ⟨as++[q],by simp,by simp[la],fun j y l g1 g2=>?_,c5,fun b o e=>?_,fun y hy=>?_⟩
   ·rcases W9 g1 with ⟨_,f1⟩ | ⟨hj,f1⟩
    ·obtain⟨f2,f3⟩:=at8 j y l f1 g2
     exact⟨by rw[c9 f3];exact s9 _ _ f2,f3⟩
    ·rw[hj,la,M8 hi]at g2
     cases g2
     subst f1
     exact⟨by rw[c9 nq];exact e9,nq⟩
   ·rw[c9 (c4 e hnp)];exact s9 _ _ (s8 _ _ e)
   ·rcases l7.mp hy with z | z
    ·exact fr8 y z
    ·rw[j3.mp z];exact s8.free hq
 rintro ys H8 ⟨as,rfl,la,at8,hnp8,s8,fr8⟩
 rw[a9,m2]at la
 have net8:A9 H8 np N:=⟨as,hnp8,la,fun i y l a b=>(at8 i y l a b).1⟩
 ext
 refine⟨x,_,dx,_,rfl,s8 _ _ x7,ck.U4,ck.Q8,by simp,?_⟩
 obtain⟨H9,hH9⟩:∃H9,H9=upd H8 x (.ins c.K7 dx (a1q "nexts" (.ref np) [("rows",.ref rp)])):=⟨_,rfl⟩
 have x9:H9 x=some (.ins c.K7 dx [("rows",.ref rp),("nexts",.ref np)]):=by
  rw[hH9,c5]
  simp only[a1q]
  rw[if_neg (by decide)]
 have f9:∀b o,H8 b=some o->b≠x->H9 b=some o:=fun b o e n=>by rw[hH9,c9 n];exact e
 have rows9:M9 H9 rp N:=by rw[hH9];exact(rows7.same s8).ins (s8 _ _ x7)
 have net9:A9 H9 np N:=by rw[hH9];exact net8.ins (s8 _ _ x7)
 have ra9:H9 ra=some (.lst (rs'.map V.ref)):=f9 _ _ (s8 _ _ ra7) (L3 ra7 x7 (by intro z;cases z))
 rw[<-hH9]
 clear hH9
 exact_mod_cast a0r ?_
 exact_mod_cast b2V ?_
 specialize O5 (U6 ?_)
 refine⟨ra,rfl,⟨_,SqL.of ra9⟩,fun ep hep=>?_⟩
 refine U0 (xs:=rs'.map V.ref) (fun i ys H10=>∃es,ys=es.map V.ref/\a3q H9 H10 ep es (v5 i [])) ?_ ?_ ?_ ?_ ?_
 ·exact⟨[],rfl,.nil hep (o5 hep) c5⟩
 ·rintro i ys H10 ⟨es,rfl,I⟩
  exact I.h
 ·rintro i ys H10 _ ⟨es,rfl,I⟩
  exact SqL.of (I.same _ _ ra9)
 ·rintro i y ys H10 hy ⟨es,rfl,I⟩ R hR
  have hi:i<N.length:=by
   have:=(gI hy)
   rw[a9,r2]at this
   exact this
  ext
  refine C3 (by simp) fun p H11 hp e11 s11=>?_
  have:=I.len
  rw[C5]at this
  refine hR _ _ (s11 _ _ I.h) (E8 (by rw[a9];omega)) ⟨es++[p],by simp,?_⟩
  have q:=I.snoc hp e11 s11
  rw[show v5 i ([]:List Nat)++[[]]=v5 (i+1) [] from by rw[a4G]]at q
  rw[show es.map V.ref++[V.ref p]=(es++[p]).map V.ref by simp]
  exact q
 rintro ys H10 ⟨es,rfl,I10⟩
 rw[a9,r2]at I10
 ext
 have x10:=I10.same _ _ x9
 refine⟨x,_,dx,_,rfl,x10,ck.U4,ck.Y1,by simp,?_⟩
 obtain⟨F,hF⟩:∃F:List (Str×V),F=([("rows",.ref rp),("nexts",.ref np),("entries",.ref ep)]:List (Str×V)):=⟨_,rfl⟩
 have hput:a1q "entries" (.ref ep) [("rows",.ref rp),("nexts",.ref np)]=F:=by
  rw[hF]
  simp only[a1q]
  rw[if_neg (by decide),if_neg (by decide)]
 rw[hput]
 obtain⟨H11,hH11⟩:∃H11,H11=upd H10 x (.ins c.K7 dx F):=⟨_,rfl⟩
 obtain⟨H0,hH0⟩:∃H0,H0=upd H9 x (.ins c.K7 dx F):=⟨_,rfl⟩
 have x0:H0 x=some (.ins c.K7 dx F):=hH0 ▸ c5
 have f0:∀b o,H9 b=some o->b≠x->H0 b=some o:=fun b o e n=>by rw[hH0,c9 n];exact e
 have rows0:M9 H0 rp N:=by rw[hH0];exact rows9.ins x9
 have net0:A9 H0 np N:=by rw[hH0];exact net9.ins x9
 have np0:H0 np=some (.lst (as.map V.ref)):=by
  have:=f9 _ _ hnp8 (L3 hnp8 (s8 _ _ x7) (by intro z;cases z))
  exact f0 _ _ this (L3 this x9 (by intro z;cases z))
 have rp0:H0 rp=some (.lst (rs'.map V.ref)):=by
  have q:=s8 _ _ (f7 _ _ e6 (L3 e6 (s06 _ _ hx) (by intro z;cases z)))
  have q:=f9 _ _ q (L3 q (s8 _ _ x7) (by intro z;cases z))
  exact f0 _ _ q (L3 q x9 (by intro z;cases z))
 have at0:∀(i:Nat) y l,as[i]? = some y->N[i]? = some l->H0 y=some (.lst (IL l)):=fun i y l a b=>by
  have q:=(at8 i y l a b).1
  have q:=f9 _ _ q (L3 q (s8 _ _ x7) (by intro z;cases z))
  exact f0 _ _ q (L3 q x9 (by intro z;cases z))
 have old9:∀b o,H b=some o->b≠x->H9 b=some o:=fun b o e n=>f9 _ _ (s8 _ _ (f7 _ _ (s06 _ _ e) n)) n
 have ent11:b8S K H0 H11 ep es (v5 N.length []):=by
  have nxe:x≠ep:=c4 x9 hep
  have nxes:∀y∈es,x≠y:=fun y hy=>c4 x9 (I10.new.2 y hy)
  refine⟨fun b o e=>?_,by rw[hH11,c9 nxe.symm];exact I10.h,by rw[C5];have:=I10.len;rwa [C5]at this,I10.nd,I10.na,fun i y S a b=>?_,by rw[hH0,c9 nxe.symm];exact hep,fun y hy=>by rw[hH0,c9 (nxes y hy).symm];exact I10.new.2 y hy⟩
  ·rw[hH0]at e
   rw[hH11]
   by_cases q:b=x
   ·subst q
    rw[c5]at e ⊢
    exact e
   ·rw[c9 q]at e ⊢
    exact I10.same _ _ e
  ·have hi:=(gI b)
   rw[C5]at hi
   have q:=I10.at_ i y [] a (by rw[J4,if_pos hi])
   rw[J4,if_pos hi]at b
   cases b
   refine⟨[],?_,rfl,by simp⟩
   rw[hH11,c9 (L3 q x10 (by intro z;cases z))]
   exact q
 have old:∀b o,H b=some o->b≠x->H0 b=some o:=fun b o e n=>f0 _ _ (f9 _ _ (s8 _ _ (f7 _ _ (s06 _ _ e) n)) n) n
 rw[<-hH11]
 clear hH11 hH0 I10 x10 f0 f9 x9 ra9 net9 rows9
 specialize a0s (U6 ?_)
 specialize a6u ?_
 exists ⟨x,_,dx,F,.ref np,rfl,ent11.same _ _ x0,ck.U4,ck.Q8,by rw[hF];rfl,?_⟩
 refine b1n ck (net0.same ent11.same) h400 hv.two fun sl H12 hsl S12 s12=>?_
 obtain⟨vs,v1,v2,v3⟩:=id S12.ex
 have nsl:sl∉es:=fun z=>by
  obtain⟨i,hi⟩:=L5.mp z
  have hil:i<N.length:=by
   have:=ent11.len
   rw[C5]at this
   rw[<-this];exact(gI hi)
  obtain⟨ws,w1,_⟩:=(ent11.at_ i sl [] hi (by rw[J4,if_pos hil])).ex
  rw[hsl]at w1
  cases w1
 refine⟨sl,rfl,⟨_,SqL.of v1⟩,a3p (xs:=vs.map V.ref) (fun i σ H13=>∃x3 P,σ=[some (.ref x),some (.ref ra),some (.ref na),x3]/\b8S K H0 H13 ep es P/\P.length=N.length/\(∀t,t<N.length->P[t]? = some (((a1e N).take i).filter fun s=>decide (a3m N s=t)))/\a0h K H13 sl (a1e N)/\H13 sl=some (.lst (vs.map V.ref))) ?_ ?_ ?_ ?_⟩
 ·refine⟨_,v5 N.length [],rfl,⟨ent11.same.trans s12,s12 _ _ ent11.h,ent11.len,ent11.nd,ent11.na,fun i y S a b=>(ent11.at_ i y S a b).same s12,ent11.new⟩,by simp,fun t ht=>by rw[J4,if_pos ht];simp,S12,v1⟩
 ·rintro i σ H13 _ ⟨_,_,_,_,_,_,_,h⟩
  exact SqL.of h
 ·rintro i y _ H13 hy ⟨x3,P,rfl,I13,lP,hP,S13,hsl13⟩
  rw[b7]at hy
  cases hvx:vs[i]? with
  | none=>rw[hvx]at hy;cases hy
  | some vx=>
   rw[hvx]at hy
   cases hy
   obtain⟨ws,w1,w2,w3⟩:=S13.ex
   have ews:ws=vs:=by
    rw[hsl13]at w1
    have:=a6F (f:=V.ref) (fun a b h=>V.ref.inj h) |>.mp (HO.lst.inj (Option.some.inj w1))
    exact this.symm
   subst ews
   have hi:i<(a1e N).length:=by rw[<-w2];exact(gI hvx)
   obtain⟨s,hs⟩:∃s,(a1e N)[i]? = some s:=⟨_,c6 hi⟩
   have hst:=w3 i vx s hvx hs
   have hm:=mI hs
   have his:=b5S hm
   have hlt:=c0H hv his
   have x13:=I13.same _ _ x0
   ext
   specialize a5Q ?_
   specialize a6u ?_
   refine⟨x,_,dx,F,.ref ep,rfl,x13,ck.U4,ck.Y1,by rw[hF];rfl,?_⟩
   specialize c1M ?_
   exists ⟨x,dx,F,rfl,x13,by rw[hF];rfl,?_⟩
   refine b1W ck ⟨dx,F,np,x13,by rw[hF];rfl,net0.same I13.same⟩ hst his ?_
   obtain⟨z,hz⟩:∃z,es[a3m N s]? = some z:=⟨_,c6 (by have:=I13.len;omega)⟩
   refine F8 I13.h (U9 (by rw[b7,hz];rfl)) ?_
   have hPt:=hP _ hlt
   obtain⟨us,u1,u2,u3⟩:=(I13.at_ _ z _ hz hPt).ex
   exists ⟨a2i u1,?_⟩
   have hul:us.length<=i:=by
    rw[u2]
    refine v9 (a4g _ _) ?_
    rw[C8];omega
   have hlen1:(a1e N).length<=1000:=by
    rw[<-w2]
    have:(a1e N).length<=1+2 * N.length:=b5m hv.two
    omega
   refine a1h u1 (E8 (by rw[a9];omega)) ?_
   have add:=I13.add (a:=vx) (s:=s) hz hPt u1 u2 u3 hst
   rw[show us.map V.ref++[V.ref vx]=(us++[vx]).map V.ref by simp]
   have nz:sl≠z:=fun q=>nsl (q ▸ mI hz)
   refine⟨_,_,rfl,add,by rw[a0j];exact lP,fun t ht=>?_,S13.put u1 nz,by rw[c9 nz];exact hsl13⟩
   rw[b3I hs]
   by_cases q:a3m N s=t
   ·subst q
    rw[F2 (by omega),if_pos rfl]
   ·rw[J3 q,if_neg q,a0l]
    exact hP t ht
 ·rintro _ H13 ⟨x3,P,rfl,I13,lP,hP,S13,hsl13⟩
  have f8:∀b o,H b=some o->b≠x->H7 b=some o:=fun b o e n=>f7 _ _ (s06 _ _ e) n
  refine k H13 ⟨dx,rp,np,ep,es,as,hF ▸ I13.same _ _ x0,⟨rows0.same I13.same,I13.same _ _ rp0⟩,I13.same _ _ np0,la,fun i y l a b=>I13.same _ _ (at0 i y l a b),I13.h,by rw[I13.len,lP],fun t y hy=>?_,fun z ⟨o,ho,hzx⟩=>⟨c4 (s05 _ _ ho) hrp,c4 (f8 _ _ ho hzx) hnp,c4 (old9 _ _ ho hzx) hep,fun q=>c4 (f8 _ _ ho hzx) (fr8 z q) rfl,fun q=>c4 (old _ _ ho hzx) (I13.new.2 z q) rfl⟩⟩ fun b o e n=>I13.same _ _ (old b o e n)
  have ht:t<N.length:=by
   have:=(gI hy)
   have:=I13.len
   omega
  have q:=I13.at_ t y _ hy (hP t ht)
  rw[a9,v2,a0S]at q
  exact q
open PySem.StrLaws PySem.Builtin.Str in
theorem a7X{x y:Str}{s0:Nat}(h0:y.cps.toList[0]? = some s0):∀(ls:List Str) (cuts:List Nat) (a f:Nat),ls≠[]->(∀l∈ls,s0∉l.cps.toList)->a<=x.length->x.cps.toList.drop a=(Str.join y ls).cps.toList->ChainG x y x.length a cuts f->(∀k,f<=k->¬At x y x.length k)->partsFrom x y.length a cuts=ls
 | [],_,_,_,h,_,_,_,_,_=>absurd rfl h
 | l::ls,cuts,a,f,_,hf,ha,hd,hc,hn=>by
  have hlx:x.cps.toList.length=x.length:=u5
  have hl0:=hf l y0
  have begins:∀k,At x y x.length k->x.cps.toList[k]? = some s0:=fun k hk=>by
   have h2:=hk.2
   rw[subAt_eq]at h2
   have h3:=eq_of_beq h2
   have h4:((x.cps.toList.drop k).take y.length)[0]? = some s0:=by rw[h3];exact h0
   rw[List.getElem?_take]at h4
   split at h4
   ·rw[b9d,Nat.add_zero]at h4;exact h4
   ·cases h4
  have inl:∀ {a1p:List Nat},x.cps.toList.drop a=l.cps.toList++a1p->∀k,a<=k->k<a+l.length->¬At x y x.length k:=fun {a1p} e k h1 h2 hk=>by
   have h3:=begins k hk
   have h4:(x.cps.toList.drop a)[k - a]? = some s0:=by rw[b9d,show a+(k - a)=k by omega];exact h3
   have hll:l.cps.toList.length=l.length:=u5
   rw[e,u9 (by omega)]at h4
   exact hl0 (mI h4)
  have sub_l:∀ {a1p:List Nat},x.cps.toList.drop a=l.cps.toList++a1p->strSub x a (a+l.length)=l:=fun {a1p} e=>by
   apply Str.ext'
   apply Array.toList_inj.mp
   rw[strSub_toList,e,show a+l.length - a=l.length by omega]
   exact List.take_left' u5
  cases ls with
  | nil=>
   have e:x.cps.toList.drop a=l.cps.toList++[]:=by rw[hd,a0l];rfl
   have hlen:a+l.length=x.length:=by
    have:=congrArg b6t e
    rw[a0T,hlx,a0l,show l.cps.toList.length=l.length from u5]at this
    omega
   cases cuts with
   | nil=>
    show [strSub x a x.length]=[l]
    rw[<-hlen,sub_l e]
   | cons c r=>
    have h1:=hc.1
    have h2:=hc.2.1
    exact absurd h2 (inl e c h1 (by
     have h3:=(i9.mp (begins c h2)).1
     omega))
  | cons l2 ls=>
   have hj:(Str.join y (l::l2::ls)).cps.toList=l.cps.toList++(y.cps.toList++(Str.join y (l2::ls)).cps.toList):=by
    show(l++y++Str.join y (l2::ls)).cps.toList=_
    rw[Str.cps_append,Str.cps_append,a1n,a1n,c1d]
   have e:=hd.trans hj
   have hyl:y.cps.toList.length=y.length:=u5
   have hll:l.cps.toList.length=l.length:=u5
   have hdl:x.cps.toList.drop (a+l.length)=y.cps.toList++(Str.join y (l2::ls)).cps.toList:=by
    rw[<-c3N,e,<-hll,c3M]
   have hdl2:x.cps.toList.drop (a+l.length+y.length)=(Str.join y (l2::ls)).cps.toList:=by
    rw[<-c3N,hdl,<-hyl,c3M]
   have hle:a+l.length+y.length<=x.length:=by
    have:=congrArg b6t hdl
    rw[a0T,hlx,j4,hyl]at this
    have hy1:0<y.length:=by rw[<-hyl];exact(gI h0)
    omega
   have hAt:At x y x.length (a+l.length):=by
    refine⟨hle,?_⟩
    rw[subAt_eq,hdl,<-hyl,c3L]
    exact beq_self_eq_true _
   cases cuts with
   | nil=>
    have ef:f=a:=hc
    exact absurd hAt (hn _ (by omega))
   | cons c r=>
    have hcc:c=a+l.length:=by
     by_cases h1:c<a+l.length
     ·exact absurd hc.2.1 (inl e c hc.1 h1)
     ·by_cases h2:a+l.length<c
      ·exact absurd hAt (hc.2.2.1 _ (by omega) h2)
      ·omega
    subst hcc
    show strSub x a (a+l.length)::partsFrom x y.length (a+l.length+y.length) r=_
    rw[sub_l e,a7X h0 (l2::ls) r (a+l.length+y.length) f (by simp) (fun z hz=>hf z (t8 _ hz)) hle hdl2 hc.2.2.2 hn]
open PySem.StrLaws PySem.Builtin.Str in
theorem a7I{y:Str}{s0:Nat}(h0:y.cps.toList[0]? = some s0)(hk:Builtin.Str.strKind y=1){ls:List Str}(hne:ls≠[])(hf:∀l∈ls,s0∉l.cps.toList):Txt.split (Txt.join y ls) y=ls:=by
 have hj:Txt.join y ls=Str.join y ls:=glued_eq_join y ls
 rw[hj]
 have hy1:1<=y.length:=by rw[<-show y.cps.toList.length=y.length from u5];exact(gI h0)
 obtain⟨f,hG,hn⟩:=occ_tight (Str.join y ls) y hy1
 have key:=a7X h0 ls _ 0 f hne hf (J8 _) (by rw[b0P]) hG hn
 have single:∀l,ls=[l]->[Str.join y ls]=ls:=fun l e=>by subst e;rfl
 have two:∀l l2 r,ls=l::l2::r->y.length<=(Str.join y ls).length:=fun l l2 r e=>by
  subst e
  show y.length<=(l++y++Str.join y (l2::r)).length
  rw[Str.length_append,Str.length_append]
  omega
 unfold Txt.split
 split
 ·rename_i hc
  have hkx:¬Builtin.Str.strKind (Str.join y ls)<Builtin.Str.strKind y:=by
   rw[hk]
   unfold Builtin.Str.strKind
   split
   ·omega
   ·split <;> omega
  match ls,hne with
  | [l],_=>rfl
  | l::l2::r,_=>
   rw[Bool.or_eq_true,decide_eq_true_eq,decide_eq_true_eq]at hc
   have:=two l l2 r rfl
   omega
 ·split
  ·rename_i he
   have e0:occurrences (Str.join y ls) y 0 (Str.join y ls).length ((Str.join y ls).length+1)=[]:=List.isEmpty_iff.mp he
   rw[e0]at key
   refine Eq.trans ?_ key
   show [_]=[strSub _ 0 _]
   rw[sub_whole]
  ·rw[partsBetween_eq]
   exact key
def wT:V->Str
 | .str s=>s
 | .int i=>toString i
 | _=>Str.empty
structure WdS(s:Str):Prop where
 len:s.length<=8
 no1:32∉s.cps.toList
 no2:59∉s.cps.toList
 fst:∃c,s.cps.toList[0]? = some c/\(c<48\/57<c)
def W0(w:V):Prop:=(∃s,w=.str s/\WdS s)\/∃n:Nat,w=.int (n:Int)/\n<1000000000000
def wdB(s:Str):Bool:=decide (s.length<=8)&&decide (32∉s.cps.toList)&&decide (59∉s.cps.toList)&&(match s.cps.toList[0]? with | some c=>decide (c<48)||decide (57<c) | none=>false)
theorem b6O{s:Str}(h:wdB s=true):WdS s:=by
 unfold wdB at h
 simp only[O8,decide_eq_true_eq]at h
 refine⟨h.1.1.1,h.1.1.2,h.1.2,?_⟩
 have h2:=h.2
 split at h2
 ·rename_i c e
  refine⟨c,e,?_⟩
  simpa using h2
 ·cases h2
theorem a7t{s:Str}(h:NmS s):WdS s:=by
 have h1:=h.1
 unfold a1B at h1
 simp only[O8,decide_eq_true_eq]at h1
 have hm:∀c∈s.cps.toList,c∈SGN.cps.toList:=fun c hc=>by
  have h2:=v7.mp h1.2 c hc
  exact of_decide_eq_true (by rw[<-X1 SGN c];exact h2)
 have n1:32∉SGN.cps.toList:=by decide +kernel
 have n2:59∉SGN.cps.toList:=by decide +kernel
 refine⟨h.2,fun z=>n1 (hm _ z),fun z=>n2 (hm _ z),?_⟩
 have h3:=h1.1.2
 split at h3
 ·rename_i c e
  refine⟨c,by rw[P5];exact e,?_⟩
  have h4:c∈LET.cps.toList:=of_decide_eq_true (by rw[<-X1 LET c];exact h3)
  have h5:∀c∈LET.cps.toList,c<48\/57<c:=by decide +kernel
  exact h5 c h4
 ·cases h3
theorem a3Y(h:OpN v):W0 v:=by
 rcases h with ⟨s,rfl,hs⟩ | ⟨n,rfl,h0,h1⟩
 ·exact .inl ⟨s,rfl,a7t hs⟩
 ·exact .inr ⟨n.toNat,by rw[b9e h0],by omega⟩
theorem a5i{c:Nat}(h:c∈(wT (.int (m:Int))).cps.toList):48<=c/\c<=57:=by
 have h:c∈(Str.ofString (toString ((m:Nat):Int))).cps.toList:=h
 rw[a2I]at h
 obtain⟨ch,hch,e⟩:=A0.mp h
 have r:=PyProof.Rows.digit_range (Nat.isDigit_of_mem_toDigits (by decide) (by decide) hch)
 rw[<-e]
 exact r
theorem b4A(h:m<1000000000000):1<=(wT (.int (m:Int))).length/\(wT (.int (m:Int))).length<=13:=by
 constructor
 ·have e:(wT (.int (m:Int))).cps.toList.length=(wT (.int (m:Int))).length:=u5
  rw[<-e]
  show 1<=(Str.ofString (toString ((m:Nat):Int))).cps.toList.length
  rw[a2I,a9]
  exact PySem.toDigits_len_ge 10 m
 ·exact PyData.shown_int_le (i:=(m:Int)) (by omega)
theorem b8l(h:m<1000000000000):c3B (wT (.int (m:Int)))=some (m:Int):=by
 have hl:=b4A h
 have hd:PySem.NumText.AllDigits (Str.ofString (toString ((m:Nat):Int))).cps.toList:=fun c hc=>a5i hc
 have hne:(Str.ofString (toString ((m:Nat):Int))).cps.toList≠[]:=fun z=>by
  have e:(wT (.int (m:Int))).cps.toList.length=(wT (.int (m:Int))).length:=u5
  have z':(wT (.int (m:Int))).cps.toList=[]:=z
  rw[z']at e
  have:=hl.1
  simp at e
  omega
 have e:=PySem.intText_digits hd hne (v9 hl.2 (by decide))
 rw[a2I,PySem.W.KIN.val_back]at e
 exact e
theorem a6S(h:W0 w):32∉(wT w).cps.toList/\59∉(wT w).cps.toList/\(wT w).length<=13/\1<=(wT w).length:=by
 rcases h with ⟨s,rfl,hs⟩ | ⟨n,rfl,hn⟩
 ·obtain⟨c,e,_⟩:=hs.fst
  have hl:s.cps.toList.length=s.length:=u5
  have:=(gI e)
  have:=hs.len
  exact⟨hs.no1,hs.no2,by show s.length<=13;omega,by show 1<=s.length;omega⟩
 ·have hl:=b4A hn
  exact⟨fun z=>by have:=a5i z;omega,fun z=>by have:=a5i z;omega,hl.2,hl.1⟩
theorem W0.flat{w:V}(h:W0 w):E5 w=true:=by
 rcases h with ⟨s,rfl,_⟩ | ⟨n,rfl,_⟩ <;> rfl
abbrev FIG:Str := "0123456789"
theorem c1v:(toString (1000000000000:Int):Str).length=13:=by decide +kernel
theorem c1o{K:Fg}{to:TE}{tr:TA}(h:to σ H fun x H1=>tyV K "str" x H1/\tr σ H1 fun xs H2=>f x xs H2 Q):tBM K "str" f to tr σ H Q:=h
theorem b1f{K:Fg}{E:XK}(h:W0 w)(k:∀H',o6 H H'->Q w H'):a0J K [.str (wT w)] H Q E:=by
 obtain⟨_,_,l13,l1⟩:=a6S h
 have hz:=small (show(wT w).length<=100000 by omega)
 have hl:(wT w).cps.toList.length=(wT w).length:=u5
 refine⟨rfl,?_⟩
 unfold a7y
 nofun
 exists b3b hz ?_
 exists F9 (c6G (by omega)) ?_
 refine .inr (.inl ⟨_,rfl,by decide,?_⟩)
 ext
 exists b3b (by rw[c1v];exact small (by decide)) ?_
 rw[c1v]
 exists F9 (c6G (by omega)) ?_
 specialize O5 (b7s ?_)
 refine⟨wT w,rfl,fun D hD=>?_⟩
 refine b2h (fun i ys H2=>ys=((wT w).cps.toList.take i).map (fun c=>V.bl (sgn FIG c))/\H2=upd H D (.lst ys)) ⟨by simp,rfl⟩ ?_ ?_ ?_
 ·rintro i ys _ ⟨_,rfl⟩
  exact c5
 ·rintro i c ys _ hc ⟨rfl,rfl⟩ R R' hR hR'
  have hc':(wT w).cps.toList[i]? = some c:=by rw[P5];exact hc
  ext
  exists a6N ?_
  refine b7H (S:=FIG) ?_
  refine hR (.bl (sgn FIG c)) _ c5 (E8 ?_) ⟨?_,?_⟩
  ·rw[a9,C8];omega
  ·rw[D5,hc'];simp
  ·rw[a3y]
 ·rintro ys _ ⟨rfl,rfl⟩
  ext
  have eb:M7 (((wT w).cps.toList.take (wT w).length).map (fun c=>V.bl (sgn FIG c)))=some (((wT w).cps.toList.take (wT w).length).map (sgn FIG)):=by
   generalize (wT w).cps.toList.take (wT w).length=l
   induction l with
   | nil=>rfl
   | cons a r ih=>simp[M7,ih]
  refine(show a6K [.ref D] _ _ from ?_)
  unfold a6K
  simp only[c5]
  refine⟨_,eb,?_⟩
  rw[z9 (by omega)]
  refine⟨_,rfl,?_⟩
  have fg:∀c,sgn FIG c=decide (c∈FIG.cps.toList):=fun c=>X1 FIG c
  have fr:∀c∈FIG.cps.toList,48<=c/\c<=57:=by decide +kernel
  have fl:∀c,c<58->48<=c->c∈FIG.cps.toList:=by decide +kernel
  have s1:=o5 (o:=.lst ((wT w).cps.toList.map (fun c=>V.bl (sgn FIG c)))) hD
  rcases id h with ⟨s,rfl,hs⟩ | ⟨n,rfl,hn⟩
  ·obtain⟨c,e,hc⟩:=hs.fst
   have e':(wT (.str s)).cps.toList[0]? = some c:=e
   have ef:(((wT (.str s)).cps.toList.map (sgn FIG)).all id)=false:=by
    rw[c1e]
    intro z
    rw[b4T,v7]at z
    have z1:sgn FIG c=true:=z c (mI e')
    rw[fg]at z1
    have:=fr c (of_decide_eq_true z1)
    omega
   exists A8 ef ?_
   exact k _ s1
  ·have et:(((wT (.int (n:Int))).cps.toList.map (sgn FIG)).all id)=true:=by
    rw[b4T,v7]
    intro c hc
    have:=a5i hc
    show sgn FIG c=true
    rw[fg]
    exact c6G (fl c (by omega) this.1)
   exists F9 et ?_
   exact⟨_,_,rfl,b8l hn,by omega,k _ s1⟩
inductive RWs(H:Hp):List V->List V->Prop
 | set (n:Str) (p:Addr) (kd:Str) (v1 v2:V):NmS n->H p=some (.tup [.str kd,v1,v2])->OpN v1->OpN v2->kd∈a3r->RWs H [.str "set",.str n,.ref p] [.str "set",.str n,.str kd,v1,v2]
 | copy (n:Str) (v:V):NmS n->OpN v->RWs H [.str "copy",.str n,v] [.str "copy",.str n,v]
 | take (n:Str):NmS n->RWs H [.str "take",.str n] [.str "take",.str n]
 | tell (v:V):OpN v->RWs H [.str "tell",v] [.str "tell",v]
 | ask (v:V):OpN v->RWs H [.str "ask",v] [.str "ask",v]
 | skip:RWs H [.str "skip"] [.str "skip"]
theorem RWs.ts(h:RWs H xs ws)(t:Q9 H H'):RWs H' xs ws:=by
 cases h with
 | set n p kd v1 v2 a b c d e=>exact .set n p kd v1 v2 a (t _ _ b) c d e
 | copy n v a b=>exact .copy n v a b
 | take n a=>exact .take n a
 | tell v a=>exact .tell v a
 | ask v a=>exact .ask v a
 | skip=>exact .skip
theorem c1T(h:a6Q H xs):∃ws,RWs H xs ws:=by
 cases h with
 | set n p a d=>
  obtain⟨k,v1,v2,h,o1,o2,hk⟩:=d
  exact⟨_,.set n p k v1 v2 a h o1 o2 hk⟩
 | copy n v a b=>exact⟨_,.copy n v a b⟩
 | take n a=>exact⟨_,.take n a⟩
 | tell v a=>exact⟨_,.tell v a⟩
 | ask v a=>exact⟨_,.ask v a⟩
 | skip=>exact⟨_,.skip⟩
theorem b9l{k:Str}(h:k∈a3r):WdS k:=by
 have:∀s∈a3r,wdB s=true:=by decide +kernel
 exact b6O (this k h)
theorem RWs.words(h:RWs H xs ws):(∀w∈ws,W0 w)/\ws.length<=5/\ws≠[]/\∀w∈ws,w≠.str ">" := by
 have no:∀ {v:V},OpN v->v≠.str ">" := fun {v} h z=>by
  subst z
  rcases h with ⟨s,e,hs⟩ | ⟨n,e,_⟩
  ·cases e
   have:=hs.1
   exact absurd this (by decide +kernel)
  ·cases e
 have nn:∀ {n:Str},NmS n->V.str n≠.str ">" := fun {n} h z=>by
  cases z
  exact absurd h.1 (by decide +kernel)
 have nk:∀ {n:Str},n∈a3r->V.str n≠.str ">" := fun {n} h z=>by
  cases z
  exact absurd h (by decide +kernel)
 have wk:∀ {s:Str},wdB s=true->W0 (.str s):=fun h=>.inl ⟨_,rfl,b6O h⟩
 cases h with
 | set n p kd v1 v2 a b c d e=>
  refine⟨fun w hw=>?_,by simp,by simp,fun w hw=>?_⟩
  ·simp only[c7,g7,or_false]at hw
   rcases hw with rfl | rfl | rfl | rfl | rfl
   ·exact wk (by decide +kernel)
   ·exact .inl ⟨_,rfl,a7t a⟩
   ·exact .inl ⟨_,rfl,b9l e⟩
   ·exact a3Y c
   ·exact a3Y d
  ·simp only[c7,g7,or_false]at hw
   rcases hw with rfl | rfl | rfl | rfl | rfl
   ·decide +kernel
   ·exact nn a
   ·exact nk e
   ·exact no c
   ·exact no d
 | copy n v a b=>
  refine⟨fun w hw=>?_,by simp,by simp,fun w hw=>?_⟩
  ·simp only[c7,g7,or_false]at hw
   rcases hw with rfl | rfl | rfl
   ·exact wk (by decide +kernel)
   ·exact .inl ⟨_,rfl,a7t a⟩
   ·exact a3Y b
  ·simp only[c7,g7,or_false]at hw
   rcases hw with rfl | rfl | rfl
   ·decide +kernel
   ·exact nn a
   ·exact no b
 | take n a=>
  refine⟨fun w hw=>?_,by simp,by simp,fun w hw=>?_⟩
  ·simp only[c7,g7,or_false]at hw
   rcases hw with rfl | rfl
   ·exact wk (by decide +kernel)
   ·exact .inl ⟨_,rfl,a7t a⟩
  ·simp only[c7,g7,or_false]at hw
   rcases hw with rfl | rfl
   ·decide +kernel
   ·exact nn a
 | tell v b=>
  refine⟨fun w hw=>?_,by simp,by simp,fun w hw=>?_⟩
  ·simp only[c7,g7,or_false]at hw
   rcases hw with rfl | rfl
   ·exact wk (by decide +kernel)
   ·exact a3Y b
  ·simp only[c7,g7,or_false]at hw
   rcases hw with rfl | rfl
   ·decide +kernel
   ·exact no b
 | ask v b=>
  refine⟨fun w hw=>?_,by simp,by simp,fun w hw=>?_⟩
  ·simp only[c7,g7,or_false]at hw
   rcases hw with rfl | rfl
   ·exact wk (by decide +kernel)
   ·exact a3Y b
  ·simp only[c7,g7,or_false]at hw
   rcases hw with rfl | rfl
   ·decide +kernel
   ·exact no b
 | skip=>
  refine⟨fun w hw=>?_,by simp,by simp,fun w hw=>?_⟩
  ·simp only[c7,g7,or_false]at hw
   subst hw
   exact wk (by decide +kernel)
  ·simp only[c7,g7,or_false]at hw
   subst hw
   decide +kernel
def Pt(H:Hp)(x:V)(us:List V):Prop:=(∃q,x=.ref q/\H q=some (.tup us))\/(E5 x=true/\us=[x])
theorem a9l:∀ys:List V,(ys.map fun x=>[x]).flatten=ys
 | []=>rfl
 | y::r=>by rw[C4,List.flatten_cons,a9l r];rfl
theorem b5t(h:RWs H xs ws):∃uss:List (List V),uss.length=xs.length/\uss.flatten=ws/\∀(i:Nat) x us,xs[i]? = some x->uss[i]? = some us->Pt H x us:=by
 have flat:∀ys:List V,ys.all E5=true->∃uss:List (List V),uss.length=ys.length/\uss.flatten=ys/\∀(i:Nat) x us,ys[i]? = some x->uss[i]? = some us->Pt H x us:=fun ys hy=>by
  refine⟨ys.map fun x=>[x],by simp,a9l ys,fun i x us h1 h2=>.inr ⟨v7.mp hy x (mI h1),?_⟩⟩
  rw[b7,h1]at h2
  cases h2
  rfl
 cases h with
 | set n p kd v1 v2 a b c d e=>
  refine⟨[[.str "set"],[.str n],[.str kd,v1,v2]],rfl,rfl,fun i x us h1 h2=>?_⟩
  match i with
  | 0=>cases h1;cases h2;exact .inr ⟨rfl,rfl⟩
  | 1=>cases h1;cases h2;exact .inr ⟨rfl,rfl⟩
  | 2=>cases h1;cases h2;exact .inl ⟨p,rfl,b⟩
  | i+3=>simp at h1
 | copy n v a b=>exact flat _ (by show(true&&(true&&(E5 v&&true)))=true;rw[b.flat];rfl)
 | take n a=>exact flat _ rfl
 | tell v b=>exact flat _ (by show(true&&(E5 v&&true))=true;rw[b.flat];rfl)
 | ask v b=>exact flat _ (by show(true&&(E5 v&&true))=true;rw[b.flat];rfl)
 | skip=>exact flat _ rfl
theorem c0N(h:E5 v=true):∃s,Y4 v H=some s/\a4B s "tuple" = false:=by
 cases v with
 | non=>exact⟨_,rfl,by decide⟩
 | bl b=>exact⟨_,rfl,by decide⟩
 | int i=>exact⟨_,rfl,by decide⟩
 | str s=>exact⟨_,rfl,by decide⟩
 | _=>cases h
theorem a6Y{K:Fg}(h:ta σ H fun x H2=>∃a,x=.ref a/\(∃xs,SqT K H2 a xs)/\R (Itt K a) H2):b3C K ta σ H R:=h
section
variable {K:Fg}{E:XK}
theorem b1e(hp:H p=some (.tup xs))(h:RWs H xs ws)(k:∀D H',H D=none->H' D=some (.lst ws)->o6 H H'->Q (.ref D) H'):a1s K [.ref p] H Q E:=by
 obtain⟨uss,l1,l2,l3⟩:=b5t h
 have hw5:=h.words.2.1
 refine⟨rfl,?_⟩
 unfold a7x
 nofun
 exists C3 (by simp) fun D G hD eD s0=>?_
 exact_mod_cast a0r ?_
 specialize a0s (a6Y ?_)
 refine⟨p,rfl,⟨_,SqT.of (s0 _ _ hp)⟩,b0o (xs:=xs) (fun i σ H2=>∃x2,σ=[some (.ref p),some (.ref D),x2]/\H2 D=some (.lst (uss.take i).flatten)/\∀b o,H b=some o->H2 b=some o) ⟨_,rfl,by simpa using eD,s0⟩ ?_ ?_ ?_⟩
 ·rintro i σ H2 _ ⟨_,_,_,s2⟩
  exact SqT.of (s2 _ _ hp)
 ·rintro i x _ H2 hx ⟨x2,rfl,d2,s2⟩
  have hi:=(gI hx)
  obtain⟨us,hus⟩:∃us,uss[i]? = some us:=⟨_,c6 (by omega)⟩
  have hlen:(uss.take i).flatten.length+us.length<=5:=by
   have e:(uss.take (i+1)).flatten=(uss.take i).flatten++us:=by rw[D5,hus];simp
   have e2:(uss.take (i+1)).flatten.length<=uss.flatten.length:=by
    conv=>rhs;rw[<-b6o (i+1) uss]
    rw[List.flatten_append,j4]
    omega
   rw[e,j4,l2]at e2
   omega
  have step:∀H3:Hp,H3 D=some (.lst ((uss.take i).flatten++us))->(∀b o,H b=some o->H3 b=some o)->∃x2,[some (V.ref p),some (V.ref D),some x]=[some (V.ref p),some (V.ref D),x2]/\H3 D=some (.lst (uss.take (i+1)).flatten)/\∀b o,H b=some o->H3 b=some o:=fun H3 a b=>⟨_,rfl,by rw[a,D5,hus];simp,b⟩
  ext
  specialize a5Q ?_
  exists ⟨.inl ⟨rfl,_,SqL.of d2⟩,?_⟩
  rcases l3 i x us hx hus with ⟨q,rfl,hq⟩ | ⟨hf,rfl⟩
  ·exists a1z (s := "tuple") (by simp only[Y4,s2 _ _ hq]) (by decide) ?_
   exists F9 (by decide) ?_
   refine .inr ⟨D,q,_,us,rfl,rfl,d2,s2 _ _ hq,by omega,?_⟩
   exact step _ c5 fun b o e=>by rw[c9 (c4 e hD)];exact s2 b o e
  ·obtain⟨ty,e1,e2⟩:=c0N (H:=H2) hf
   exists a1z e1 (by decide) ?_
   exists A8 e2 ?_
   exists C3 (by simp) fun q G2 hq eq sq=>?_
   refine .inl (a5f (sq _ _ d2) eq (small (by simp at hlen ⊢;omega)) ?_)
   exact step _ c5 fun b o e=>by rw[c9 (c4 e hD)];exact sq _ _ (s2 b o e)
 ·rintro _ H2 ⟨x2,rfl,d2,s2⟩
  ext
  rw[z9 (by omega),l2]at d2
  exact k D H2 hD d2 s2
end
def L0(ws:List V)(l:List Nat):List V:=ws++(if l=[] then [] else .str ">" :: IL l)
def a2M(ws:List V)(l:List Nat):Str:=Txt.join " " ((L0 ws l).map wT)
theorem a7j(h:∀t∈l,t<400):∀w∈IL l,W0 w:=fun w hw=>by
 obtain⟨t,ht,rfl⟩:=A0.mp hw
 exact .inr ⟨t,rfl,by have:=h t ht;omega⟩
theorem c0J:W0 (.str ">"):=.inl ⟨_,rfl,b6O (by decide +kernel)⟩
theorem a1k(h:RWs H xs ws)(h2:l.length<=2)(hl:∀t∈l,t<400):(∀w∈L0 ws l,W0 w)/\(L0 ws l).length<=8/\L0 ws l≠[]:=by
 obtain⟨a,b,c,_⟩:=h.words
 unfold L0
 refine⟨fun w hw=>?_,?_,fun z=>c (List.append_eq_nil_iff.mp z).1⟩
 ·rcases l7.mp hw with q | q
  ·exact a w q
  ·split at q
   ·cases q
   ·rcases c7.mp q with rfl | q
    ·exact c0J
    ·exact a7j hl w q
 ·rw[j4]
  split
  ·simp;omega
  ·rw[q9,M3];omega
theorem b4p:∀ {ws:List V},(∀w∈ws,W0 w)->((ws.map wT).map (·.length)).sum<=13 * ws.length
 | [],_=>by simp
 | w::ws,h=>by
  have h1:=(a6S (h w y0)).2.2.1
  have h2:=b4p (ws:=ws) fun v hv=>h v (t8 _ hv)
  simp only[C4,b2w,q9]
  omega
theorem b1Y{y:Str}{P:Nat->Prop}(hy:∀c∈y.cps.toList,P c):∀(ls:List Str),(∀l∈ls,∀c∈l.cps.toList,P c)->∀c∈(Txt.join y ls).cps.toList,P c:=fun ls h=>by
 rw[show Txt.join y ls=Str.join y ls from a0N y ls]
 induction ls with
 | nil=>
  intro c hc
  have hc:c∈(Str.empty).cps.toList:=hc
  simp[Str.empty]at hc
 | cons l r ih=>
  cases r with
  | nil=>exact h l y0
  | cons l2 r=>
   intro c hc
   have hj:(Str.join y (l::l2::r)).cps.toList=l.cps.toList++(y.cps.toList++(Str.join y (l2::r)).cps.toList):=by
    show(l++y++Str.join y (l2::r)).cps.toList=_
    rw[Str.cps_append,Str.cps_append,a1n,a1n,c1d]
   rw[hj]at hc
   rcases l7.mp hc with q | q
   ·exact h l y0 c q
   ·rcases l7.mp q with q | q
    ·exact hy c q
    ·exact ih (fun l' hl=>h l' (t8 _ hl)) c q
theorem b4q:a1d (ws.map fun w=>V.str (wT w))=some (ws.map wT):=by
 rw[show(ws.map fun w=>V.str (wT w))=(ws.map wT).map V.str by rw[R5];rfl]
 exact a4k _
theorem a4q(h:W0 w)(k:Q (.str (wT w)) H):a1Y [w] H Q:=by
 rcases h with ⟨s,rfl,_⟩ | ⟨n,rfl,hn⟩
 ·exact .inl ⟨s,rfl,k⟩
 ·exact .inr (.inl ⟨_,rfl,by omega,k⟩)
section
variable {K:Fg}{E:XK}
theorem b8t(hi:σ[i]? = some (some (.ref D)))(hd:H D=some (.lst ws))(hw:∀w∈ws,W0 w)(h8:ws.length<=8)(k:∀H',o6 H H'->Q (.str (Txt.join " " (ws.map wT))) H') :
  tBM K "str" a1Z (tC (.str " ")) (a8 (M4 (T8 K (b6 i)) (L7) (tCB a1Y (a8 (b6 0) (c8)))) (c8)) σ H Q:=by
 ext
 exact_mod_cast O5 (U6 ?_)
 exact_mod_cast b7m hi ?_
 refine⟨D,rfl,⟨_,SqL.of hd⟩,fun D2 hD2=>?_⟩
 refine U0 (xs:=ws) (fun i ys H2=>ys=(ws.take i).map (fun w=>V.str (wT w))/\H2=upd H D2 (.lst ys)) ⟨by simp,rfl⟩ ?_ ?_ ?_ ?_
 ·rintro i ys _ ⟨_,rfl⟩
  exact c5
 ·rintro i ys _ _ ⟨_,rfl⟩
  refine SqL.of ?_
  rw[c9 (c4 hd hD2)];exact hd
 ·rintro i w ys _ hx ⟨rfl,rfl⟩ R hR
  ext
  refine a4q (hw w (mI hx)) ?_
  refine hR _ _ c5 (E8 ?_) ⟨?_,?_⟩
  ·rw[a9,C8];omega
  ·rw[D5,hx];simp
  ·rw[a3y]
 ·rintro ys _ ⟨rfl,rfl⟩
  ext
  rw[z9 (d5 _)]
  refine a9U c5 b4q ?_ (k _ (o5 hD2))
  have:=b4p hw
  have e1:((" " : Str)).length=1:=by decide +kernel
  rw[e1,a9]
  omega
theorem a7M(hp:H p=some (.tup xs))(h:RWs H xs ws)(hx:H x=some (.lst (IL l)))(h2:l.length<=2)(hl:∀t∈l,t<400)(k:∀H',o6 H H'->Q (.str (a2M ws l)) H'):Z9 K [.ref p,.ref x] H Q E:=by
 obtain⟨w1,w2,_⟩:=a1k h h2 hl
 have hw5:=h.words.2.1
 refine⟨rfl,?_⟩
 unfold a4a
 nofun
 exists b1e hp h fun D H1 hD e1 s1=>?_
 exact_mod_cast X5 (P:=fun σ H2=>σ=[some (.ref p),some (.ref x),some (.ref D)]/\H2 D=some (.lst (L0 ws l))/\o6 H H2) ?_ ?_
 ·rintro _ H2 ⟨rfl,d2,s2⟩
  exact_mod_cast b1x ?_
  exact b8t rfl d2 w1 w2 fun H' s'=>k H' (s2.trans s')
 ·intro nx hnx
  ext
  exists G6 (s1 _ _ hx) ?_
  rw[M3]
  by_cases hz:l=[]
  ·subst hz
   exists A8 (c6F (by simp)) ?_
   exact hnx _ _ ⟨rfl,by rw[e1];simp[L0],s1⟩
  ·have hpos:0<l.length:=a5B.mpr hz
   refine F9 (c6G (by omega)) ?_
   nofun
   specialize a5Q ?_
   exists ⟨.inl ⟨rfl,_,SqL.of e1⟩,?_⟩
   exists a1h e1 (E8 (by omega)) ?_
   specialize a5Q ?_
   exists ⟨.inl ⟨rfl,_,SqL.of c5⟩,?_⟩
   have nx':x≠D:=c4 hx hD
   refine .inl (a5f c5 (by rw[c9 nx'];exact s1 _ _ hx) (small (by simp[M3];omega)) ?_)
   refine hnx _ _ ⟨rfl,?_,fun b o e=>?_⟩
   ·rw[c5]
    unfold L0
    rw[if_neg hz]
    simp
   ·rw[c9 (c4 e hD),c9 (c4 e hD)];exact s1 b o e
end
theorem b4z(h:OpN v):∃d,RdP H v d/\d.showable=true/\d.hasDict=false/\d.leavesShort 13=true/\d.weight<=40/\d.depth=0:=by
 rcases h with ⟨s,rfl,hs⟩ | ⟨i,rfl,h0,h1⟩
 ·refine⟨_,.str s,rfl,rfl,?_,v9 hs.2 (by decide),rfl⟩
  have h1:=hs.1
  unfold a1B at h1
  simp only[O8]at h1
  simp only[PyData.leavesShort,v7,decide_eq_true_eq]
  intro c hc
  have h2:=v7.mp h1.2 c hc
  have h3:decide (c∈SGN.cps.toList)=true:=by rw[<-X1 SGN c];exact h2
  have h4:∀c∈SGN.cps.toList,c<16 ^ 8:=by decide +kernel
  exact h4 c (of_decide_eq_true h3)
 ·have hl:i.natAbs.log2<40:=by
   by_cases z:i.natAbs=0
   ·rw[z];decide +kernel
   ·exact(b8V z).mpr (by omega)
  refine⟨_,.int i,?_,rfl,?_,?_,rfl⟩
  ·simp only[PyData.showable,decide_eq_true_eq];omega
  ·simp only[PyData.leavesShort,decide_eq_true_eq]
   exact PyData.shown_int_le (by omega)
  ·simp only[PyData.weight]
   split <;> omega
theorem b8H{kd:Str}{v1 v2:V}(hp:H p=some (.tup [.str kd,v1,v2]))(o1:OpN v1)(o2:OpN v2)(hk:kd∈a3r)(k:∀y:Str,Q (.str y) H):a1Y [.ref p] H Q:=by
 obtain⟨d1,r1,a1,b1,c1,e1,f1⟩:=b4z (H:=H) o1
 obtain⟨d2,r2,a2,b2,c2,e2,f2⟩:=b4z (H:=H) o2
 have hkd:∀s∈a3r,PyData.leavesShort 13 (.str s)=true/\s.cps.size<=5:=by decide +kernel
 obtain⟨k1,k2⟩:=hkd kd hk
 refine .inr (.inr ⟨p,_,[.str kd,d1,d2],rfl,hp,.cons (.str kd) (.cons r1 (.cons r2 .nil)),?_,?_,?_,?_,k⟩)
 ·simp only[PyData.showableAll,a1,a2];rfl
 ·simp only[PyData.hasDictAll,b1,b2];rfl
 ·refine PyData.shown_fits (B:=13) (by decide) (by decide) ?_ ?_
  ·simp only[PyData.leavesShort,PyData.leavesShortAll,c1,c2]at k1 ⊢
   rw[k1];rfl
  ·simp only[PyData.weight,PyData.weightAll]
   omega
 ·simp only[PyData.depth,PyData.depthAll,f1,f2]
  decide
section
variable {K:Fg}{c:Cn}{E:XK}
theorem b7x(h:RWs H xs ws):∃k r,xs=.str k::r/\(∀v∈r,E5 v=true/\W0 v\/∃q kd v1 v2,v=.ref q/\H q=some (.tup [.str kd,v1,v2])/\OpN v1/\OpN v2/\kd∈a3r)/\(k ≠ "set" -> ws=xs/\∀v∈r,W0 v)/\r.length<=2:=by
 cases h with
 | set n p kd v1 v2 a b c d e=>
  refine⟨_,_,rfl,fun v hv=>?_,fun z=>absurd rfl z,by simp⟩
  simp only[c7,g7,or_false]at hv
  rcases hv with rfl | rfl
  ·exact .inl ⟨rfl,.inl ⟨_,rfl,a7t a⟩⟩
  ·exact .inr ⟨p,kd,v1,v2,rfl,b,c,d,e⟩
 | copy n v a b=>
  have hw:∀w∈[V.str n,v],W0 w:=fun w hw=>by
   simp only[c7,g7,or_false]at hw
   rcases hw with rfl | rfl
   ·exact .inl ⟨_,rfl,a7t a⟩
   ·exact a3Y b
  exact⟨_,_,rfl,fun w h=>.inl ⟨(hw w h).flat,hw w h⟩,fun _=>⟨rfl,hw⟩,by simp⟩
 | take n a=>
  have hw:∀w∈[V.str n],W0 w:=fun w hw=>by
   rw[j3.mp hw];exact .inl ⟨_,rfl,a7t a⟩
  exact⟨_,_,rfl,fun w h=>.inl ⟨(hw w h).flat,hw w h⟩,fun _=>⟨rfl,hw⟩,by simp⟩
 | tell v b=>
  have hw:∀w∈[v],W0 w:=fun w hw=>by rw[j3.mp hw];exact a3Y b
  exact⟨_,_,rfl,fun w h=>.inl ⟨(hw w h).flat,hw w h⟩,fun _=>⟨rfl,hw⟩,by simp⟩
 | ask v b=>
  have hw:∀w∈[v],W0 w:=fun w hw=>by rw[j3.mp hw];exact a3Y b
  exact⟨_,_,rfl,fun w h=>.inl ⟨(hw w h).flat,hw w h⟩,fun _=>⟨rfl,hw⟩,by simp⟩
 | skip=>exact⟨"skip",[],rfl,fun w h=>absurd h (by simp),fun _=>⟨rfl,fun w h=>absurd h (by simp)⟩,by simp⟩
abbrev TW(ws:List V):List V:=ws.map fun w=>V.str (wT w)
theorem c0B(hp:H p=some (.tup xs))(h:RWs H xs ws)(hx:H x=some (.lst (IL l)))(h2:l.length<=2)(hl:∀t∈l,t<400)(k:∀H',o6 H H'->Q (.str (a2M ws l)) H'):a6W K [.ref p,.ref x] H Q E:=by
 obtain⟨w1,w2,_⟩:=a1k h h2 hl
 obtain⟨kd,r,rfl,hr,hset,lr⟩:=b7x h
 have hw5:=h.words.2.1
 refine⟨rfl,?_⟩
 unfold b6Z
 exact_mod_cast X5 (P:=fun σ H1=>∃D ys,σ=[some (.ref p),some (.ref x),some (.ref D)]/\H1 D=some (.lst (.str kd::ys))/\(kd ≠ "set" -> ys=TW r)/\o6 H H1) ?_ ?_
 rotate_left
 ·intro nx hnx
  ext
  exists V8 hp (a2H _ _) ?_
  exists C3 (by simp) fun a0 G0 h0 e0 s0=>?_
  specialize O5 (a6Y ?_)
  refine c1r (s0 _ _ hp) (b1M _ _) fun q G1 hq e1 s1=>?_
  rw[c3p]at e1
  refine⟨q,rfl,⟨_,SqT.of e1⟩,fun D hD=>?_⟩
  refine c3q r.length (fun i ys H2=>(∃ss:List Str,ys=ss.map V.str/\ss.length=i/\∀(j:Nat) w,j<i->r[j]? = some w->W0 w->ss[j]? = some (wT w))/\H2=upd G1 D (.lst ys)) ⟨⟨[],rfl,rfl,fun j w h=>absurd h (by omega)⟩,rfl⟩ ?_ ?_ ?_ ?_
  ·rintro i ys _ ⟨_,rfl⟩
   exact c5
  ·rintro ys _ ⟨⟨ss,rfl,ls,hs⟩,rfl⟩
   refine⟨⟨_,SqT.of (by rw[c9 (c4 e1 hD)];exact e1),d5 _⟩,?_⟩
   have s2:o6 G1 (upd G1 D (.lst (ss.map V.str))):=o5 hD
   exists a5R (s2 _ _ (s1 _ _ e0)) c5 (C3 (by simp;omega) fun D2 G3 hD2 e3 s3=>?_)
   refine hnx _ _ ⟨D2,ss.map V.str,rfl,by rw[e3];rfl,fun hk=>?_,((s0.trans s1).trans s2).trans s3⟩
   apply List.ext_getElem?
   intro j
   by_cases hj:j<r.length
   ·obtain⟨w,hw⟩:∃w,r[j]? = some w:=⟨_,c6 hj⟩
    rw[b7,b7,hs j w hj hw ((hset hk).2 w (mI hw)),hw]
    rfl
   ·rw[b2v.mpr (by simp;omega),b2v.mpr (by simp;omega)]
  ·rintro i ys _ hi ⟨_,rfl⟩
   exact⟨_,_,SqT.of (by rw[c9 (c4 e1 hD)];exact e1),c6 hi⟩
  ·rintro i ys _ hi ⟨⟨ss,rfl,ls,hs⟩,rfl⟩ v H3 ⟨rfl,hv⟩ R S hR hS
   have hv:=hv _ (SqT.of (by rw[c9 (c4 e1 hD)];exact e1))
   ext
   exists a6N ?_
   have fin:∀y:Str,(W0 v->y=wT v)->R (.str y) (upd G1 D (.lst (ss.map V.str))):=fun y hy=>by
    refine hR _ _ c5 (E8 (by rw[a9];omega)) ⟨⟨ss++[y],by simp,by simp;omega,fun j w hj hw hW=>?_⟩,by rw[a3y]⟩
    by_cases hji:j<i
    ·rw[u9 (by omega)]
     exact hs j w hji hw hW
    ·have:j=i:=by omega
     subst this
     rw[hv]at hw
     cases hw
     rw[A5 (by omega),ls]
     simp[hy hW]
   rcases hr v (mI hv)with ⟨_,hw⟩ | ⟨q2,kd2,v1,v2,rfl,hq2,o1,o2,hk2⟩
   ·exact a4q hw (fin _ fun _=>rfl)
   ·refine b8H (show upd G1 D (.lst (ss.map V.str)) q2=_ from ?_) o1 o2 hk2 fun y=>fin y fun z=>?_
    ·have e:=s1 _ _ (s0 _ _ hq2)
     rw[c9 (c4 e hD)];exact e
    ·rcases z with ⟨_,z,_⟩ | ⟨_,z,_⟩ <;> cases z
 rintro _ H1 ⟨D,ys,rfl,d1,hys,s1⟩
 exact_mod_cast X5 (P:=fun σ H2=>∃D,σ=[some (.ref p),some (.ref x),some (.ref D)]/\H2 D=some (.lst (TW ws))/\o6 H H2) ?_ ?_
 rotate_left
 ·intro nx hnx
  ext
  exists V8 (s1 _ _ hp) (a2H _ _) ?_
  by_cases hk:kd = "set"
  ·subst hk
   refine F9 (by decide +kernel) ?_
   have h':=h
   cases h' with
   | set n pd kd2 v1 v2 hn hpd o1 o2 hk2=>
   ext
   exists V8 (s1 _ _ hp) (a6j _ _ _) ?_
   exists V8 (s1 _ _ hp) (b3W _ _ _ _) ?_
   exists V8 (s1 _ _ hpd) (a2H _ _) ?_
   exists V8 (s1 _ _ hp) (b3W _ _ _ _) ?_
   exists V8 (s1 _ _ hpd) (a6j _ _ _) ?_
   exists a4q (a3Y o1) ?_
   exists V8 (s1 _ _ hp) (b3W _ _ _ _) ?_
   exists V8 (s1 _ _ hpd) (b3W _ _ _ _) ?_
   exists a4q (a3Y o2) ?_
   exists C3 (by simp) fun D2 G2 _ e2 s2=>?_
   exact hnx _ _ ⟨D2,rfl,e2,s1.trans s2⟩
  ·exists A8 (c6F fun z=>hk (V.str.inj z)) ?_
   refine hnx _ _ ⟨D,rfl,?_,s1⟩
   rw[d1,hys hk,(hset hk).1]
   rfl
 rintro _ H2 ⟨D,rfl,d2,s2⟩
 have fin:∀(D3:Addr) H3,H3 D3=some (.lst (TW (L0 ws l)))->o6 H H3->(tBM K "str" a1Z (tC (.str " ")) (a8 (b6 2) c8)) [some (.ref p),some (.ref x),some (.ref D3)] H3 Q:=fun D3 H3 e3 s3=>by
  ext
  refine a9U e3 b4q ?_ (k _ s3)
  have:=b4p w1
  have e1:((" " : Str)).length=1:=by decide +kernel
  rw[e1,a9]
  omega
 have li:∀(L:List Nat) (m:Nat) (i:Int),i=m->decide (V.int ((IL L).length:Int)=V.int i)=decide (L.length=m):=fun L m i e=>by
  subst e
  rw[M3]
  by_cases z:L.length=m
  ·rw[c6G z,c6G (by rw[z])]
  ·rw[c6F z,c6F (fun w=>z (by have:=V.int.inj w;omega))]
 match l,h2,hl,hx,fin with
 | [],_,_,hx,fin=>
  nofun
  exists G6 (s2 _ _ hx) ?_
  exists A8 (by rw[li _ 1 1 rfl];rfl) ?_
  nofun
  exists G6 (s2 _ _ hx) ?_
  refine A8 (by rw[li _ 2 2 rfl];rfl) ?_
  exact_mod_cast b2X ?_
  exact_mod_cast b1x ?_
  exact fin D H2 (by rw[d2];simp[L0]) s2
 | [t],_,hl,hx,fin=>
  nofun
  exists G6 (s2 _ _ hx) ?_
  exists F9 (by rw[li _ 1 1 rfl];rfl) ?_
  exists F8 (s2 _ _ hx) (a2H _ _) ?_
  exists a4q (a7j hl (.int t) (by simp[IL])) ?_
  refine C3 (by simp) fun a G _ e s3=>?_
  exists a5R (s3 _ _ d2) e (C3 (by simp;omega) fun D4 G4 _ e4 s4=>?_)
  nofun
  have s24:=(s2.trans s3).trans s4
  exists G6 (s24 _ _ hx) ?_
  refine A8 (by rw[li _ 2 2 rfl];rfl) ?_
  exact_mod_cast b2X ?_
  exact_mod_cast b1x ?_
  exact fin D4 G4 (by rw[e4];simp[L0,IL,wT]) s24
 | [t,u],_,hl,hx,fin=>
  nofun
  exists G6 (s2 _ _ hx) ?_
  exists A8 (by rw[li _ 1 1 rfl];rfl) ?_
  nofun
  exists G6 (s2 _ _ hx) ?_
  exists F9 (by rw[li _ 2 2 rfl];rfl) ?_
  exists F8 (s2 _ _ hx) (a2H _ _) ?_
  exists a4q (a7j hl (.int t) (by simp[IL])) ?_
  exists F8 (s2 _ _ hx) (a6j _ _ _) ?_
  exists a4q (a7j hl (.int u) (by simp[IL])) ?_
  refine C3 (by simp) fun a G _ e s3=>?_
  refine a5R (s3 _ _ d2) e (C3 (by simp;omega) fun D4 G4 _ e4 s4=>?_)
  exact_mod_cast a7b ?_
  exact_mod_cast b1x ?_
  exact fin D4 G4 (by rw[e4];simp[L0,IL,wT]) ((s2.trans s3).trans s4)
 | _::_::_::_,h2,_,_,_=>simp at h2
end
structure X7(H:Hp)(rs:List Addr)(Ws:List (List V)):Prop where
 len:Ws.length=rs.length
 at_:∀(i:Nat) p,rs[i]? = some p->∃xs,H p=some (.tup xs)/\RWs H xs (Ws.getD i [])
theorem X7.ts(h:X7 H rs Ws)(t:Q9 H H'):X7 H' rs Ws:=⟨h.len,fun i p hp=>by
 obtain⟨xs,a,b⟩:=h.at_ i p hp
 exact⟨xs,t _ _ a,b.ts t⟩⟩
theorem b1B:∀ {rs:List Addr},(∀p∈rs,∃b,a8U H (.ref p) b)->∃Ws,X7 H rs Ws
 | [],_=>⟨[],rfl,fun i p h=>by simp at h⟩
 | p::rs,h=>by
  obtain⟨b,q,xs,e,hq,hr,_⟩:=h p y0
  cases e
  obtain⟨ws,hw⟩:=c1T hr
  obtain⟨Ws,W⟩:=b1B (rs:=rs) fun p hp=>h p (t8 _ hp)
  refine⟨ws::Ws,by simp[W.len],fun i p' hp=>?_⟩
  cases i with
  | zero=>simp at hp;subst hp;exact⟨xs,hq,hw⟩
  | succ i=>
   obtain⟨ys,a,b⟩:=W.at_ i p' (by simpa using hp)
   exact⟨ys,a,by simpa using b⟩
def E9(Ws:List (List V))(N:Nt):List Str:=(D9 N.length).map fun i=>a2M (Ws.getD i []) (N.getD i [])
def a3Z(Ws:List (List V))(N:Nt):Str:=Txt.join "; " (E9 Ws N)
theorem a3I(h:i<N.length):N[i]? = some (N.getD i []):=by
 rw[List.getD_eq_getElem?_getD,c6 h];rfl
theorem b8A(h:i<N.length):N.getD i []∈N:=mI (a3I h)
section
variable {K:Fg}{c:Cn}{E:XK}
theorem b4B(y:Str)(ls:List Str)(m:Nat)(h:∀l∈ls,l.length<=m):(ls.map (·.length)).sum<=m * ls.length:=by
 induction ls with
 | nil=>simp
 | cons l r ih=>
  have h1:=h l y0
  have h2:=ih fun z hz=>h z (t8 _ hz)
  simp only[C4,b2w,q9]
  rw[Nat.mul_add]
  omega
theorem b1V(h:RWs H xs ws)(h2:l.length<=2)(hl:∀t∈l,t<400):(a2M ws l).length<=120:=by
 obtain⟨w1,w2,_⟩:=a1k h h2 hl
 unfold a2M
 rw[show Txt.join " " ((L0 ws l).map wT)=Str.join " " ((L0 ws l).map wT)from a0N _ _]
 have h1:=a5x " " ((L0 ws l).map wT)
 have h3:=b4p w1
 have e1:((" " : Str)).length=1:=by decide +kernel
 rw[e1,a9]at h1
 omega
theorem a1c(hv:a0g N)(h:i<N.length):(N.getD i []).length<=2/\∀t∈N.getD i [],t<400:=by
 have hm:=b8A h
 exact⟨hv.two _ hm,fun t ht=>p9 (hv.lt _ hm t ht) hv.le⟩
theorem a9i(W:X7 H rs Ws)(lr:rs.length=N.length)(hv:a0g N):∀l∈E9 Ws N,l.length<=120:=fun l hl=>by
 obtain⟨i,hi,rfl⟩:=A0.mp hl
 have hi:=X2.mp hi
 obtain⟨xs,_,hw⟩:=W.at_ i _ (c6 (by omega))
 exact b1V hw (a1c hv hi).1 (a1c hv hi).2
theorem b4u(W:X7 H rs Ws)(lr:rs.length=N.length)(hv:a0g N)(hd:H' D=some (.lst ((E9 Ws N).map V.str)))(k:Q (.str (a3Z Ws N)) H'):a1Z (.str "; ") [.ref D] H' Q:=by
 refine a9U hd (a4k _) ?_ k
 have h1:=b4B "; " (E9 Ws N) 120 (a9i W lr hv)
 have e2:(("; " : Str)).length=2:=by decide +kernel
 have e3:(E9 Ws N).length=N.length:=by simp[E9]
 have:=hv.le
 rw[e2]
 omega
theorem a8i(h:i<N.length):((E9 Ws N).take (i+1))=(E9 Ws N).take i++[a2M (Ws.getD i []) (N.getD i [])]:=by
 rw[D5]
 have e:(E9 Ws N)[i]? = some (a2M (Ws.getD i []) (N.getD i [])):=by
  unfold E9
  rw[b7,Y9 h];rfl
 rw[e];rfl
def PlF(c:Cn)(H:Hp)(x:Addr)(rs:List Addr)(N:Nt):Prop:=∃dx r n e,H x=some (.ins c.K7 dx [("rows",.ref r),("nexts",.ref n),("entries",.ref e)])/\H r=some (.lst (rs.map V.ref))/\A9 H n N
theorem PlF.same(h:PlF c H x rs N)(s:o6 H H'):PlF c H' x rs N:=by
 obtain⟨dx,r,n,e,a,b,d⟩:=h
 exact⟨dx,r,n,e,s _ _ a,s _ _ b,d.same s⟩
theorem a7N(ck:a6R K c)(hp:PlF c H x rs N)(lr:rs.length=N.length)(W:X7 H rs Ws)(hv:a0g N)(k:∀H',o6 H H'->Q (.str (a3Z Ws N)) H'):a1W K [.ref x] H Q E:=by
 obtain⟨dx,r,n,e,p1,p2,p3⟩:=hp
 obtain⟨as,n1,n2,n3⟩:=p3.ex
 have h400:=hv.le
 refine⟨rfl,?_⟩
 unfold b4j
 ext
 specialize a7c (b7r ?_)
 specialize a6u ?_
 exists ⟨x,_,dx,_,.ref r,rfl,p1,ck.U4,ck.W7,rfl,?_⟩
 specialize a6u ?_
 exists ⟨x,_,dx,_,.ref n,rfl,p1,ck.U4,ck.Q8,rfl,?_⟩
 refine⟨r,n,rfl,⟨_,SqL.of p2⟩,⟨_,SqL.of n1⟩,fun D hD=>?_⟩
 refine b0r (K:=K) N.length (fun i ys H2=>ys=((E9 Ws N).take i).map V.str/\H2 D=some (.lst ys)/\o6 H H2) ⟨by simp,c5,o5 hD⟩ ?_ ?_ ?_ ?_
 ·rintro i ys H2 ⟨_,h,_⟩
  exact h
 ·rintro ys H2 ⟨rfl,h,s2⟩
  exists ⟨⟨_,_,SqL.of (s2 _ _ p2),SqL.of (s2 _ _ n1),.inl (by simp[lr])⟩,?_⟩
  rw[z9 (by simp[E9])]at h
  exact b4u (W.ts (o6.ts s2)) lr hv h (k H2 s2)
 ·rintro i ys H2 hi ⟨_,_,s2⟩
  exact⟨_,_,_,_,SqL.of (s2 _ _ p2),SqL.of (s2 _ _ n1),by rw[b7,c6 (by omega)];rfl,by rw[b7,c6 (by omega)];rfl⟩
 ·rintro i ys H2 hi ⟨rfl,h,s2⟩ v H3 ⟨q,u,w,hq,rfl,rfl,hu,hw⟩
  have hu:=hu _ (SqL.of (s2 _ _ p2))
  have hw:=hw _ (SqL.of (s2 _ _ n1))
  rw[b7]at hu hw
  obtain⟨pi,hpi,rfl⟩:=v8.mp hu
  obtain⟨ai,hai,rfl⟩:=v8.mp hw
  refine⟨q,_,_,rfl,SqT.of c5,fun R S hR hS=>?_⟩
  have s3:o6 H (upd H2 q (.tup [.ref pi,.ref ai])):=s2.trans (o5 hq)
  have hDq:D≠q:=c4 h hq
  have h3:upd H2 q (.tup [.ref pi,.ref ai]) D=some (.lst (((E9 Ws N).take i).map V.str)):=by rw[c9 hDq];exact h
  generalize upd H2 q (.tup [.ref pi,.ref ai])=H3 at s3 h3
  ext
  exists a6N ?_
  obtain⟨xs,g1,g2⟩:=W.at_ i pi hpi
  obtain⟨v1,v2⟩:=a1c hv hi
  refine a7M (s3 _ _ g1) (g2.ts (o6.ts s3)) (s3 _ _ (n3 i ai _ hai (a3I hi))) v1 v2 fun H4 s4=>?_
  refine hR _ _ (s4 _ _ h3) (E8 (by rw[a9,C8];omega)) ⟨?_,c5,fun b o eb=>?_⟩
  ·rw[a8i hi,I0];rfl
  ·have:=(s3.trans s4) b o eb
   rw[c9 (c4 eb hD)];exact this
theorem b9n(hr:H ra=some (.lst (rs.map V.ref)))(lr:rs.length=N.length)(W:X7 H rs Ws)(hn:A9 H na N)(hv:a0g N)(k:∀H',o6 H H'->Q (.str (a3Z Ws N)) H'):a6T K [.ref ra,.ref na] H Q E:=by
 obtain⟨as,n1,n2,n3⟩:=hn.ex
 have h400:=hv.le
 refine⟨rfl,?_⟩
 unfold b6V
 ext
 specialize O5 (Y5 ?_)
 exists G6 hr ?_
 rw[a9,lr]
 refine⟨(N.length:Int),rfl,by omega,by omega,fun D hD=>?_⟩
 refine a0L (fun i ys H2=>ys=((E9 Ws N).take i).map V.str/\H2 D=some (.lst ys)/\o6 H H2) ⟨by simp,c5,o5 hD⟩ ?_ ?_ ?_
 ·rintro i ys H2 ⟨_,h,_⟩
  exact h
 ·rintro i ys H2 hi ⟨rfl,h,s2⟩ R hR
  have hi:i<N.length:=by simpa using hi
  obtain⟨pi,hpi⟩:∃pi,rs[i]? = some pi:=⟨_,c6 (by omega)⟩
  obtain⟨ai,hai⟩:∃ai,as[i]? = some ai:=⟨_,c6 (by omega)⟩
  have a1:atI (rs.map V.ref) (0+(i:Int))=some (.ref pi):=by
   rw[S0];exact U9 (by rw[b7,hpi];rfl)
  have a2:atI (as.map V.ref) (0+(i:Int))=some (.ref ai):=by
   rw[S0];exact U9 (by rw[b7,hai];rfl)
  ext
  exists F8 (s2 _ _ hr) a1 ?_
  exists F8 (s2 _ _ n1) a2 ?_
  obtain⟨xs,g1,g2⟩:=W.at_ i pi hpi
  obtain⟨v1,v2⟩:=a1c hv hi
  refine c0B (s2 _ _ g1) (g2.ts (o6.ts s2)) (s2 _ _ (n3 i ai _ hai (a3I hi))) v1 v2 fun H4 s4=>?_
  refine hR _ _ (s4 _ _ h) (E8 (by rw[a9,C8];omega)) ⟨?_,c5,fun b o eb=>?_⟩
  ·rw[a8i hi,I0];rfl
  ·have:=(s2.trans s4) b o eb
   rw[c9 (c4 eb hD)];exact this
 ·rintro ys H2 ⟨rfl,h,s2⟩
  ext
  have e:(N.length:Int).toNat=N.length:=rfl
  rw[e,z9 (by simp[E9])]at h
  exact b4u (W.ts (o6.ts s2)) lr hv h (k H2 s2)
end
theorem b9D(h:RWs H xs ws):a6Q H xs:=by
 cases h with
 | set n p kd v1 v2 a b c d e=>exact .set n p a ⟨kd,v1,v2,b,c,d,e⟩
 | copy n v a b=>exact .copy n v a b
 | take n a=>exact .take n a
 | tell v a=>exact .tell v a
 | ask v a=>exact .ask v a
 | skip=>exact .skip
theorem b1A(h:RWs H xs ws):∃k r r',xs=.str k::r/\ws=.str k::r':=by
 cases h <;> exact⟨_,_,_,rfl,rfl⟩
def c1b(Ws:List (List V))(N:Nt):Prop:=∀i,i<N.length->∃k r,Ws.getD i []=.str k::r/\decide ((k:Str) = "ask")=((N.getD i []).length == 2)
section
variable {K:Fg}{c:Cn}{E:XK}
theorem c0T(hR:M9 H ra N)(hr:H ra=some (.lst (rs.map V.ref)))(W:X7 H rs Ws):rs.length=N.length/\c1b Ws N:=by
 obtain⟨rs',r1,r2,r3⟩:=hR.ex
 obtain rfl:rs'=rs:=by
  rw[hr]at r1
  exact(a6F (f:=V.ref) (fun a b h=>V.ref.inj h) |>.mp (HO.lst.inj (Option.some.inj r1))).symm
 refine⟨r2,fun i hi=>?_⟩
 obtain⟨q,hq⟩:∃q,rs'[i]? = some q:=⟨_,c6 (by omega)⟩
 obtain⟨q',ys,e,hy,_,k,r,e2,hk⟩:=r3 i q _ hq (a3I hi)
 cases e
 obtain⟨xs,g1,g2⟩:=W.at_ i q hq
 rw[hy]at g1
 cases g1
 obtain⟨k',a,b,f1,f2⟩:=b1A g2
 rw[e2]at f1
 cases f1
 exact⟨k,b,f2,hk⟩
theorem b9C(h:RWs H xs ws):(ws.length<=3/\∀H':Hp,RWs H' ws ws)\/∃n kd v1 v2,ws=[.str "set",.str n,.str kd,v1,v2]/\NmS n/\OpN v1/\OpN v2/\kd∈a3r:=by
 cases h with
 | set n p kd v1 v2 a b c d e=>exact .inr ⟨n,kd,v1,v2,rfl,a,c,d,e⟩
 | copy n v a b=>exact .inl ⟨by simp,fun _=>.copy n v a b⟩
 | take n a=>exact .inl ⟨by simp,fun _=>.take n a⟩
 | tell v a=>exact .inl ⟨by simp,fun _=>.tell v a⟩
 | ask v a=>exact .inl ⟨by simp,fun _=>.ask v a⟩
 | skip=>exact .inl ⟨by simp,fun _=>.skip⟩
theorem b5u(hd:H D=some (.lst ws))(h:RWs H0 xs ws)(k:∀q H' ys,H' q=some (.tup ys)->RWs H' ys ws->o6 H H'->Q (.ref q) H'):a3B K [.ref D] H Q E:=by
 refine⟨rfl,?_⟩
 unfold b1h
 nofun
 exists G6 hd ?_
 rcases b9C h with ⟨hl,hw⟩ | ⟨n,kd,v1,v2,rfl,a,c,d,e⟩
 ·refine A8 (c6F fun z=>?_) ?_
  ·have:=V.int.inj z;omega
  ext
  refine(show a2u [.ref D] H _ from ?_)
  unfold a2u
  simp only[hd]
  intro q hq
  exact k q _ ws c5 (hw _) (o5 hq)
 ·exists F9 rfl ?_
  exists F8 hd (a2H _ _) ?_
  exists F8 hd (a6j _ _ _) ?_
  refine(show qSl (.ref D) (some 2) none H _ from ?_)
  unfold qSl
  simp only[hd]
  intro q1 hq1
  have e1:a1r [V.str "set",.str n,.str kd,v1,v2] (some 2) none=[.str kd,v1,v2]:=rfl
  rw[e1]
  ext
  refine(show a2u [.ref q1] (upd H q1 (.lst [.str kd,v1,v2])) _ from ?_)
  unfold a2u
  simp only[c5]
  intro q2 hq2
  have s2:o6 H (upd (upd H q1 (.lst [.str kd,v1,v2])) q2 (.tup [.str kd,v1,v2])):=(o5 hq1).trans (o5 hq2)
  have e2:upd (upd H q1 (.lst [.str kd,v1,v2])) q2 (.tup [.str kd,v1,v2]) q2=some (.tup [.str kd,v1,v2]):=c5
  generalize upd (upd H q1 (.lst [.str kd,v1,v2])) q2 (.tup [.str kd,v1,v2])=H3 at s2 e2
  ext
  refine C3 (by simp) fun q H4 _ e4 s4=>?_
  exact k q H4 _ e4 (.set n q2 kd v1 v2 a (s4 _ _ e2) c d e) (s2.trans s4)
end
section
variable {K:Fg}{c:Cn}{E:XK}
theorem b7F{zs:List V}{lo hi:Option Int}(ha:H a=some (.lst zs))(h:∀q,H q=none->Q (.ref q) (upd H q (.lst (a1r zs lo hi)))):qSl (.ref a) lo hi H Q:=by
 unfold qSl
 simp only[ha]
 exact h
theorem c0R(zs:List V):a1r (ys++zs) none (some (ys.length:Int))=ys:=by
 unfold a1r
 have e:HT.sIx (ys++zs).length (ys++zs).length (some (ys.length:Int))=ys.length:=by rw[HT.a5c,j4];omega
 rw[e,HT.b1z,b0P,Nat.sub_zero,c3L]
theorem c0Q(l:List Nat):a1r (L0 ys l) (some ((ys.length:Int)+1)) none=IL l:=by
 unfold a1r
 have e:HT.sIx (L0 ys l).length 0 (some ((ys.length:Int)+1))=min (ys.length+1) (L0 ys l).length:=by
  rw[show((ys.length:Int)+1)=((ys.length+1:Nat):Int) by omega,HT.a5c]
 rw[e,HT.b1z,z9 (by simp)]
 unfold L0
 by_cases hz:l=[]
 ·subst hz
  rw[if_pos rfl,a0l,b4S (by omega)]
  rfl
 ·rw[if_neg hz]
  have e2:min (ys.length+1) (ys++V.str ">" :: IL l).length=ys.length+1:=by simp
  rw[e2,List.drop_append,b4S (by omega),show ys.length+1 - ys.length=1 by omega]
  rfl
theorem c4O(hw:∀w∈ws,w≠.str ">")(hf:∀w∈ws,W0 w):inV (.str ">") (L0 ws l) = !l.isEmpty:=by
 have no:∀w,W0 w->w≠.str ">" -> eqV w (.str ">")=false:=fun w h1 h2=>by
  rcases h1 with ⟨s,rfl,_⟩ | ⟨n,rfl,_⟩
  ·simp only[eqV,beq_eq_false_iff_ne]
   exact fun z=>h2 (by rw[z])
  ·rfl
 unfold inV L0
 by_cases hz:l=[]
 ·subst hz
  rw[if_pos rfl,a0l]
  show _=false
  rw[c1e]
  intro z
  rw[c1w]at z
  obtain⟨w,h1,h2⟩:=z
  rw[no w (hf w h1) (hw w h1)]at h2
  cases h2
 ·rw[if_neg hz]
  have:l.isEmpty=false:=by cases l with
   | nil=>exact absurd rfl hz
   | cons a b=>rfl
  rw[this,List.any_append,W3]
  have e:eqV (.str ">") (.str ">")=true:=by decide +kernel
  rw[e]
  simp
theorem b5O(h:RWs H xs ws)(h2:l.length<=2)(hl:∀t∈l,t<400):59∉(a2M ws l).cps.toList:=by
 obtain⟨w1,_,_⟩:=a1k h h2 hl
 intro z
 refine b1Y (P:=fun c=>c≠59) (y := " ") (by decide +kernel) ((L0 ws l).map wT) (fun s hs c hc=>?_) 59 z rfl
 obtain⟨w,hw,rfl⟩:=A0.mp hs
 intro e
 subst e
 exact(a6S (w1 w hw)).2.1 hc
theorem b2K(h:RWs H xs ws)(h2:l.length<=2)(hl:∀t∈l,t<400):Txt.split (a2M ws l) " " = (L0 ws l).map wT:=by
 obtain⟨w1,_,w3⟩:=a1k h h2 hl
 refine a7I (s0:=32) (by decide +kernel) (by decide +kernel) (by simpa using w3) fun s hs=>?_
 obtain⟨w,hw,rfl⟩:=A0.mp hs
 exact(a6S (w1 w hw)).1
theorem b2J(W:X7 H rs Ws)(lr:rs.length=N.length)(hv:a0g N):Txt.split (a3Z Ws N) "; " = E9 Ws N:=by
 refine a7I (s0:=59) (by decide +kernel) (by decide +kernel) (fun z=>?_) fun s hs=>?_
 ·have e:(E9 Ws N).length=0:=by rw[z];rfl
  have e3:(E9 Ws N).length=N.length:=by simp[E9]
  have:=hv.pos
  omega
 ·obtain⟨i,hi,rfl⟩:=A0.mp hs
  have hi:=X2.mp hi
  obtain⟨xs,_,hw⟩:=W.at_ i _ (c6 (by omega))
  exact b5O hw (a1c hv hi).1 (a1c hv hi).2
theorem b6U(W:X7 H rs Ws)(lr:rs.length=N.length)(hv:a0g N):(a3Z Ws N).length<=1000000:=by
 unfold a3Z
 rw[show Txt.join "; " (E9 Ws N)=Str.join "; " (E9 Ws N)from a0N _ _]
 have h0:=a5x "; " (E9 Ws N)
 have h1:=b4B "; " (E9 Ws N) 120 (a9i W lr hv)
 have e2:(("; " : Str)).length=2:=by decide +kernel
 have e3:(E9 Ws N).length=N.length:=by simp[E9]
 have:=hv.le
 rw[e2]at h0
 omega
theorem b2F(hi:σ[i]? = some (some (.str (a2M ws l))))(h:RWs H xs ws)(h2:l.length<=2)(hl:∀t∈l,t<400)(k:∀T H',H T=none->H' T=some (.lst (L0 ws l))->o6 H H'->Q (.ref T) H') :
  M4 (T8 K (tBM K "str" a7U (b6 i) (a8 (tC (.str " ")) (c8)))) (L7) (o9 (a0J K) [] E0 (a8 (b6 0) (c8))) σ H Q:=by
 obtain⟨w1,w2,_⟩:=a1k h h2 hl
 have hlen:=b1V h h2 hl
 refine O5 (U6 ?_)
 exact_mod_cast c1o ?_
 exact_mod_cast b7m hi ?_
 exists ⟨rfl,?_⟩
 refine⟨_,_,rfl,rfl,by omega,by decide +kernel,fun L hL=>?_⟩
 rw[b2K h h2 hl]
 have eL:upd H L (.lst (((L0 ws l).map wT).map V.str)) L=some (.lst (((L0 ws l).map wT).map V.str)):=c5
 have sL:o6 H (upd H L (.lst (((L0 ws l).map wT).map V.str))):=o5 hL
 generalize upd H L (.lst (((L0 ws l).map wT).map V.str))=H1 at eL sL
 refine⟨L,rfl,⟨_,SqL.of eL⟩,fun T hT=>?_⟩
 refine U0 (xs:=((L0 ws l).map wT).map V.str) (fun i ys H2=>ys=(L0 ws l).take i/\H2 T=some (.lst ys)/\o6 H1 H2) ⟨by simp,c5,o5 hT⟩ ?_ ?_ ?_ ?_
 ·rintro i ys H2 ⟨_,h,_⟩
  exact h
 ·rintro i ys H2 _ ⟨_,_,s2⟩
  exact SqL.of (s2 _ _ eL)
 ·rintro i v ys H2 hx ⟨rfl,hT2,s2⟩ R hR
  rw[R5,b7]at hx
  obtain⟨w,hw,rfl⟩:=v8.mp hx
  ext
  refine b1f (w1 w (mI hw)) fun H4 s4=>?_
  refine hR _ _ (s4 _ _ hT2) (E8 (by rw[C8];omega)) ⟨?_,c5,fun b o eb=>?_⟩
  ·rw[D5,hw];rfl
  ·have:=(s2.trans s4) b o eb
   rw[c9 (c4 eb hT)];exact this
 ·rintro ys H2 ⟨rfl,hT2,s2⟩
  rw[z9 (by simp)]at hT2
  exact k T H2 (sL.free hT) hT2 (sL.trans s2)
theorem b3g(ck:a6R K c)(W:X7 H rs Ws)(lr:rs.length=N.length)(ak:c1b Ws N)(hv:a0g N)(k:∀x H' rs',PlF c H' x rs' N->rs'.length=N.length->X7 H' rs' Ws->o6 H H'->Q (.ref x) H'):a2m K c [.str (a3Z Ws N)] H Q E:=by
 have h400:=hv.le
 have lw:Ws.length=N.length:=W.len.trans lr
 refine⟨rfl,?_⟩
 unfold a9b
 nofun
 exists C3 (by simp) fun R G1 hR eR sR=>?_
 nofun
 exists C3 (by simp) fun X G2 hX eX sX=>?_
 exact_mod_cast a0r ?_
 exact_mod_cast a0s (U6 ?_)
 specialize c1o ?_
 exists ⟨rfl,?_⟩
 refine⟨_,_,rfl,rfl,b6U W lr hv,by decide +kernel,fun L hL=>?_⟩
 rw[b2J W lr hv]
 have s02:o6 H G2:=sR.trans sX
 have nRX:R≠X:=c4 eR hX
 have eL:upd G2 L (.lst ((E9 Ws N).map V.str)) L=some (.lst ((E9 Ws N).map V.str)):=c5
 have sL:o6 G2 (upd G2 L (.lst ((E9 Ws N).map V.str))):=o5 hL
 have nRL:R≠L:=c4 (sX _ _ eR) hL
 have nXL:X≠L:=c4 eX hL
 generalize upd G2 L (.lst ((E9 Ws N).map V.str))=G3 at eL sL
 refine⟨L,rfl,⟨_,SqL.of eL⟩,a3p (xs:=(E9 Ws N).map V.str) (fun i σ H2=>∃x3 x4 x5 rs' as',σ=[some (.str (a3Z Ws N)),some (.ref R),some (.ref X),x3,x4,x5]/\H2 R=some (.lst ((rs':List Addr).map V.ref))/\H2 X=some (.lst ((as':List Addr).map V.ref))/\rs'.length=i/\as'.length=i/\H2 L=some (.lst ((E9 Ws N).map V.str))/\o6 H H2 /\
  (∀(j:Nat) q,rs'[j]? = some q->∃ys,H2 q=some (.tup ys)/\RWs H2 ys (Ws.getD j []))/\∀(j:Nat) q,as'[j]? = some q->H2 q=some (.lst (IL (N.getD j [])))/\q≠R/\q≠X) ⟨_,_,_,[],[],rfl,sL _ _ (sX _ _ eR),sL _ _ eX,rfl,rfl,eL,s02.trans sL,fun j q h=>by simp at h,fun j q h=>by simp at h⟩ ?_ ?_ ?_⟩
 ·rintro i σ H2 _ ⟨_,_,_,_,_,_,_,_,_,_,h,_⟩
  exact SqL.of h
 ·rintro i v _ H2 hx ⟨x3,x4,x5,rs',as',rfl,r2,a2,lr2,la2,L2',s2,hrs,has⟩
  rw[b7]at hx
  obtain⟨s,hs,rfl⟩:=v8.mp hx
  have hi:i<N.length:=by
   have:=(gI hs)
   simpa[E9]using this
  have es:s=a2M (Ws.getD i []) (N.getD i []):=by
   unfold E9 at hs
   rw[b7,Y9 hi]at hs
   cases hs
   rfl
  subst es
  obtain⟨xs0,_,hw⟩:=W.at_ i _ (c6 (by omega))
  obtain⟨v1,v2⟩:=a1c hv hi
  obtain⟨w1,w2,_⟩:=a1k hw v1 v2
  obtain⟨wd,wl5,_,wgt⟩:=hw.words
  generalize hws:Ws.getD i []=ws at *
  generalize hll:N.getD i []=ll at *
  have r2n:=r2
  ext
  exact_mod_cast a0r ?_
  refine(show(M4 _ _ _:TE) _ H2 _ from ?_)
  refine b2F (H:=H2) rfl (hw.ts (o6.ts s2)) v1 v2 fun T H3 hT eT s3=>?_
  exact_mod_cast X5 (P:=fun σ H4=>σ=[some (.str (a3Z Ws N)),some (.ref R),some (.ref X),some (.str (a2M ws ll)),some (.ref T),some (.int (ws.length:Int))]/\H4=H3) ?_ ?_
  rotate_left
  ·intro nx hnx
   have hfl:(L0 ws ll).all E5=true:=v7.mpr fun w h=>(w1 w h).flat
   ext
   exists c4q eT rfl hfl ?_
   rw[c4O wgt wd]
   by_cases hz:ll=[]
   ·subst hz
    exists A8 rfl ?_
    exists G6 eT ?_
    have e:L0 ws []=ws:=by simp[L0]
    rw[e]
    exact hnx _ _ ⟨rfl,rfl⟩
   ·have hne:ll.isEmpty=false:=by cases ll with
     | nil=>exact absurd rfl hz
     | cons a b=>rfl
    refine F9 (by rw[hne];rfl) ?_
    specialize a5Q ?_
    exists ⟨.inl ⟨rfl,_,SqL.of eT⟩,?_⟩
    refine⟨T,">",_,ws.length,rfl,rfl,eT,hfl,by omega,?_,fun j y hj hy=>?_,?_⟩
    ·unfold L0
     rw[if_neg hz]
     simp
    ·unfold L0 at hy
     rw[u9 hj]at hy
     have hm:=mI hy
     rcases wd y hm with ⟨s,rfl,_⟩ | ⟨n,rfl,_⟩
     ·simp only[eqV,beq_eq_false_iff_ne]
      exact fun z=>wgt _ hm (by rw[z])
     ·rfl
    ·ext
     exact hnx _ _ ⟨rfl,rfl⟩
  rintro _ _ ⟨rfl,rfl⟩
  nofun
  specialize a5Q ?_
  exists ⟨.inl ⟨rfl,_,SqL.of (s3 _ _ r2)⟩,?_⟩
  refine b7F eT fun c1 hc1=>?_
  have e1:a1r (L0 ws ll) none (some (ws.length:Int))=ws:=c0R _
  rw[e1]
  have sc1:=o5 (o:=.lst ws) hc1
  ext
  refine b5u (H:=upd _ c1 (.lst ws)) c5 hw fun q H5 ys eq wq s5=>?_
  have s25:=(s3.trans sc1).trans s5
  ext
  exists a1h (s25 _ _ r2) (E8 (by rw[a9];omega)) ?_
  specialize a5Q ?_
  have aX:upd H5 R (.lst (rs'.map V.ref++[.ref q])) X=some (.lst (as'.map V.ref)):=by rw[c9 nRX.symm];exact s25 _ _ a2
  refine⟨.inl ⟨rfl,_,SqL.of aX⟩,?_⟩
  have hTR:T≠R:=(c4 r2 hT).symm
  have hTX:T≠X:=(c4 a2 hT).symm
  have eT6:upd H5 R (.lst (rs'.map V.ref++[.ref q])) T=some (.lst (L0 ws ll)):=by rw[c9 hTR];exact s5 _ _ (sc1 _ _ eT)
  ext
  refine b7F eT6 fun c2 hc2=>?_
  rw[c0Q]
  have nc2R:c2≠R:=(c4 (show upd H5 R (.lst (rs'.map V.ref++[.ref q])) R=some _ from c5) hc2).symm
  have nc2X:c2≠X:=(c4 aX hc2).symm
  ext
  refine a1h (show upd (upd H5 R (.lst (rs'.map V.ref++[.ref q]))) c2 (.lst (IL ll)) X=some (.lst (as'.map V.ref)) by rw[c9 nc2X.symm];exact aX) (E8 (by rw[a9];omega)) ?_
  have keep:∀b o,b≠R->b≠X->H2 b=some o->upd (upd (upd H5 R (.lst (rs'.map V.ref++[.ref q]))) c2 (.lst (IL ll))) X (.lst (as'.map V.ref++[.ref c2])) b=some o:=fun b o n1 n2 e=>by
   have e5:=s25 b o e
   have e6:upd H5 R (.lst (rs'.map V.ref++[.ref q])) b=some o:=by rw[c9 n1];exact e5
   rw[c9 n2,c9 (c4 e6 hc2)];exact e6
  have keep5:∀b o,b≠R->b≠X->H5 b=some o->upd (upd (upd H5 R (.lst (rs'.map V.ref++[.ref q]))) c2 (.lst (IL ll))) X (.lst (as'.map V.ref++[.ref c2])) b=some o:=fun b o n1 n2 e5=>by
   have e6:upd H5 R (.lst (rs'.map V.ref++[.ref q])) b=some o:=by rw[c9 n1];exact e5
   rw[c9 n2,c9 (c4 e6 hc2)];exact e6
  have tsame:Q9 H2 (upd (upd (upd H5 R (.lst (rs'.map V.ref++[.ref q]))) c2 (.lst (IL ll))) X (.lst (as'.map V.ref++[.ref c2]))):=fun b zs e=>keep b _ (L3 e r2 (by intro z;cases z)) (L3 e a2 (by intro z;cases z)) e
  have tsame5:Q9 H5 (upd (upd (upd H5 R (.lst (rs'.map V.ref++[.ref q]))) c2 (.lst (IL ll))) X (.lst (as'.map V.ref++[.ref c2]))):=fun b zs e=>keep5 b _ (L3 e (s25 _ _ r2) (by intro z;cases z)) (L3 e (s25 _ _ a2) (by intro z;cases z)) e
  refine⟨_,_,_,rs'++[q],as'++[c2],rfl,?_,?_,by simp[lr2],by simp[la2],keep L _ nRL.symm nXL.symm L2',fun b o e=>?_,fun j z hz=>?_,fun j z hz=>?_⟩
  ·rw[c9 nRX,c9 nc2R.symm,c5];simp
  ·rw[c5];simp
  ·refine keep b o ?_ ?_ (s2 b o e)
   ·exact c4 e hR
   ·exact c4 (sR _ _ e) hX
  ·by_cases hj:j<rs'.length
   ·rw[u9 hj]at hz
    obtain⟨ys',f1,f2⟩:=hrs j z hz
    exact⟨ys',tsame _ _ f1,f2.ts tsame⟩
   ·rw[A5 (by omega)]at hz
    have hj0:j - rs'.length=0:=by
     have:=(gI hz)
     simp at this;omega
    rw[hj0]at hz
    cases hz
    have:j=i:=by omega
    subst this
    rw[hws]
    exact⟨ys,tsame5 _ _ eq,wq.ts tsame5⟩
  ·by_cases hj:j<as'.length
   ·rw[u9 hj]at hz
    obtain⟨f1,f2,f3⟩:=has j z hz
    exact⟨keep z _ f2 f3 f1,f2,f3⟩
   ·rw[A5 (by omega)]at hz
    have hj0:j - as'.length=0:=by
     have:=(gI hz)
     simp at this;omega
    rw[hj0]at hz
    cases hz
    have:j=i:=by omega
    subst this
    rw[hll]
    exact⟨by rw[c9 nc2X,c5],nc2R,nc2X⟩
 ·rintro _ H2 ⟨x3,x4,x5,rs',as',rfl,r2,a2,lr2,la2,L2',s2,hrs,has⟩
  rw[a9,show(E9 Ws N).length=N.length by simp[E9]]at lr2 la2
  have hR2:M9 H2 R N:=⟨rs',r2,lr2,fun i q l e1 e2=>by
   have hi:i<N.length:=(gI e2)
   rw[a3I hi]at e2
   cases e2
   obtain⟨ys,f1,f2⟩:=hrs i q e1
   obtain⟨k1,r1,r1',f3,f4⟩:=b1A f2
   obtain⟨k2,r2',f5,f6⟩:=ak i hi
   rw[f4]at f5
   cases f5
   exact⟨q,ys,rfl,f1,b9D f2,k1,r1,f3,f6⟩⟩
  have hN2:A9 H2 X N:=⟨as',a2,la2,fun i q l e1 e2=>by
   have hi:i<N.length:=(gI e2)
   rw[a3I hi]at e2
   cases e2
   exact(has i q e1).1⟩
  have W2:X7 H2 rs' Ws:=⟨by omega,hrs⟩
  ext
  specialize b7q ?_
  intro y dy hy hdy hne
  have sm:o6 H2 (upd (upd H2 dy (.own y)) y (.ins c.K7 dy [])):=fun b o e=>by
   rw[c9 (c4 e hy),c9 (c4 e hdy)];exact e
  refine a5h ck (sm _ _ r2) (hR2.same sm) (hN2.same sm) hv c5 fun H' pz old=>⟨rfl,?_⟩
  have s2':o6 H2 H':=fun b o e=>old b o (sm b o e) (c4 e hy)
  obtain⟨dx,r,n,e,es,ns,p1,⟨_,p2⟩,p3,p4,p5,_⟩:=pz.ex
  exact k y H' rs' ⟨dx,r,n,e,p1,p2,⟨ns,p3,p4,p5⟩⟩ lr2 (W2.ts (o6.ts s2')) (s2.trans s2')
end
section
variable {K:Fg}{c:Cn}{q:Addr}{rs':List Addr}{E:XK}
theorem b9E(ck:a6R K c)(W:X7 H rs Ws)(lr:rs.length=N.length)(ak:c1b Ws N)(hv:a0g N)(k:∀x H' rs',PlF c H' x rs' N->rs'.length=N.length->X7 H' rs' Ws->o6 H H'->Q (.ref x) H'):a6U K c [.str (a3Z Ws N)] H Q E:=by
 refine⟨rfl,?_⟩
 unfold b6X
 nofun
 exists a1z (s := "str") rfl (by decide) ?_
 exists A8 (by decide) ?_
 nofun
 exists b3g ck W lr ak hv fun x H1 rs1 p1 l1 W1 s1=>?_
 nofun
 exists (show qIs (.ref x) .non H1 _ from⟨rfl,?_⟩)
 exists A8 rfl ?_
 exists a7N ck p1 l1 W1 hv fun H2 s2=>?_
 exists A8 (by simp) ?_
 exact k x H2 rs1 (p1.same s2) l1 (W1.ts (o6.ts s2)) (s1.trans s2)
theorem a3J(n:Nat)(h1:H p=some (.tup xs))(h2:H q=some (.tup xs))(hf:xs.all E5=true):Dq K H (n+1) (.ref p) (.ref q):=
 .tup (SqT.of h1) (SqT.of h2) rfl fun j x y e1 e2=>by
  rw[e1]at e2
  cases e2
  exact .flat (v7.mp hf _ (mI e1))
theorem b3z{kd:Str}{v1 v2:V}(c:OpN v1)(d:OpN v2):[V.str kd,v1,v2].all E5=true:=by
 simp only[Z3,a1I,c4Y,c.flat,d.flat]
 rfl
theorem c1U(h1:RWs H xs ws)(h2:RWs H ys ws)(a1:H p=some (.tup xs))(a2:H q=some (.tup ys)):Dq K H 2 (.ref p) (.ref q):=by
 cases h1 with
 | set n p1 kd v1 v2 a b c d e=>
  cases h2 with
  | set n p2 kd v1 v2 a' b' c' d' e'=>
   refine .tup (SqT.of a1) (SqT.of a2) rfl fun j x y f1 f2=>?_
   match j with
   | 0=>cases f1;cases f2;exact .flat rfl
   | 1=>cases f1;cases f2;exact .flat rfl
   | 2=>cases f1;cases f2;exact a3J 0 b b' (b3z c d)
   | j+3=>cases f1
 | copy n v a b=>
  cases h2 with
  | copy n v a' b'=>exact a3J 1 a1 a2 (by simp only[Z3,a1I,b.flat];rfl)
 | take n a=>
  cases h2 with
  | take n a'=>exact a3J 1 a1 a2 rfl
 | tell v b=>
  cases h2 with
  | tell v b'=>exact a3J 1 a1 a2 (by simp only[Z3,a1I,b.flat];rfl)
 | ask v b=>
  cases h2 with
  | ask v b'=>exact a3J 1 a1 a2 (by simp only[Z3,a1I,b.flat];rfl)
 | skip=>
  cases h2 with
  | skip=>exact a3J 1 a1 a2 rfl
theorem b7A(W:X7 H rs Ws)(W':X7 H rs' Ws)(a1:H p=some (.lst (rs.map V.ref)))(a2:H q=some (.lst (rs'.map V.ref))):Dq K H 3 (.ref p) (.ref q):=by
 refine .lst (SqL.of a1) (SqL.of a2) (by rw[a9,a9,<-W.len,W'.len]) fun j x y f1 f2=>?_
 rw[b7]at f1 f2
 obtain⟨u,hu,rfl⟩:=v8.mp f1
 obtain⟨v,hv,rfl⟩:=v8.mp f2
 obtain⟨xs,g1,g2⟩:=W.at_ j u hu
 obtain⟨ys,g3,g4⟩:=W'.at_ j v hv
 exact c1U g2 g4 g1 g3
theorem c5s(h1:A9 H p N)(h2:A9 H q N):Dq K H 2 (.ref p) (.ref q):=by
 obtain⟨as,a1,a2,a3⟩:=h1.ex
 obtain⟨bs,b1,b2,b3⟩:=h2.ex
 refine .lst (SqL.of a1) (SqL.of b1) (by rw[a9,a9,a2,b2]) fun i u v f1 f2=>?_
 rw[b7]at f1 f2
 obtain⟨y,hy,rfl⟩:=v8.mp f1
 obtain⟨z,hz,rfl⟩:=v8.mp f2
 have hi:=(gI hy)
 have e:N[i]? = some N[i]:=c6 (by omega)
 refine .lst (SqL.of (a3 i y _ hy e)) (SqL.of (b3 i z _ hz e)) rfl fun j x x' g1 g2=>?_
 rw[g1]at g2
 cases g2
 exact .flat (v7.mp (b4P _) _ (mI g1))
theorem b7w(h:RWs H xs ws):∀v∈xs,∃s,Y4 v H=some s/\a4B s "bool" = false:=by
 have op:∀ {v:V},OpN v->∃s,Y4 v H=some s/\a4B s "bool" = false:=fun {v} h=>by
  rcases h with ⟨s,rfl,_⟩ | ⟨n,rfl,_⟩
  ·exact⟨_,rfl,by decide⟩
  ·exact⟨_,rfl,by decide⟩
 have st:∀ {s:Str},∃t,Y4 (.str s) H=some t/\a4B t "bool" = false:=⟨_,rfl,by decide⟩
 intro v hv
 cases h with
 | set n p kd v1 v2 a b c d e=>
  simp only[c7,g7,or_false]at hv
  rcases hv with rfl | rfl | rfl
  ·exact st
  ·exact st
  ·exact⟨"tuple",by simp only[Y4,b],by decide⟩
 | copy n v' a b=>
  simp only[c7,g7,or_false]at hv
  rcases hv with rfl | rfl | rfl
  ·exact st
  ·exact st
  ·exact op b
 | take n a=>
  simp only[c7,g7,or_false]at hv
  rcases hv with rfl | rfl <;> exact st
 | tell v' b=>
  simp only[c7,g7,or_false]at hv
  rcases hv with rfl | rfl
  ·exact st
  ·exact op b
 | ask v' b=>
  simp only[c7,g7,or_false]at hv
  rcases hv with rfl | rfl
  ·exact st
  ·exact op b
 | skip=>
  simp only[c7,g7,or_false]at hv
  subst hv
  exact st
theorem b8P(ck:a6R K c)(hp:PlF c H x rs' N)(W':X7 H rs' Ws)(W:X7 H rs Ws)(hr:H ra=some (.lst (rs.map V.ref)))(hn:A9 H na N)(k:Q (.bl true) H):a4Z K c [.ref x,.ref ra,.ref na] H Q E:=by
 obtain⟨dx,r,n,e,p1,p2,p3⟩:=hp
 refine⟨rfl,?_⟩
 unfold b4n
 nofun
 exists ⟨x,c.K7,dx,_,rfl,p1,ck.c1f,?_⟩
 exists A8 rfl ?_
 specialize a6u ?_
 exists ⟨x,_,dx,_,.ref r,rfl,p1,ck.U4,ck.W7,rfl,?_⟩
 exists ⟨r,ra,3,rfl,rfl,by decide,b7A W' W p2 hr,?_⟩
 exists A8 rfl ?_
 specialize a6u ?_
 exists ⟨x,_,dx,_,.ref n,rfl,p1,ck.U4,ck.Q8,rfl,?_⟩
 exists ⟨n,na,2,rfl,rfl,by decide,c5s p3 hn,?_⟩
 exists A8 rfl ?_
 exact_mod_cast a0r ?_
 exact_mod_cast a0s (U6 ?_)
 specialize a6u ?_
 refine⟨x,_,dx,_,.ref r,rfl,p1,ck.U4,ck.W7,rfl,?_⟩
 refine⟨r,rfl,⟨_,SqL.of p2⟩,a3p (xs:=rs'.map V.ref) (fun i σ H2=>∃y3 y4,σ=[some (.ref x),some (.ref ra),some (.ref na),y3,y4]/\H2=H) ⟨_,_,rfl,rfl⟩ ?_ ?_ ?_⟩
 ·rintro i σ H2 _ ⟨_,_,_,rfl⟩
  exact SqL.of p2
 ·rintro i v _ H2 hv ⟨y3,y4,rfl,rfl⟩
  rw[b7]at hv
  obtain⟨y,hy,rfl⟩:=v8.mp hv
  obtain⟨zs,g1,g2⟩:=W'.at_ i y hy
  have nb:=b7w g2
  ext
  specialize a0s (a6Y ?_)
  refine⟨y,rfl,⟨_,SqT.of g1⟩,b0o (xs:=zs) (fun j σ H3=>∃y4,σ=[some (.ref x),some (.ref ra),some (.ref na),some (.ref y),y4]/\H3=H2) ⟨_,rfl,rfl⟩ ?_ ?_ ?_⟩
  ·rintro j σ _ _ ⟨_,_,rfl⟩
   exact SqT.of g1
  ·rintro j v _ _ hv ⟨y5,rfl,rfl⟩
   obtain⟨s,t1,t2⟩:=nb v (mI hv)
   ext
   exists a1z t1 (by decide) ?_
   exists A8 t2 ?_
   exact⟨_,rfl,rfl⟩
  rintro _ _ ⟨y5,rfl,rfl⟩
  exact⟨_,_,rfl,rfl⟩
 rintro _ _ ⟨y3,y4,rfl,rfl⟩
 ext
 exact k
end
def a0e(m:Nat):List (List Nat):=((D9 m).map fun k=>[k+1])++[[]]
section
variable {k:Nat}
theorem a2b:(a0e m).length=m+1:=by simp[a0e]
theorem a8p(h:k<m):(a0e m)[k]? = some [k+1]:=by
 unfold a0e
 rw[u9 (by simpa using h),b7,Y9 h]
 rfl
theorem a9n:(a0e m)[m]? = some []:=by
 unfold a0e
 rw[A5 (by simp)]
 simp
theorem a1F(h:(a0e m)[k]? = some l):(k<m/\l=[k+1])\/(k=m/\l=[]):=by
 by_cases q:k<m
 ·rw[a8p q]at h
  cases h
  exact .inl ⟨q,rfl⟩
 ·have:=(gI h)
  rw[a2b]at this
  have:k=m:=by omega
  subst this
  rw[a9n]at h
  cases h
  exact .inr ⟨rfl,rfl⟩
theorem b2i(h:m<=399):a0g (a0e m):=by
 have len:(a0e m).length=m+1:=a2b
 refine⟨by omega,by omega,fun l hl=>?_,fun l hl t ht=>?_,fun k hk=>?_,fun k hk=>?_⟩
 ·obtain⟨k,hk⟩:=L5.mp hl
  rcases a1F hk with ⟨_,rfl⟩ | ⟨_,rfl⟩ <;> simp
 ·obtain⟨k,hk⟩:=L5.mp hl
  rcases a1F hk with ⟨h1,rfl⟩ | ⟨_,rfl⟩
  ·have:t=k+1:=by simpa using ht
   omega
  ·cases ht
 ·rw[len]at hk
  induction k with
  | zero=>exact .zero
  | succ k ih=>exact .step (ih (by omega)) (a8p (by omega)) (by simp)
 ·rw[len]at hk
  have go:∀j k,k+j=m->Gd (a0e m) k:=by
   intro j
   induction j with
   | zero=>
    intro k e
    have:k=m:=by omega
    subst this
    exact .stop a9n
   | succ j ih=>
    intro k e
    exact .step (a8p (by omega)) (j3.mpr rfl) (ih (k+1) (by omega))
  exact go (m - k) k (by omega)
end
theorem b5Y{tn:TE}(hm:m<=400)(htn:∀(s:St) (R:VK) (H':Hp),R (.int (m:Int)) H'->tn σ H' R)
  (k:∀a H',H a=none->A9 H' a (a0e m)->o6 H H'->Q (.ref a) H'):tOp Z0 (M4 (a0c (a8 tn c8)) L7 (S3 (a8 (tOp Z0 (b6 0) (tC (.int 1))) c8))) (S3 (a8 (S3 c8) c8)) σ H Q:=by
 exact_mod_cast c4b ?_
 exact_mod_cast O5 (Y5 ?_)
 exact_mod_cast b7v ?_
 refine htn σ _ _ ?_
 exact_mod_cast c1n ?_
 refine⟨(m:Int),rfl,by omega,by omega,fun D hD=>?_⟩
 rw[A3]
 refine a0L (fun i ys H10=>∃as:List Addr,ys=as.map V.ref/\as.length=i/\(∀(j:Nat) y,as[j]? = some y->H10 y=some (.lst (IL [j+1]))/\y≠D)/\H10 D=some (.lst ys)/\o6 H H10) ?_ ?_ ?_ ?_
 ·exact⟨[],rfl,rfl,by simp,c5,o5 hD⟩
 ·rintro i ys H10 ⟨_,_,_,_,h,_⟩
  exact h
 ·rintro i ys H10 hi ⟨as,rfl,la,at10,hD10,s10⟩ R hR
  rw[S0]
  ext
  refine C3 (by simp) fun y H11 hy e11 s11=>?_
  have nyD:y≠D:=(c4 hD10 hy).symm
  refine hR _ _ (s11 _ _ hD10) (E8 (by rw[a9];omega)) ⟨as++[y],by simp,by simp[la],fun j z e=>?_,c5,fun b o e=>?_⟩
  ·rcases W9 e with ⟨_,e⟩ | ⟨hj,e⟩
   ·obtain⟨q1,q2⟩:=at10 j z e
    exact⟨by rw[c9 q2];exact s11 _ _ q1,q2⟩
   ·subst e
    refine⟨?_,nyD⟩
    rw[c9 nyD,e11,hj,la]
    rfl
  ·rw[c9 (c4 e hD)];exact s11 _ _ (s10 _ _ e)
 rintro _ H10 ⟨as,rfl,la,at10,hD10,s10⟩
 ext
 exists C3 (by simp) fun y2 H12 hy2 e12 s12=>?_
 refine C3 (by simp) fun y3 H13 hy3 e13 s13=>?_
 have s1013:=s12.trans s13
 refine a5R (s1013 _ _ hD10) e13 ?_
 refine C3 (a8B (by rw[a9];show as.length+1<100000;omega)) fun na H14 hna e14 s14=>?_
 have s1014:=s1013.trans s14
 refine k na H14 ((s10.trans s1013).free hna) ⟨as++[y2],by rw[I0];exact e14,by rw[j4,la,a2b];rfl,fun i x l f1 f2=>?_⟩ (s10.trans s1014)
 rcases a1F f2 with ⟨hi,rfl⟩ | ⟨hi,rfl⟩
 ·rw[u9 (by omega)]at f1
  exact s1014 _ _ (at10 i x f1).1
 ·rw[A5 (by omega),show i - as.length=0 by omega]at f1
  cases f1
  exact(s13.trans s14) _ _ e12
theorem b8K{K:Fg}{E:XK}(hB:Bag H b d)
  (k:∀p ra na H',H' p=some (.tup [.ref ra,.ref na])->M9 H' ra (a0e 399)->A9 H' na (a0e 399)->Bag H' b d->w4 b H H'->Q (.ref p) H'):a4Y K [.ref b] H Q E:=by
 have rl:(a0e 399).length=400:=a2b
 refine⟨rfl,?_⟩
 unfold b4m
 nofun
 exists b1Q hB fun sa H1 N1 B1 k1 _=>?_
 nofun
 exists b4I B1 N1 fun dd H2 d2 hdd B2 k2=>?_
 exists C3 (by simp) fun pl H3 hpl e3 s3=>?_
 have e3:H3 pl=some (.lst ([dd].map V.ref)):=e3
 have P3:a9t H3 pl:=⟨[dd],e3,by simp,by simp,fun p hp=>by rw[j3.mp hp];exact d2.ts (o6.ts s3)⟩
 have B3:=B2.same s3
 have N3:=(N1.kept B1 k2).1.same s3
 have k3:w4 b H H3:=(k1.trans k2).trans (w4.of_same s3)
 nofun
 specialize O5 (Y5 ?_)
 refine⟨5,rfl,by decide,by decide,fun D hD=>?_⟩
 obtain⟨nb,nc⟩:=B3.nb hD
 refine a0L (n:=5) (fun i ys H7=>∃ps:List Addr,ys=ps.map V.ref/\ps.length=i/\(∀p∈ps,a8U H7 (.ref p) false)/\H7 D=some (.lst ys)/\Bag H7 b d/\w4 b H3 H7) ?_ ?_ ?_ ?_
 ·exact⟨[],rfl,rfl,by simp,c5,B3.new hD,w4.new hD⟩
 ·rintro i ys H7 ⟨_,_,_,_,h,_⟩
  exact h
 ·rintro i ys H7 hi ⟨ps,rfl,lp,hp,hD7,B7,k7⟩ R hR
  obtain⟨N7,_⟩:=N3.kept B3 k7
  have P7:=P3.kept B3 k7
  ext
  refine b7B (m:=1) B7 N7 P7 fun v H8 r8 B8 k8=>?_
  obtain⟨pv,xv,rfl,_⟩:=id r8
  have hD8:=k8.1 _ _ hD7 nb
  refine hR _ _ hD8 (E8 (by rw[a9];omega)) ⟨ps++[pv],by simp,by simp[lp],fun q hq=>?_,c5,B8.put nb nc,(k7.trans k8).put hD⟩
  rcases l7.mp hq with z | z
  ·exact((hp q z).ts (w4.ts k8 B7)).ts (Q9.put hD8)
  ·rw[j3.mp z];exact r8.ts (Q9.put hD8)
 rintro ys H7 ⟨ps,rfl,lp,hp,hD7,B7,k7⟩
 ext
 specialize O5 (Y5 ?_)
 refine⟨400,rfl,by decide,by decide,fun R' hR'=>?_⟩
 refine a0L (n:=400) (fun i ys H8=>∃rs:List Addr,ys=rs.map V.ref/\rs.length=i/\(∀p∈rs,p∈ps)/\H8 R'=some (.lst ys)/\o6 H7 H8) ?_ ?_ ?_ ?_
 ·exact⟨[],rfl,rfl,by simp,c5,o5 hR'⟩
 ·rintro i ys H8 ⟨_,_,_,_,h,_⟩
  exact h
 ·rintro i ys H8 hi ⟨rs,rfl,lr,hr,hR8,s8⟩ R hR
  rw[S0]
  ext
  refine a0t (by decide) ?_
  obtain⟨q,hq⟩:∃q,ps[i % 5]? = some q:=⟨_,c6 (by omega)⟩
  have a1:atI (ps.map V.ref) ((i:Int) % 5)=some (.ref q):=by
   rw[show((i:Int) % 5)=((i % 5:Nat):Int) by omega]
   exact U9 (by rw[b7,hq];rfl)
  refine F8 (s8 _ _ hD7) a1 ?_
  refine hR _ _ hR8 (E8 (by rw[a9];omega)) ⟨rs++[q],by simp,by simp[lr],fun z hz=>?_,c5,fun y o e=>?_⟩
  ·rcases l7.mp hz with z' | z'
   ·exact hr z z'
   ·rw[j3.mp z'];exact mI hq
  ·rw[c9 (c4 e hR')];exact s8 _ _ e
 rintro ys H8 ⟨rs,rfl,lr,hr,hR8,s8⟩
 ext
 exists b5Y (m:=399) (by decide) (fun _ R H' h=>h) fun na H9 hna T9 s9=>?_
 refine C3 (by simp) fun p H10 hp10 e10 s10=>?_
 have s710:=(s8.trans s9).trans s10
 refine k p R' na H10 e10 ⟨rs,(s9.trans s10) _ _ hR8,by rw[lr,rl],fun i x l f1 f2=>?_⟩ (T9.same s10) (B7.same s710) ((k3.trans k7).trans (w4.of_same s710))
 have hl:(l.length == 2)=false:=by rcases a1F f2 with ⟨_,rfl⟩ | ⟨_,rfl⟩ <;> rfl
 rw[hl]
 exact(hp x (hr x (mI f1))).ts (o6.ts s710)
structure Dat where
 p:Addr
 ra:Addr
 na:Addr
 N:List (List Nat)
 rs:List Addr
 Ws:List (List V)
structure Dw(H:Hp)(x:Dat):Prop where
 t:H x.p=some (.tup [.ref x.ra,.ref x.na])
 R:M9 H x.ra x.N
 r:H x.ra=some (.lst (x.rs.map V.ref))
 W:X7 H x.rs x.Ws
 ak:c1b x.Ws x.N
 lr:x.rs.length=x.N.length
 n:A9 H x.na x.N
 v:a0g x.N
section
variable {K:Fg}{c:Cn}{L p1 p2:Addr}{x:Dat}{E:XK}
theorem b8D(t:H p=some (.tup [.ref ra,.ref na]))(R:M9 H ra N)(n:A9 H na N)(v:a0g N):∃x:Dat,x.p=p/\x.N=N/\Dw H x:=by
 obtain⟨rs,r1,r2,r3⟩:=id R.ex
 obtain⟨Ws,W⟩:=b1B (H:=H) (rs:=rs) fun q hq=>by
  obtain⟨i,hi⟩:=L5.mp hq
  have h1:=(gI hi)
  exact⟨_,r3 i q _ hi (c6 (by omega))⟩
 exact⟨⟨p,ra,na,N,rs,Ws⟩,rfl,rfl,t,R,r1,W,(c0T R r1 W).2,r2,n,v⟩
theorem Dw.same(h:Dw H x)(s:o6 H H'):Dw H' x:=⟨s _ _ h.t,h.R.same s,s _ _ h.r,h.W.ts (o6.ts s),h.ak,h.lr,h.n.same s,h.v⟩
theorem Dw.kept(h:Dw H x)(hB:Bag H b d)(k:w4 b H H'):Dw H' x:=⟨w4.ts k hB _ _ h.t,h.R.kept hB k,k.1 _ _ h.r (a3G hB h.r),h.W.ts (w4.ts k hB),h.ak,h.lr,h.n.kept hB h.v.two k,h.v⟩
theorem Dw.put(h:Dw H x)(hL:H L=some (.lst [.ref p1,.ref p2]))(hn:2<x.N.length):Dw (upd H L o) x:=by
 have ts:Q9 H (upd H L o):=Q9.put hL
 have far:∀ {q:Addr} {zs:List V},H q=some (.lst zs)->zs.length≠2->upd H L o q=some (.lst zs):=fun {q zs} e z=>by
  rw[c9 (fun u=>by
   subst u
   rw[hL]at e
   cases e
   exact z rfl)]
  exact e
 obtain⟨rs,r1,r2,r3⟩:=h.R.ex
 obtain⟨as,n1,n2,n3⟩:=h.n.ex
 refine⟨ts _ _ h.t,⟨rs,far r1 (by rw[a9];omega),r2,fun i y l e1 e2=>(r3 i y l e1 e2).ts ts⟩,far h.r (by rw[a9];have:=h.lr;omega),h.W.ts ts,h.ak,h.lr,⟨as,far n1 (by rw[a9];omega),n2,fun i y l e1 e2=>?_⟩,h.v⟩
 have e:=n3 i y l e1 e2
 rw[c9 (fun u=>by
  subst u
  rw[hL]at e
  unfold IL at e
  match l with
  | []=>cases e
  | a::r=>cases e)]
 exact e
end
theorem law_reading(K:Fg)(hl:ns.length<=63)(hO:c0Y H)(hS:SqL K H a (ns.map V.int)):a7K K [.ref a] H (fun v _=>v=.bl true) (fun _ _ _=>False):=by
 refine⟨rfl,fun c ck=>?_⟩
 unfold b7a
 nofun
 exists c3s hS hl fun b d H1 B1 s1 _=>?_
 nofun
 refine b2d B1 fun p1 r1 n1 N1 H2 e2 R2 T2 v1 l1 B2 k2=>?_
 obtain⟨x1,rfl,_,D1⟩:=b8D e2 R2 T2 v1
 ext
 refine b2d B2 fun p2 r2 n2 N2 H3 e3 R3 T3 v2 l2 B3 k3=>?_
 obtain⟨x2,rfl,_,D2⟩:=b8D e3 R3 T3 v2
 have D1:=D1.kept B2 k3
 ext
 exists C3 (by simp) fun L H4 hL e4 s4=>?_
 obtain⟨nLb,nLd⟩:=B3.nb hL
 exact_mod_cast X5 (P:=fun σ Hi=>∃x:Dat,σ=[some (.ref a),some (.ref b),some (.ref L),none,none,none,none,none,none,none]/\Hi L=some (.lst [.ref x.p,.ref x2.p])/\Dw Hi x/\Dw Hi x2) ?_ ?_
 rotate_left
 ·intro nx hnx
  ext
  have B4:=B3.same s4
  exists F1 B4 (by decide) (by decide) fun n5 H5 a0 a1 B5 k5=>?_
  have k35:w4 b H3 H5:=(w4.of_same s4).trans k5
  have e5:=k5.1 _ _ e4 nLb
  refine a0p (fun _=>?_) (fun _=>?_)
  ·ext
   refine b8K B5 fun p6 r6 n6 H6 e6 R6 T6 B6 k6=>?_
   obtain⟨x6,rfl,eN,D6⟩:=b8D e6 R6 T6 (b2i (by decide))
   ext
   have eL6:=k6.1 _ _ e5 nLb
   refine(show a6J (.ref L) (.int 0) (.ref x6.p) H6 _ from ?_)
   unfold a6J
   simp only[eL6]
   refine⟨0,rfl,?_⟩
   exact hnx _ _ ⟨x6,rfl,c5,D6.put eL6 (by rw[eN,a2b];decide),D2.kept B3 ((k35.trans k6).put hL)⟩
  ·ext
   exact hnx _ _ ⟨x1,rfl,e5,D1.kept B3 k35,D2.kept B3 k35⟩
 rintro _ H5 ⟨x,rfl,e5,Da,Db⟩
 obtain⟨Ds,hDs⟩:∃Ds:List Dat,Ds=[x,x2]:=⟨_,rfl⟩
 have lD:Ds.length=2:=by rw[hDs];rfl
 have eL:H5 L=some (.lst (Ds.map fun z=>V.ref z.p)):=by rw[hDs];exact e5
 have hD:∀z∈Ds,Dw H5 z:=fun z hz=>by
  rw[hDs]at hz
  simp only[c7,g7,or_false]at hz
  rcases hz with rfl | rfl
  ·exact Da
  ·exact Db
 clear hDs e5 Da Db D1 D2 e4 e3 e2
 exact_mod_cast a0r ?_
 refine c1J ?_
 specialize a7c (U6 ?_)
 refine⟨L,rfl,⟨_,SqL.of eL⟩,fun D hDn=>?_⟩
 refine b0r 2 (fun i ys H6=>∃zs:List Addr,ys=zs.map V.ref/\zs.length=i/\(∀(j:Nat) y z,zs[j]? = some y->Ds[j]? = some z->∃Z:Addr->Prop,Z D/\a6C K c Z z.rs H6 y z.N)/\H6 D=some (.lst ys)/\o6 H5 H6) ?_ ?_ ?_ ?_ ?_
 ·exact⟨[],rfl,rfl,by simp,c5,o5 hDn⟩
 ·rintro i ys H6 ⟨_,_,_,_,h,_⟩
  exact h
 rotate_left
 ·rintro i ys H6 hi ⟨zs,rfl,lz,at6,hD6,s6⟩
  exact⟨_,_,SqL.of (s6 _ _ eL),by rw[b7,c6 (show i<Ds.length by omega)];rfl⟩
 ·rintro i ys H6 hi ⟨zs,rfl,lz,at6,hD6,s6⟩ v H7 ⟨rfl,hv⟩
  obtain⟨z,hz⟩:∃z,Ds[i]? = some z:=⟨_,c6 (by omega)⟩
  have hv:=hv _ (SqL.of (s6 _ _ eL))
  rw[b7,hz]at hv
  cases hv
  have Dz:=(hD z (mI hz)).same s6
  exists ⟨z.p,_,_,rfl,SqT.of Dz.t,fun R S' hR hS'=>?_⟩
  refine a6N ?_
  specialize b7q ?_
  intro y dy hy hdy hne
  have sm:o6 H7 (upd (upd H7 dy (.own y)) y (.ins c.K7 dy [])):=fun b o e=>by
   rw[c9 (c4 e hy),c9 (c4 e hdy)];exact e
  have Dm:=Dz.same sm
  refine a5h ck Dm.r Dm.R Dm.n Dm.v c5 fun H8 pz old=>⟨rfl,?_⟩
  have s78:o6 H7 H8:=fun b o e=>old b o (sm b o e) (c4 e hy)
  have hD8:=s78 _ _ hD6
  refine hR _ _ hD8 (E8 (by rw[a9];omega)) ⟨zs++[y],by simp,by simp[lz],fun j u w g1 g2=>?_,c5,fun q o e=>?_⟩
  ·rcases W9 g1 with ⟨_,k1⟩ | ⟨i1,k1⟩
   ·obtain⟨Z,z1,z2⟩:=at6 j u w k1 g2
    exact⟨Z,z1,(z2.same s78).put z1 hD8⟩
   ·subst k1
    rw[i1,lz,hz]at g2
    cases g2
    have hZ:∃o,upd (upd H7 dy (.own u)) u (.ins c.K7 dy []) D=some o/\D≠u:=⟨_,sm _ _ hD6,c4 hD6 hy⟩
    exact⟨_,hZ,pz.put hZ hD8⟩
  ·rw[c9 (c4 e hDn)];exact s78 _ _ (s6 _ _ e)
 rintro ys H6 ⟨zs,rfl,lz,at6,hD6,s6⟩
 exists ⟨⟨_,SqL.of (s6 _ _ eL),by rw[a9];omega⟩,?_⟩
 have hPl:∀(j:Nat) y z,zs[j]? = some y->Ds[j]? = some z->PlF c H6 y z.rs z.N:=fun j y z g1 g2=>by
  obtain⟨Z,_,pz⟩:=at6 j y z g1 g2
  obtain⟨dx,r,n,e,es,ns,q1,⟨_,q2⟩,q3,q4,q5,_⟩:=pz.ex
  exact⟨dx,r,n,e,q1,q2,ns,q3,q4,q5⟩
 exact_mod_cast a0r ?_
 specialize a0s (a6Y ?_)
 refine C3 (by simp) fun T H7 hT eT s7=>?_
 have s57:=s6.trans s7
 refine⟨T,rfl,⟨_,SqT.of eT⟩,b0o (xs:=[.int 0,.int 1,.int 0]) (fun i σ H8=>∃y4 y5 y6 y7 y8 y9,σ=[some (.ref a),some (.ref b),some (.ref L),some (.ref D),y4,y5,y6,y7,y8,y9]/\o6 H7 H8) ⟨_,_,_,_,_,_,rfl,fun _ _ e=>e⟩ ?_ ?_ ?_⟩
 ·rintro i σ H8 _ ⟨_,_,_,_,_,_,_,s8⟩
  exact SqT.of (s8 _ _ eT)
 ·rintro i v _ H8 hv ⟨y4,y5,y6,y7,y8,y9,rfl,s8⟩
  obtain⟨t,rfl,ht⟩:∃t:Nat,v=.int (t:Int)/\t<2:=by
   have m:=mI hv
   simp only[c7,g7,or_false]at m
   rcases m with rfl | rfl | rfl
   ·exact⟨0,rfl,by decide⟩
   ·exact⟨1,rfl,by decide⟩
   ·exact⟨0,rfl,by decide⟩
  obtain⟨z,hz⟩:∃z,Ds[t]? = some z:=⟨_,c6 (by omega)⟩
  obtain⟨y,hy⟩:∃y,zs[t]? = some y:=⟨_,c6 (by omega)⟩
  have s58:=s57.trans s8
  have s68:=s7.trans s8
  have Z8:=(hD z (mI hz)).same s58
  have P8:=(hPl t y z hy hz).same s68
  have a1:atI (Ds.map fun z=>V.ref z.p) (t:Int)=some (.ref z.p):=U9 (by rw[b7,hz];rfl)
  have a2:atI (zs.map V.ref) (t:Int)=some (.ref y):=U9 (by rw[b7,hy];rfl)
  ext
  nofun
  refine F8 (s58 _ _ eL) a1 ?_
  refine a7a (SqT.of Z8.t) ?_
  nofun
  exists b9n Z8.r Z8.lr Z8.W Z8.n Z8.v fun H9 s9=>?_
  nofun
  exists F8 (s9 _ _ (s68 _ _ hD6)) a2 ?_
  exists a7N ck (P8.same s9) Z8.lr (Z8.W.ts (o6.ts s9)) Z8.v fun H10 s10=>?_
  nofun
  exists a1z (s := "str") rfl (by decide) ?_
  exists A8 (by decide) ?_
  exists A8 (by simp) ?_
  have s8a:=s9.trans s10
  nofun
  exists b9E ck (Z8.W.ts (o6.ts s8a)) Z8.lr Z8.ak Z8.v fun w H11 rs' P11 l11 W11 s11=>?_
  have Z11:=(Z8.same s8a).same s11
  exists b8P ck P11 W11 Z11.W Z11.r Z11.n ?_
  exists A8 (by decide) ?_
  exists a7N ck P11 l11 W11 Z8.v fun H12 s12=>?_
  exists A8 (by simp) ?_
  exact⟨_,_,_,_,_,_,rfl,((s8.trans s8a).trans s11).trans s12⟩
 rintro _ H8 ⟨y4,y5,y6,y7,y8,y9,rfl,s8⟩
 ext
 rfl
end RD
set_option maxHeartbeats 0
namespace PR
open PySem L2 RD Y
abbrev c5G:Str:="__init__"
abbrev c5H:Str:="_law_script"
abbrev c5I:Str:="_law_bag"
abbrev c5J:Str:="_law_bag_here"
abbrev c5K:Str:="_law_many"
abbrev c5L:Str:="_law_take"
abbrev c5M:Str:="_law_nexts"
abbrev c5N:Str:="_law_k"
abbrev c5O:Str:="_law_some"
abbrev c5P:Str:="_law_net"
abbrev c5Q:Str:="_law_good"
abbrev c5R:Str:="_law_turn"
abbrev c5S:Str:="_law_reached"
abbrev c5T:Str:="_law_one"
abbrev c5U:Str:="_law_order"
abbrev c5V:Str:="_law_mended"
abbrev c5W:Str:="_law_name"
abbrev c5X:Str:="_law_names_here"
abbrev c5Y:Str:="_law_names"
abbrev c5Z:Str:="_law_value"
abbrev c6a:Str:="_law_operand"
abbrev c6b:Str:="_law_deed"
abbrev c6c:Str:="_law_pool"
abbrev c6d:Str:="_law_row"
abbrev c6e:Str:="_law_drawn"
abbrev c6f:Str:="_law_chain"
abbrev c6g:Str:="_law_row_here"
abbrev c6h:Str:="_law_line"
abbrev c6i:Str:="_law_rows"
abbrev c6j:Str:="_law_text"
abbrev c6k:Str:="words_of"
abbrev c6l:Str:="following"
abbrev c6m:Str:="shown_place"
abbrev c6n:Str:="thing_of"
abbrev c6o:Str:="things"
abbrev c6p:Str:="check_length"
abbrev c6q:Str:="thing"
abbrev c6r:Str:="is_whole"
abbrev c6s:Str:="is_value"
abbrev c6t:Str:="is_operand"
abbrev c6u:Str:="check_each"
abbrev c6v:Str:="is_below"
abbrev c6w:Str:="place"
abbrev c6x:Str:="are_nexts"
abbrev c6y:Str:="rows"
abbrev c6z:Str:="nexts"
abbrev c6A:Str:="check_nexts"
abbrev c6B:Str:="stops_of"
abbrev c6C:Str:="check_ways"
abbrev c6D:Str:="steps_of"
abbrev c6E:Str:="_law_alike"
section
def top(i:Nat):Stmt:=PySem.Challenge.pw_oncedone_k91_texts_read_again.main.body.getD i (.Pass ⟨0,0,0,0⟩)
abbrev b4s:Stmt:=top 44
abbrev b2U:Stmt:=top 45
abbrev b7p:Stmt:=top 52
abbrev a1X:Stmt:=top 53
abbrev a9Q:Stmt:=top 46
abbrev a9P:Stmt:=top 47
abbrev a9N:Stmt:=top 48
abbrev a5O:Stmt:=top 49
abbrev b2Z:Stmt:=top 50
abbrev b7n:Stmt:=top 51
abbrev a5b:Stmt:=top 54
abbrev a1x:Stmt:=top 57
abbrev a9R:Stmt:=top 55
abbrev a9O:Stmt:=top 56
abbrev a4m:Stmt:=top 36
abbrev a0D:Stmt:=top 37
abbrev a6X:Stmt:=top 38
abbrev a2o:Stmt:=top 39
abbrev a7Q:Stmt:=top 40
abbrev a1g:Stmt:=top 23
abbrev a3F:Stmt:=top 16
abbrev a4n:Stmt:=top 14
abbrev a4o:Stmt:=top 15
abbrev a2r:Stmt:=top 17
abbrev a5P:Stmt:=top 18
abbrev a7R:Stmt:=top 19
abbrev a2t:Stmt:=top 24
abbrev a4p:Stmt:=top 22
abbrev a1y:Stmt:=top 27
abbrev a0E:Stmt:=top 28
abbrev a5N:Stmt:=top 31
abbrev a5a:Stmt:=top 30
abbrev a2p:Stmt:=top 29
abbrev a2s:Stmt:=top 32
abbrev a2q:Stmt:=top 33
abbrev a0O:Stmt:=Q2 (top 34) 2
abbrev Y8:Stmt:=Q2 (top 34) 0
abbrev a3E:Stmt:=top 41
abbrev b2W:Stmt:=top 42
abbrev a9S:Stmt:=top 58
abbrev b1y:Stmt:=top 59
structure Txt(K:Fg)(mg:Str->Option Value)(c:Cn):Prop where
 c5c:mg "abs" = none
 b9a:mg "all" = none
 c5b:mg "any" = none
 b8Z:mg "bool" = none
 a1J:mg "enumerate" = none
 c1y:mg "int" = none
 F0:mg "isinstance" = none
 L1:mg "len" = none
 a4F:mg "list" = none
 c5a:mg "min" = none
 T4:mg "range" = none
 b8Y:mg "sorted" = none
 a3u:mg "str" = none
 a5A:mg "tuple" = none
 c1x:mg "zip" = none
 b4W:∃u,mg "BOUND" = some u/\C1 (.int 1000000000000) u
 b0N:∃u,mg "DEED_KINDS" = some u/\C1 (.ref c.a2K) u
 a9y:∃u,mg "FIGURES" = some u/\C1 (.str "0123456789") u
 a5z:∃u,mg "FIRST_STEP" = some u/\C1 (.ref c.a0m) u
 a9x:∃u,mg "LETTERS" = some u/\C1 (.str "abcdefghijklmnopqrstuvwxyz") u
 a8C:∃u,mg "LONGEST_NAME" = some u/\C1 (.int 8) u
 c3H:∃u,mg "MOST" = some u/\C1 (.int 400) u
 c3G:∃u,mg "Plan" = some u/\C1 (.ref c.K7) u
abbrev scF(ns:List (Str×a3V)):Scope:={ kind:=.function,names:=ns,isGenerator:=false,isCoroutine:=false,more:=[] }
local macro_rules | `(tactic| walk_at "c0") => `(tactic| exact ⟨rfl, by decide +kernel, by decide +kernel, rfl, by decide +kernel, by decide +kernel, rfl, by decide +kernel⟩)
local macro_rules | `(tactic| walk_at "c1") => `(tactic| exact ⟨rfl, by decide +kernel, by decide +kernel, rfl, b4G (by decide +kernel), by decide +kernel, rfl, by decide +kernel⟩)
local macro_rules | `(tactic| walk_at "c2") => `(tactic| exact ⟨rfl, by decide +kernel, by decide +kernel, rfl, rfl, by decide +kernel, by decide +kernel, rfl, rfl, by decide +kernel⟩)
local macro_rules | `(tactic| walk_at "c3") => `(tactic| exact ⟨rfl, by decide +kernel, by decide +kernel, rfl, rfl, b4G (by decide +kernel), by decide +kernel, rfl, rfl, by decide +kernel⟩)
def b8T(f:List Value->Prop):List Str->Prop
 | []=>f []
 | _::r=>∀u,b8T (fun us=>f (u::us)) r
theorem b8T.mp:∀ {ps:List Str} {f:List Value->Prop},b8T f ps->∀us,us.length=ps.length->f us
 | [],_,h,[],_=>h
 | _::_,_,h,u::us,e=>b8T.mp (h u) us (Nat.succ.inj e)
section
variable {P:v0}{w:World}{K:Fg}{mg:Str->Option Value}{base h:Heap}{c:Cn}{f C:Addr}{fd:V2}{x q:Str}{st:Stmt}{N ps:List Str}{k:Nat}{t:TS}{pm cd:Value}{sp:Sp}
open PySem.Spec PyProof.Rows in
theorem fk(F:Fun K x q st f fd)(S:u0 N ps (d3 st))(b:∀cdv A outer s H E,O0 k (A.deeper (b0T q (d3 st) s.heap.objs.size f cdv))->N.Nodup->a7r (b2g CX0 P w K mg base N q (d3 st) f cdv A outer s H E).nox (a0d st) t):J0 P w K mg base CX0 (k+1) f fd ps (spD ps.length N.length t):=
 b1a F S (fun _ _ _ _ h=>h.1) fun cdv A outer s H _ _ E hr h=>⟨t,b cdv A outer s H E hr S.nd,h.2⟩
abbrev fdM(x q:Str)(st:Stmt)(pm cd:Value):V2:=X0 x q (a1E st) (a0d st) (d3 st) .none .none .none pm none cd .none
structure FnI(K:Fg)(x q:Str)(st:Stmt)(f:Addr)(pm cd:Value):Prop where
 l:K.lookup f=some ⟨.type "function",none,.func (fdM x q st pm cd),#[]⟩
 c:a3Q K cd q=true
 k:O6 K (.ref f)=true
structure FnG(K:Fg)(x:Str)(st:Stmt)(f:Addr)(pm cd:Value):Prop where
 i:FnI K x x st f pm cd
 a:t9 K o3 x=some (some (.ref f))
structure FnM(K:Fg)(C:Addr)(x q:Str)(st:Stmt)(f:Addr)(pm cd:Value):Prop where
 i:FnI K x q st f pm cd
 a:z6 K (.ref C) x=some (some (.ref f))
 n:a6p K (.ref f)=true
theorem FnI.F(h:FnI K x q st f pm cd):Fun K x q st f (fdM x q st pm cd):=c3o h.l h.c h.k
abbrev BdA(x q:Str)(st:Stmt)(ps:List Str):Prop:=∀(kV doc pm:Value) (an:Option Addr) (cdv ct:Value),b8T (fun us=>bindArgs (X0 x q (a1E st) (a0d st) (d3 st) .none kV doc pm an cdv ct) ⟨us,[]⟩=pure (ps.zip us)) ps
theorem mkC(X:K.In h)(G:h.Ns o3 mg)(g:FnG K x st f pm cd)(O:J0 P w K mg base CX0 k f (fdM x x st pm cd) ps sp)(B:BdA x x st ps):C2 P w K mg base k x ps sp:=b6c g.i.F O (L8 X G g.a) (g.i.F.binds fun _ _ _ _ _ _ us hl=>(B _ _ _ _ _ _).mp us hl)
theorem mkM(g:FnM K C x q st f pm cd)(cl:Cls K C)(O:J0 P w K mg base CX0 k f (fdM x q st pm cd) ps sp)(B:BdA x q st ps):a7i P w K mg base k x C ps sp:=⟨_,_,O,cl,⟨g.a,g.n,g.i.k⟩,g.i.F.binds fun _ _ _ _ _ _ us hl=>(B _ _ _ _ _ _).mp us hl⟩
theorem mkK{y:Str}(X:K.In h)(G:h.Ns o3 mg)(g:FnM K C c5G q st f pm cd)(y1:t9 K o3 y=some (some (.ref C)))(m:a2S K C=true)(kc:O6 K (.ref C)=true)(O:J0 P w K mg base CX0 k f (fdM c5G q st pm cd) ps sp)(B:BdA c5G q st ps):b2s P w K mg base k y C ps sp:=⟨_,_,O,L8 X G y1,⟨m,g.a,g.n,kc⟩,g.i.F.binds fun _ _ _ _ _ _ us hl=>(B _ _ _ _ _ _).mp us hl⟩
end
section
variable {P:v0}{w:World}{K:Fg}{mg:Str->Option Value}{base:Heap}{c:Cn}{f:Addr}{fd:V2}(T:Txt K mg c)
abbrev b8e:List Str:=[c5H]
theorem c1H:u0 [c5H] b8e (d3 b4s):=by walk_at "sc"
theorem b8M:J1 [c5H] (d3 b4s) (scF [ (".0",.local),("_law_cell",.local),("abs",.globalImplicit)]) "_law_cell" := by walk_at "c0"
include T in
theorem c2W(F:Fun K c5I c5I b4s f fd):J0 P w K mg base CX0 1 f fd b8e (a9J K):=fk F c1H fun _ _ _ _ _ _ hr nd=>b9 (j5 (w6 (b4g b5 b5 b5 (E1 b8M rfl (F3 (Y3 b4X (b8 0) a0x (a0w b5))) (fun _ _ _ _ _=>A2) (fun _ _ _ _ _=>d9 b1d rfl T.c5c PyProof.Rows.boot_abs (g8 (b8 0)))))))
variable(b4O:C2 P w K mg base 1 c5I b8e (a9J K))
abbrev b3j:List Str:=[c5J,c5K]
theorem b9w:u0 [c5J,c5K,"_law_more","_law_cell","_law_value_here","_law_first","_law_second"] b3j (d3 b2U):=by walk_at "sc"
include T in
theorem c0s(F:Fun K c5L c5L b2U f fd):J0 P w K mg base CX0 1 f fd b3j (C9 K):=fk F b9w fun _ _ _ _ _ _ hr nd=>b4 (t7 (A6 (z8 hr) (o7 (b8 0) b5) b5) (b4 (p8 2 nd b5) (b4 (t7 (A6 a0I (o7 (b8 0) b5) (d9 j8 rfl T.L1 i8 (g8 (o7 (b8 0) b5)))) (b4 (p8 3 nd (o7 (o7 (b8 0) b5) (o7 (b8 0) b5))) (b4 (b4Z (b8 0) b5 b9i b5 b6L a4I) (b4 (t7 (A6 b6K (b8 3) b5) (b9 (a2Z (b8 3) (a4N (b8 0) b5 a4I))) j6) (b9 (p8 2 nd (u7 E3 (u7 W4 (b8 3) b5) b5)))))) j6) (b9 (a2Z (u7 W4 (u7 E3 (u7 a0X (o7 (b8 0) b5) b5) (b8 2)) b5) (a4N (b8 0) b5 a4I))))) j6) (b4 (t7 (A6 a1a (o7 (b8 0) b5) b5) (b4 (p8 4 nd (u7 W4 (o7 (b8 0) b5) (b8 1))) (b4 (a2Z (u7 a8Z (o7 (b8 0) b5) (b8 1)) (a4N (b8 0) b5 a4I)) (b9 (j5 (b8 4))))) j6) (b4 (p8 5 nd (u7 W4 (u7 a0X (o7 (b8 0) b5) b5) b5)) (b4 (p8 6 nd (u7 W4 (u7 a0X (b8 5) b5) b5)) (b4 (t7 (A6 a1a (b8 1) b5) (b9 (j5 (u7 W4 (u7 E3 (u7 a0X (b8 6) b5) (b8 5)) (b8 1)))) j6) (b9 (j5 (u7 W4 (u7 a8Z (b8 6) b5) (b8 1))))))))
variable(A4:C2 P w K mg base 1 c5L b3j (C9 K))
abbrev b8d:List Str:=[c5J,c5K]
theorem c1G:u0 [c5J,c5K,c5M,c5N,"_law_near",c5O,"_law_way"] b8d (d3 b7p):=by walk_at "sc"
include T A4 in
theorem c2U(F:Fun K c5P c5P b7p f fd):J0 P w K mg base CX0 2 f fd b8d (a9I K):=fk F c1G fun _ _ _ _ _ _ hr nd=>b4 (p8 2 nd (w6 O4)) (b4 (K9 PassesOwn.never rfl (E6 rfl T.T4 (g8 (b8 1))) (O2 3 nd) (b4 (p8 4 nd (d9 (b1b rfl) rfl T.c5a PyProof.Rows.boot_min (u8 (u7 E3 (b8 3) b5) (u7 a1T (b8 1) b5)))) (b4 (p8 5 nd (w6 (u8 (b8 4) (j9 A4 hr (u8 (b8 0) (b8 1)))))) (b4 (p8 6 nd (j9 A4 hr (u8 (b8 0) b5))) (b4 (t7 (A6 a0I (b8 6) b5) (b9 (p8 5 nd (w6 (u8 (o7 (b8 5) b5) (b8 4))))) j6) (b4 (t7 (A6 (z8 hr) (b8 6) b5) (b9 (p8 5 nd (w6 (u8 (o7 (b8 5) b5) (j9 A4 hr (u8 (b8 0) (b8 1))))))) j6) (b4 (t7 (P6 (U7 (P6 (a4J (A6 a1a (b8 6) b5) (a3v (A6 a0I (b8 6) b5)))) (R8 (A6 (z8 hr) (b8 1) b5)))) (b9 (p8 5 nd (w6 (g8 (b8 4))))) j6) (b4 (t7 (P6 (a4J (A6 (z8 hr) (b8 6) b5) (a3v (A6 a1a (b8 1) b5)))) (b9 (p8 5 nd (w6 (g8 (o7 (b8 5) b5))))) j6) (b4 (t7 (P6 (U7 (A6 (z8 hr) (b8 3) (u7 a1T (b8 1) b5)) (R8 (P6 (a4J (A6 (z8 hr) (b8 6) b5) (a3v (A6 (z8 hr) (j9 A4 hr (u8 (b8 0) b5)) b5))))))) (b9 (p8 5 nd (w6 O4))) j6) (b9 (J9 (L9 o8 F6 F5 S8 (b8 2) (g8 (b8 5)))))))))))))) (b9 (j5 (b8 2))))
variable(b4N:C2 P w K mg base 2 c5P b8d (a9I K))
abbrev a8a:List Str:=[c5M]
theorem b5q:u0 [c5M,c5Q,c5R,c5N,c5S,c5T,c5U] a8a (d3 a1X):=by walk_at "sc"
theorem b2o:J1 [c5M,c5Q,c5R,c5N,c5S,c5T,c5U] (d3 a1X) (scF [ (".0",.local),(c5T,.local),(c5Q,.free)]) c5T := by walk_at "c0"
theorem b2n:J1 [c5M,c5Q,c5R,c5N,c5S,c5T,c5U] (d3 a1X) (scF [ (".0",.local),(c5N,.local),("len",.globalImplicit),(c5Q,.free),(c5M,.free)]) c5N := by walk_at "c0"
theorem b2m:J1 [c5M,c5Q,c5R,c5N,c5S,c5T,c5U] (d3 a1X) (scF [ (".0",.local),(c5N,.local),(c5M,.free),(c5U,.free)]) c5N := by walk_at "c0"
theorem b2l(env:Env):J1 [c5N,c5M,c5Q,c5R,"._law_k",c5S,c5T,c5U] (a5D (scF [ (".0",.local),(c5N,.local),(c5M,.free),(c5U,.free)]) env) (scF [ (".0",.local),(c5T,.local),(c5U,.free)]) c5T := by walk_at "c1"
include T in
theorem b5F(F:Fun K c5V c5V a1X f fd):J0 P w K mg base CX0 1 f fd a8a (a3C K):=fk F b5q fun _ _ _ _ _ _ hr nd=>b4 (p8 1 nd a7n) (b4 (K9 PassesOwn.never rfl (E6 rfl T.T4 (g8 (d9 j8 rfl T.L1 i8 (g8 (b8 0))))) (O2 2 nd) (b9 (K9 PassesOwn.never rfl (E6 rfl T.T4 (g8 (d9 j8 rfl T.L1 i8 (g8 (b8 0))))) (O2 3 nd) (b9 (t7 (P6 (U7 (A6 (z8 hr) (o7 (b8 0) (b8 3)) (w6 O4)) (R8 (O1 (d9 (b1c rfl) rfl T.c5b PyProof.Rows.boot_any (g8 (E1 b2o rfl (F3 (o7 (b8 0) (b8 3))) (fun _ _ _ _ _=>A2) (fun _ _ _ _ _=>b6H hr (b8 0) (b8 2) rfl)))))))) (b9 (a5G hr (b8 1) (b8 3) U8)) j6))))) (b4 (p8 0 nd (E1 b2n rfl (E6 rfl T.T4 (g8 (d9 j8 rfl T.L1 i8 (g8 (b8 0))))) (fun _ _ _ _ _=>A2) (fun _ _ _ _ _=>a2g (b0V hr (b8 0) (b8 2) rfl) (o7 (b8 1) (b8 0)) (u7 E3 (w6 (g8 (u7 a1T (d9 j8 rfl T.L1 i8 (g8 (b8 1))) b5))) (Y3 a5F (o7 (b8 1) (b8 0)) (a0w b5) a0x))))) (b4 (p8 4 nd (b5c (b2B b5 U8 b5a))) (b4 (K9 PassesOwn.never rfl (E6 rfl T.T4 (g8 (d9 j8 rfl T.L1 i8 (g8 (b8 0))))) (O2 2 nd) (b9 (K9 PassesOwn.never rfl (E6 rfl T.T4 (g8 (d9 j8 rfl T.L1 i8 (g8 (b8 0))))) (O2 3 nd) (b9 (t7 (b0V hr (b8 3) (b8 4) rfl) (b9 (K9 PassesOwn.never rfl (F3 (o7 (b8 0) (b8 3))) (O2 5 nd) (b9 (a5G hr (b8 4) (b8 5) U8)))) j6))))) (b4 (p8 6 nd (d9 a7q rfl T.b8Y PyProof.Rows.boot_sorted (g8 (E7 (a8F rfl) rfl T.a4F J2 (g8 (b8 4)))))) (b9 (j5 (E1 b2m rfl (F3 (b8 6)) (fun _ _ _ _ _=>A2) (fun _ _ _ _ _=>E1 (b2l _) rfl (F3 (o7 (b8 1) (b8 0))) (fun _ _ _ _ _=>A2) (fun _ _ _ _ _=>L9 o8 Z1 b0O b0Z (b8 8) (g8 (b8 0))))))))))))
variable(a5p:C2 P w K mg base 1 c5V a8a (a3C K))
abbrev b3l:List Str:=[c5J]
theorem b9y:u0 [c5J,"_law_letters","_law_signs"] b3l (d3 a9Q):=by walk_at "sc"
theorem b6a:J1 [c5J,"_law_letters","_law_signs"] (d3 a9Q) (scF [ (".0",.local),(c5N,.local),(c5L,.globalImplicit),(c5J,.free),("_law_signs",.free)]) c5N := by walk_at "c0"
include T A4 in
theorem c0u(F:Fun K c5W c5W a9Q f fd):J0 P w K mg base CX0 2 f fd b3l (a6V K):=fk F b9y fun _ _ _ _ _ _ hr nd=>b4 (p8 1 nd l9) (b4 (p8 2 nd (u7 E3 (b8 1) l9)) (b9 (j5 (u7 E3 (o7 (b8 1) (j9 A4 hr (u8 (b8 0) b5))) (L9 K5 V1 V0 a1b l9 (g8 (E1 b6a rfl (E6 rfl T.T4 (g8 (j9 A4 hr (u8 (b8 0) b5)))) (fun _ _ _ _ _=>A2) (fun _ _ _ _ _=>o7 (b8 3) (j9 A4 hr (u8 (b8 1) b5))))))))))
variable(b0C:C2 P w K mg base 2 c5W b3l (a6V K))
abbrev b0a:List Str:=[c5J]
theorem b7h:u0 [c5J,"_law_menu","_law_first","_law_by",c5X,c5N,"_law_name_here"] b0a (d3 a9P):=by walk_at "sc"
include T A4 b0C in
theorem b8h(F:Fun K c5Y c5Y a9P f fd):J0 P w K mg base CX0 3 f fd b0a (a3e K):=fk F b7h fun _ _ _ _ _ _ hr nd=>b4 (p8 1 nd (w6 (E2 l9 (E2 l9 (E2 l9 (b4f l9 l9 l9 l9 l9)))))) (b4 (p8 1 nd (u7 E3 (b8 1) (w6 (E2 l9 (E2 l9 (E2 l9 (b4f l9 l9 l9 l9 l9))))))) (b4 (p8 2 nd (j9 A4 hr (u8 (b8 0) b5))) (b4 (p8 3 nd (u7 E3 b5 (u7 a0X b5 (j9 A4 hr (u8 (b8 0) b5))))) (b4 (p8 4 nd (w6 O4)) (b4 (K9 PassesOwn.never rfl (E6 rfl T.T4 (g8 (u7 E3 b5 (j9 A4 hr (u8 (b8 0) b5))))) (O2 5 nd) (b4 (p8 6 nd (o7 (b8 1) (u7 W4 (u7 E3 (b8 2) (u7 a0X (b8 5) (b8 3))) b5))) (b4 (t7 (A6 (z8 hr) (j9 A4 hr (u8 (b8 0) b5)) b5) (b9 (p8 6 nd (j9 b0C hr (g8 (b8 0))))) j6) (b9 (t7 (a0v b0Y (b8 6) (b8 4) rfl) (b9 (J9 (L9 o8 F6 F5 S8 (b8 4) (g8 (b8 6))))) j6))))) (b9 (j5 (b8 4))))))))
variable(a2E:C2 P w K mg base 3 c5Y b0a (a3e K))
abbrev a9Y:List Str:=[c5J]
theorem b7f:u0 [c5J] a9Y (d3 a9N):=by walk_at "sc"
include T A4 in
theorem b8f(F:Fun K c5Z c5Z a9N f fd):J0 P w K mg base CX0 2 f fd a9Y (a4W K):=fk F b7f fun _ _ _ _ _ _ hr nd=>b9 (j5 (o7 (w6 (b4g b5 b5 (u7 a1T (u7 a1T (u7 b5d b5 b5) b5) (j9 A4 hr (u8 (b8 0) b5))) (j9 A4 hr (u8 (b8 0) b5)))) (j9 A4 hr (u8 (b8 0) b5))))
variable(a7f:C2 P w K mg base 2 c5Z a9Y (a4W K))
abbrev a5W:List Str:=[c5J,c5X]
theorem b2Q:u0 [c5J,c5X] a5W (d3 a5O):=by walk_at "sc"
include T A4 a7f in
theorem b3r(F:Fun K c6a c6a a5O f fd):J0 P w K mg base CX0 3 f fd a5W (V7 K):=fk F b2Q fun _ _ _ _ _ _ hr nd=>b4 (t7 (A6 (z8 hr) (j9 A4 hr (u8 (b8 0) b5)) b5) (b9 (j5 (j9 a7f hr (g8 (b8 0))))) j6) (b9 (j5 (o7 (b8 1) (j9 A4 hr (u8 (b8 0) (d9 j8 rfl T.L1 i8 (g8 (b8 1))))))))
variable(U5:C2 P w K mg base 3 c6a a5W (V7 K))
abbrev b3n:List Str:=[c5J,c5X]
theorem b9A:u0 [c5J,c5X,"_law_kind",c5T,"_law_other"] b3n (d3 b2Z):=by walk_at "sc"
include T A4 U5 in
theorem c0w(F:Fun K c6b c6b b2Z f fd):J0 P w K mg base CX0 4 f fd b3n (a4X K):=fk F b9A fun _ _ _ _ _ _ hr nd=>b4 (p8 2 nd (o7 (w6 (b4f l9 l9 l9 l9 l9)) (j9 A4 hr (u8 (b8 0) b5)))) (b4 (p8 3 nd (j9 U5 hr (u8 (b8 0) (b8 1)))) (b4 (p8 4 nd (j9 U5 hr (u8 (b8 0) (b8 1)))) (b4 (t7 (A6 (z8 hr) (j9 A4 hr (u8 (b8 0) b5)) b5) (b9 (p8 4 nd (b8 3))) j6) (b9 (j5 (O3 (a4O (b8 2) (b8 3) (b8 4))))))))
variable(a4C:C2 P w K mg base 4 c6b b3n (a4X K))
abbrev b8c:List Str:=[c5J,c5X,c6c,c5K]
theorem c1F:u0 [c5J,c5X,c6c,c5K,"_law_way","_law_name_here"] b8c (d3 b7n):=by walk_at "sc"
include T A4 U5 in
theorem c2T(F:Fun K c6d c6d b7n f fd):J0 P w K mg base CX0 4 f fd b8c (a7J K):=fk F c1F fun _ _ _ _ _ _ hr nd=>b4 (t7 (A6 (z8 hr) (b8 3) b5) (b9 (j5 (O3 (u8 l9 (j9 U5 hr (u8 (b8 0) (b8 1))))))) j6) (b4 (p8 4 nd (j9 A4 hr (u8 (b8 0) b5))) (b4 (p8 5 nd (o7 (b8 1) (j9 A4 hr (u8 (b8 0) (d9 j8 rfl T.L1 i8 (g8 (b8 1))))))) (b4 (t7 (A6 a0I (b8 4) b5) (b9 (j5 (O3 (a4O l9 (b8 5) (o7 (b8 2) (j9 A4 hr (u8 (b8 0) (d9 j8 rfl T.L1 i8 (g8 (b8 2)))))))))) j6) (b4 (t7 (A6 (z8 hr) (b8 4) b5) (b9 (j5 (O3 (a4O l9 (b8 5) (j9 U5 hr (u8 (b8 0) (b8 1))))))) j6) (b4 (t7 (A6 (z8 hr) (b8 4) b5) (b9 (j5 (O3 (u8 l9 (b8 5))))) j6) (b9 (j5 (o7 (w6 (u8 (O3 (u8 l9 (j9 U5 hr (u8 (b8 0) (b8 1))))) (O3 (g8 l9)))) (j9 A4 hr (u8 (b8 0) b5))))))))))
variable(a8v:C2 P w K mg base 4 c6d b8c (a7J K))
abbrev b0b:List Str:=[c5J]
theorem b7j:u0 [c5J,c5K,c5M,c5X,c6c] b0b (d3 a5b):=by walk_at "sc"
theorem b3O:J1 [c5J,c5K,c5M,c5X,c6c] (d3 a5b) (scF [ (".0",.local),(c5N,.local),(c6b,.globalImplicit),(c5J,.free),(c5X,.free)]) c5N := by walk_at "c0"
theorem b3N:J1 [c5J,c5K,c5M,c5X,c6c] (d3 a5b) (scF [ (".0",.local),(c5O,.local),(c6d,.globalImplicit),("len",.globalImplicit),(c5J,.free),(c5X,.free),(c6c,.free)]) c5O := by walk_at "c0"
include T A4 b4N a5p a2E a4C a8v in
theorem b8i(F:Fun K c6e c6e a5b f fd):J0 P w K mg base CX0 5 f fd b0b (a3f K):=fk F b7j fun _ _ _ _ _ _ hr nd=>b4 (p8 1 nd (u7 E3 b5 (j9 A4 hr (u8 (b8 0) b5)))) (b4 (t7 (A6 (z8 hr) (j9 A4 hr (u8 (b8 0) b5)) b5) (b9 (p8 1 nd (u7 E3 b5 (j9 A4 hr (u8 (b8 0) b5))))) j6) (b4 (p8 2 nd (j9 a5p hr (g8 (j9 b4N hr (u8 (b8 0) (b8 1)))))) (b4 (p8 3 nd (j9 a2E hr (g8 (b8 0)))) (b4 (p8 4 nd (E1 b3O rfl (E6 rfl T.T4 (g8 (u7 E3 b5 (j9 A4 hr (u8 (b8 0) b5))))) (fun _ _ _ _ _=>A2) (fun _ _ _ _ _=>j9 a4C hr (u8 (b8 1) (b8 4))))) (b9 (j5 (O3 (u8 (E1 b3N rfl (F3 (b8 2)) (fun _ _ _ _ _=>A2) (fun _ _ _ _ _=>j9 a8v hr (b4g (b8 1) (b8 4) (b8 5) (d9 j8 rfl T.L1 i8 (g8 (b8 0)))))) (b8 2)))))))))
variable(a5r:C2 P w K mg base 5 c6e b0b (a3f K))
abbrev b0c:List Str:=[c5J]
theorem b7k:u0 [c5J,c5X,c6c,c5O] b0c (d3 a1x):=by walk_at "sc"
theorem b3R:J1 [c5J,c5X,c6c,c5O] (d3 a1x) (scF [ (".0",.local),(c5N,.local),(c6d,.globalImplicit),(c5J,.free),(c5X,.free),(c6c,.free)]) c5N := by walk_at "c0"
theorem b3Q:J1 [c5J,c5X,c6c,c5O] (d3 a1x) (scF [(".0",.local),(c5N,.local)]) c5N := by walk_at "c0"
theorem b3P:J1 [c5J,c5X,c6c,c5O] (d3 a1x) (scF [ (".0",.local),(c5N,.local),(c5O,.free)]) c5N := by walk_at "c0"
include T a2E a4C a8v in
theorem b8j(F:Fun K c6f c6f a1x f fd):J0 P w K mg base CX0 5 f fd b0c (a4Y K):=fk F b7k fun _ _ _ _ _ _ hr nd=>b4 (p8 1 nd (j9 a2E hr (g8 (b8 0)))) (b4 (p8 2 nd (w6 (g8 (j9 a4C hr (u8 (b8 0) (b8 1)))))) (b4 (p8 3 nd (E1 b3R rfl (E6 rfl T.T4 (g8 b5)) (fun _ _ _ _ _=>A2) (fun _ _ _ _ _=>j9 a8v hr (b4g (b8 1) (b8 2) (b8 3) b5)))) (b9 (j5 (O3 (u8 (E1 b3P rfl (E6 rfl T.T4 (g8 b5)) (fun _ _ _ _ _=>A2) (fun _ _ _ _ _=>o7 (b8 4) (u7 W4 (b8 0) b5))) (u7 E3 (E1 b3Q rfl (E6 rfl T.T4 (g8 b5)) (fun _ _ _ _ _=>A2) (fun _ _ _ _ _=>w6 (g8 (u7 E3 (b8 0) b5)))) (w6 (g8 (w6 O4))))))))))
variable(a7g:C2 P w K mg base 5 c6f b0c (a4Y K))
abbrev b3m:List Str:=[c6g,c5O]
theorem b9z:u0 [c6g,c5O,"_law_words"] b3m (d3 a9R):=by walk_at "sc"
theorem b6b:J1 [c6g,c5O,"_law_words"] (d3 a9R) (scF [ (".0",.local),("_law_part",.local),("str",.globalImplicit)]) "_law_part" := by walk_at "c0"
include T in
theorem c0v(F:Fun K c6h c6h a9R f fd):J0 P w K mg base CX0 1 f fd b3m (a6W K):=fk F b9z fun _ _ _ _ _ _ hr nd=>b4 (p8 2 nd (u7 E3 (w6 (g8 (o7 (b8 0) b5))) (E1 b6b rfl (a4L (Y3 a5F (b8 0) (a0w b5) a0x)) (fun _ _ _ _ _=>A2) (fun _ _ _ _ _=>E7 (Q0 hr) rfl T.a3u A1 (g8 (b8 0)))))) (b4 (t7 (A6 (z8 hr) (o7 (b8 0) b5) l9) (b9 (p8 2 nd (w6 (b4f l9 (o7 (b8 0) b5) (o7 (o7 (b8 0) b5) b5) (E7 (Q0 hr) rfl T.a3u A1 (g8 (o7 (o7 (b8 0) b5) b5))) (E7 (Q0 hr) rfl T.a3u A1 (g8 (o7 (o7 (b8 0) b5) b5))))))) j6) (b4 (t7 (A6 (z8 hr) (d9 j8 rfl T.L1 i8 (g8 (b8 1))) b5) (b9 (p8 2 nd (u7 E3 (b8 2) (w6 (u8 l9 (E7 (Q0 hr) rfl T.a3u A1 (g8 (o7 (b8 1) b5)))))))) j6) (b4 (t7 (A6 (z8 hr) (d9 j8 rfl T.L1 i8 (g8 (b8 1))) b5) (b9 (p8 2 nd (u7 E3 (b8 2) (w6 (a4O l9 (E7 (Q0 hr) rfl T.a3u A1 (g8 (o7 (b8 1) b5))) (E7 (Q0 hr) rfl T.a3u A1 (g8 (o7 (b8 1) b5)))))))) j6) (b9 (j5 (L9 K5 V1 V0 a1b l9 (g8 (b8 2))))))))
variable(b0D:C2 P w K mg base 1 c6h b3m (a6W K))
abbrev b3i:List Str:=[c6i,c5M]
theorem b9v:u0 [c6i,c5M] b3i (d3 a9O):=by walk_at "sc"
theorem b5Z:J1 [c6i,c5M] (d3 a9O) (scF [ (".0",.local),(c5N,.local),(c6h,.globalImplicit),(c5M,.free),(c6i,.free)]) c5N := by walk_at "c0"
include T b0D in
theorem c0r(F:Fun K c6j c6j a9O f fd):J0 P w K mg base CX0 2 f fd b3i (a6T K):=fk F b9v fun _ _ _ _ _ _ hr nd=>b9 (j5 (L9 K5 V1 V0 a1b l9 (g8 (E1 b5Z rfl (E6 rfl T.T4 (g8 (d9 j8 rfl T.L1 i8 (g8 (b8 0))))) (fun _ _ _ _ _=>A2) (fun _ _ _ _ _=>j9 b0D hr (u8 (o7 (b8 1) (b8 0)) (o7 (b8 2) (b8 0))))))))
variable(b0A:C2 P w K mg base 2 c6j b3i (a6T K))
abbrev a4s:List Str:=["row"]
theorem b1q:u0 ["row","words","part"] a4s (d3 a4m):=by walk_at "sc"
include T in
theorem b1F(F:Fun K c6k c6k a4m f fd):J0 P w K mg base CX0 1 f fd a4s (a1s K):=fk F b1q fun _ _ _ _ _ _ hr nd=>b4 (p8 1 nd (w6 O4)) (b4 (K9 PassesOwn.never rfl (a4L (b8 0)) (O2 2 nd) (b9 (J9 (L9 o8 R1 Y7 a7p (b8 1) (g8 (a2g (O1 (d9 K6 rfl T.F0 l5 (u8 (b8 2) (P4 rfl T.a5A R0 rfl)))) (b8 2) (w6 (g8 (b8 2))))))))) (b9 (j5 (b8 1))))
variable(a2A:C2 P w K mg base 1 c6k a4s (a1s K))
abbrev a1N:List Str:=["row",c6l]
theorem a7O:u0 ["row",c6l,"words"] a1N (d3 a0D):=by walk_at "sc"
theorem a6f:J1 ["row",c6l,"words"] (d3 a0D) (scF [ (".0",.local),("word",.local),("str",.globalImplicit)]) "word" := by walk_at "c0"
include T a2A in
theorem a8c(F:Fun K c6m c6m a0D f fd):J0 P w K mg base CX0 2 f fd a1N (Z9 K):=fk F a7O fun _ _ _ _ _ _ hr nd=>b4 (p8 2 nd (j9 a2A hr (g8 (b8 0)))) (b4 (t7 (A6 a1a (d9 j8 rfl T.L1 i8 (g8 (b8 1))) b5) (b4 (J9 (L9 o8 F6 F5 S8 (b8 2) (g8 l9))) (b9 (J9 (L9 o8 R1 Y7 a7p (b8 2) (g8 (b8 1)))))) j6) (b9 (j5 (L9 K5 V1 V0 a1b l9 (g8 (E1 a6f rfl (F3 (b8 2)) (fun _ _ _ _ _=>A2) (fun _ _ _ _ _=>E7 (Q0 hr) rfl T.a3u A1 (g8 (b8 0)))))))))
variable(a0F:C2 P w K mg base 2 c6m a1N (Z9 K))
abbrev a9Z:List Str:=["plan"]
theorem b7g:u0 ["plan"] a9Z (d3 a6X):=by walk_at "sc"
theorem b3M:a0i ["plan"] (d3 a6X) (scF [ (".0",.local),("row",.local),(c6l,.local),(c6m,.globalImplicit)]) "row" c6l := by walk_at "c2"
include T a0F in
theorem b8g(F:Fun K "shown" "shown" a6X f fd):J0 P w K mg base CX0 3 f fd a9Z (a1W K):=fk F b7g fun _ _ _ _ _ _ hr nd=>b9 (j5 (L9 K5 V1 V0 a1b l9 (g8 (a4h b3M rfl (b0W rfl T.c1x (u8 (a0H (b8 0)) (a0H (b8 0)))) (fun _ _ _ _ _=>A2) (fun _ _ _ _ _=>j9 a0F hr (u8 (b8 0) (b8 1)))))))
variable(a1G:C2 P w K mg base 3 "shown" a9Z (a1W K))
abbrev a4t:List Str:=["word"]
theorem b1r:u0 ["word"] a4t (d3 a2o):=by walk_at "sc"
theorem a8P:J1 ["word"] (d3 a2o) (scF [ (".0",.local),("sign",.local),("FIGURES",.globalImplicit)]) "sign" := by walk_at "c0"
include T in
theorem b1G(F:Fun K c6n c6n a2o f fd):J0 P w K mg base CX0 1 f fd a4t (a0J K):=fk F b1r fun _ _ _ _ _ _ hr nd=>b4 (t7 (P6 (a4J (a7l a0I a3b b5 (d9 j8 rfl T.L1 i8 (g8 (b8 0))) (d9 j8 rfl T.L1 i8 (g8 (E7 (Q0 hr) rfl T.a3u A1 (g8 (M0 T.b4W rfl)))))) (a3v (O1 (d9 (a3c rfl) rfl T.b9a a2f (g8 (E1 a8P rfl (b0X (b8 0)) (fun _ _ _ _ _=>A2) (fun _ _ _ _ _=>a0W a1U (b8 0) (M0 T.a9y rfl) rfl)))))))) (b9 (j5 (E7 a9D rfl T.c1y a8X (g8 (b8 0))))) j6) (b9 (j5 (b8 0)))
variable(a2B:C2 P w K mg base 1 c6n a4t (a0J K))
abbrev a7Z:List Str:=[c6o]
theorem b5p:u0 [c6o] a7Z (d3 a7Q):=by walk_at "sc"
include T in
theorem b5E(F:Fun K "row_of" "row_of" a7Q f fd):J0 P w K mg base CX0 1 f fd a7Z (a3B K):=fk F b5p fun _ _ _ _ _ _ hr nd=>b4 (t7 (A6 (z8 hr) (d9 j8 rfl T.L1 i8 (g8 (b8 0))) b5) (b9 (j5 (O3 (a4O (o7 (b8 0) b5) (o7 (b8 0) b5) (E7 a3W rfl T.a5A R0 (g8 (Y3 a5F (b8 0) (a0w b5) a0x))))))) j6) (b9 (j5 (E7 a3W rfl T.a5A R0 (g8 (b8 0)))))
variable(a5o:C2 P w K mg base 1 "row_of" a7Z (a3B K))
abbrev a1i:List Str:=[c6o,"at","least"]
theorem a6I:u0 [c6o,"at","least"] a1i (d3 a1g):=by walk_at "sc"
include T in
theorem a6L(F:Fun K c6p c6p a1g f fd):J0 P w K mg base CX0 1 f fd a1i (X8 K):=fk F a6I fun _ _ _ _ _ _ hr nd=>b4 (t7 (P6 (U7 (T5 (O1 (d9 K6 rfl T.F0 l5 (u8 (b8 0) (P4 rfl T.a4F J2 rfl))))) (R8 (A6 a0I (d9 j8 rfl T.L1 i8 (g8 (b8 0))) (b8 2))))) (b9 Y2) j6) (b9 (t7 (A6 a1a (d9 j8 rfl T.L1 i8 (g8 (b8 0))) (M0 T.c3H rfl)) (b9 Y2) j6))
variable(a0f:C2 P w K mg base 1 c6p a1i (X8 K))
abbrev a5X:List Str:=[c6q]
theorem b2R:u0 [c6q] a5X (d3 a3F):=by walk_at "sc"
theorem b0u:J1 [c6q] (d3 a3F) (scF [ (".0",.local),("sign",.local),("LETTERS",.globalImplicit),("FIGURES",.globalImplicit)]) "sign" := by walk_at "c0"
include T in
theorem b3s(F:Fun K "is_name" "is_name" a3F f fd):J0 P w K mg base CX0 1 f fd a5X (T0 K):=fk F b2R fun _ _ _ _ _ _ hr nd=>b4 (t7 (P6 (U7 (T5 (O1 (d9 K6 rfl T.F0 l5 (u8 (b8 0) (P4 rfl T.a3u A1 rfl))))) (R8 (T5 (a7l a3b a3b b5 (d9 j8 rfl T.L1 i8 (g8 (b8 0))) (M0 T.a8C rfl)))))) (b9 (j5 U8)) j6) (b9 (j5 (P9 (a0W a1U (o7 (b8 0) b5) (M0 T.a9x rfl) rfl) (T7 (d9 (a3c rfl) rfl T.b9a a2f (g8 (E1 b0u rfl (b0X (b8 0)) (fun _ _ _ _ _=>A2) (fun _ _ _ _ _=>a0W a1U (b8 0) (u7 E3 (M0 T.a9x rfl) (M0 T.a9y rfl)) rfl))))))))
variable(W6:C2 P w K mg base 1 "is_name" a5X (T0 K))
abbrev a4w:List Str:=[c6q]
theorem b1u:u0 [c6q] a4w (d3 a4n):=by walk_at "sc"
include T in
theorem b1J(F:Fun K c6r c6r a4n f fd):J0 P w K mg base CX0 1 f fd a4w (a0K K):=fk F b1u fun _ _ _ _ _ _ hr nd=>b9 (j5 (P9 (d9 K6 rfl T.F0 l5 (u8 (b8 0) (P4 rfl T.c1y a8X rfl))) (T7 (b6D (d9 K6 rfl T.F0 l5 (u8 (b8 0) (P4 rfl T.b8Z a8D rfl)))))))
variable(Y6:C2 P w K mg base 1 c6r a4w (a0K K))
abbrev a4x:List Str:=[c6q]
theorem b1v:u0 [c6q] a4x (d3 a4o):=by walk_at "sc"
include T Y6 in
theorem b1K(F:Fun K c6s c6s a4o f fd):J0 P w K mg base CX0 2 f fd a4x (a1v K):=fk F b1v fun _ _ _ _ _ _ hr nd=>b9 (j5 (P9 (j9 Y6 hr (g8 (b8 0))) (T7 (a7o a3b a0I b5 (b8 0) (M0 T.b4W rfl)))))
variable(a2F:C2 P w K mg base 2 c6s a4x (a1v K))
abbrev a2v:List Str:=[c6q]
theorem a8H:u0 [c6q] a2v (d3 a2r):=by walk_at "sc"
include T W6 a2F in
theorem a8K(F:Fun K c6t c6t a2r f fd):J0 P w K mg base CX0 3 f fd a2v (Q7 K):=fk F a8H fun _ _ _ _ _ _ hr nd=>b9 (j5 (b9f (j9 W6 hr (g8 (b8 0))) (T7 (j9 a2F hr (g8 (b8 0))))))
variable(M6:C2 P w K mg base 3 c6t a2v (Q7 K))
abbrev a5Y:List Str:=[c6q]
theorem b2S:u0 [c6q] a5Y (d3 a5P):=by walk_at "sc"
include T M6 in
theorem b3t(F:Fun K "is_deed" "is_deed" a5P f fd):J0 P w K mg base CX0 4 f fd a5Y (a2n K c):=fk F b2S fun _ _ _ _ _ _ hr nd=>b4 (t7 (P6 (U7 (T5 (O1 (d9 K6 rfl T.F0 l5 (u8 (b8 0) (P4 rfl T.a5A R0 rfl))))) (R8 (A6 (a3a hr) (d9 j8 rfl T.L1 i8 (g8 (b8 0))) b5)))) (b9 (j5 U8)) j6) (b9 (j5 (P9 (a0W b5e (o7 (b8 0) b5) (M0 T.b0N rfl) rfl) (P9 (j9 M6 hr (g8 (o7 (b8 0) b5))) (T7 (j9 M6 hr (g8 (o7 (b8 0) b5))))))))
variable(a3M:C2 P w K mg base 4 "is_deed" a5Y (a2n K c))
abbrev a8b:List Str:=[c6q]
theorem b5r:u0 [c6q,"kind","rest"] a8b (d3 a7R):=by walk_at "sc"
include T W6 M6 a3M in
theorem b5G(F:Fun K "is_row" "is_row" a7R f fd):J0 P w K mg base CX0 5 f fd a8b (a3D K c):=fk F b5r fun _ _ _ _ _ _ hr nd=>b4 (t7 (P6 (U7 (T5 (O1 (d9 K6 rfl T.F0 l5 (u8 (b8 0) (P4 rfl T.a5A R0 rfl))))) (R8 (A6 (z8 hr) (d9 j8 rfl T.L1 i8 (g8 (b8 0))) b5)))) (b9 (j5 U8)) j6) (b4 (p8 1 nd (o7 (b8 0) b5)) (b4 (p8 2 nd (Y3 a5F (b8 0) (a0w b5) a0x)) (b4 (t7 (A6 (z8 hr) (b8 1) l9) (b9 (j5 (P9 (a5H (z8 hr) (d9 j8 rfl T.L1 i8 (g8 (b8 2))) b5) (P9 (j9 W6 hr (g8 (o7 (b8 2) b5))) (T7 (j9 a3M hr (g8 (o7 (b8 2) b5)))))))) j6) (b4 (t7 (A6 (z8 hr) (b8 1) l9) (b9 (j5 (P9 (a5H (z8 hr) (d9 j8 rfl T.L1 i8 (g8 (b8 2))) b5) (P9 (j9 W6 hr (g8 (o7 (b8 2) b5))) (T7 (j9 M6 hr (g8 (o7 (b8 2) b5)))))))) j6) (b4 (t7 (A6 (z8 hr) (b8 1) l9) (b9 (j5 (P9 (a5H (z8 hr) (d9 j8 rfl T.L1 i8 (g8 (b8 2))) b5) (T7 (j9 W6 hr (g8 (o7 (b8 2) b5))))))) j6) (b4 (t7 (a0v a1U (b8 1) (O3 (u8 l9 l9)) rfl) (b9 (j5 (P9 (a5H (z8 hr) (d9 j8 rfl T.L1 i8 (g8 (b8 2))) b5) (T7 (j9 M6 hr (g8 (o7 (b8 2) b5))))))) j6) (b9 (j5 (P9 (a5H (z8 hr) (b8 1) l9) (T7 (a5H (z8 hr) (d9 j8 rfl T.L1 i8 (g8 (b8 2))) b5)))))))))))
variable(a5q:C2 P w K mg base 5 "is_row" a8b (a3D K c))
abbrev a2x:List Str:=["rights"]
theorem a8J:u0 ["rights","k","right"] a2x (d3 a2t):=by walk_at "sc"
include T in
theorem a8M(F:Fun K c6u c6u a2t f fd):J0 P w K mg base CX0 1 f fd a2x (X4 K):=fk F a8J fun _ _ _ _ _ _ hr nd=>b9 (K9 PassesOwn.never rfl (a3w rfl T.a1J (g8 (b8 0))) (a4M rfl (V6 (O2 1 nd) (V6 (O2 2 nd) a3x))) (b9 (t7 (T5 (O1 (b8 2))) (b9 Y2) j6)))
variable(T1:C2 P w K mg base 1 c6u a2x (X4 K))
abbrev a4y:List Str:=[c6q,"many"]
theorem b1w:u0 [c6q,"many"] a4y (d3 a4p):=by walk_at "sc"
include T Y6 in
theorem b1L(F:Fun K c6v c6v a4p f fd):J0 P w K mg base CX0 2 f fd a4y (a1w K):=fk F b1w fun _ _ _ _ _ _ hr nd=>b9 (j5 (P9 (j9 Y6 hr (g8 (b8 0))) (T7 (a7o a3b a0I b5 (b8 0) (b8 1)))))
variable(a2G:C2 P w K mg base 2 c6v a4y (a1w K))
abbrev a3j:List Str:=["row",c6l,"many"]
theorem a9L:u0 ["row",c6l,"many","wanted"] a3j (d3 a1y):=by walk_at "sc"
theorem a8q:J1 ["row",c6l,"many","wanted"] (d3 a1y) (scF [ (".0",.local),(c6w,.local),(c6v,.globalImplicit),("many",.free)]) c6w := by walk_at "c0"
include T a2G in
theorem b0g(F:Fun K c6x c6x a1y f fd):J0 P w K mg base CX0 3 f fd a3j (a0U K):=fk F a9L fun _ _ _ _ _ _ hr nd=>b4 (t7 (T5 (O1 (d9 K6 rfl T.F0 l5 (u8 (b8 1) (P4 rfl T.a4F J2 rfl))))) (b9 (j5 U8)) j6) (b4 (p8 3 nd (a2g (A6 (z8 hr) (o7 (b8 0) b5) l9) (O3 (g8 b5)) (O3 (u8 b5 b5)))) (b9 (j5 (P9 (a0W a1U (d9 j8 rfl T.L1 i8 (g8 (b8 1))) (b8 3) rfl) (T7 (d9 (a3c rfl) rfl T.b9a a2f (g8 (E1 a8q rfl (F3 (b8 1)) (fun _ _ _ _ _=>A2) (fun _ _ _ _ _=>j9 a2G hr (u8 (b8 0) (b8 3)))))))))))
variable(a1H:C2 P w K mg base 3 c6x a3j (a0U K))
abbrev a1O:List Str:=[c6y,c6z]
theorem a7P:u0 [c6y,c6z] a1O (d3 a0E):=by walk_at "sc"
theorem a6g:a0i [c6y,c6z] (d3 a0E) (scF [ (".0",.local),("row",.local),(c6l,.local),(c6x,.globalImplicit),("len",.globalImplicit),(c6y,.free)]) "row" c6l := by walk_at "c2"
include T T1 a1H in
theorem a8d(F:Fun K c6A c6A a0E f fd):J0 P w K mg base CX0 4 f fd a1O (a0a K):=fk F a7P fun _ _ _ _ _ _ hr nd=>b4 (t7 (P6 (U7 (T5 (O1 (d9 K6 rfl T.F0 l5 (u8 (b8 1) (P4 rfl T.a4F J2 rfl))))) (R8 (A6 (a3a hr) (d9 j8 rfl T.L1 i8 (g8 (b8 1))) (d9 j8 rfl T.L1 i8 (g8 (b8 0))))))) (b9 Y2) j6) (b9 (J9 (j9 T1 hr (g8 (a4h a6g rfl (b0W rfl T.c1x (u8 (b8 0) (b8 1))) (fun _ _ _ _ _=>A2) (fun _ _ _ _ _=>j9 a1H hr (a4O (b8 0) (b8 1) (d9 j8 rfl T.L1 i8 (g8 (b8 2))))))))))
variable(a0G:C2 P w K mg base 4 c6A a1O (a0a K))
abbrev a5U:List Str:=["begins","leads"]
theorem b2O:u0 ["begins","leads","seen","waiting",c6w] a5U (d3 a5N):=by walk_at "sc"
include T in
theorem b3p(F:Fun K "reached" "reached" a5N f fd):J0 P w K mg base CX0 1 f fd a5U (a1f K):=fk F b2O fun _ _ _ _ _ _ hr nd=>b4 (p8 2 nd a7n) (b4 (p8 3 nd (E7 a2h rfl T.a4F J2 (g8 (b8 0)))) (b4 (b2A PassesOwn.never (A6 a1a (d9 j8 rfl T.L1 i8 (g8 (b8 3))) b5) (b4 (p8 4 nd (b6I o8 PySem.F.slot_list_pop PySem.F.type_list_pop b5g (b8 3))) (b9 (t7 (a2Y hr (b8 4) (b8 2) rfl) (b4 (a5G hr (b8 2) (b8 4) U8) (b9 (J9 (L9 o8 R1 Y7 a4P (b8 3) (g8 (o7 (b8 1) (b8 4))))))) j6)))) (b9 (j5 (b8 2)))))
variable(a2c:C2 P w K mg base 1 "reached" a5U (a1f K))
abbrev a7Y:List Str:=[c6z]
theorem b5o:u0 [c6z,"sources",c6w,c6l,"target"] a7Y (d3 a5a):=by walk_at "sc"
theorem b2k:J1 [c6z,"sources",c6w,c6l,"target"] (d3 a5a) (scF [(".0",.local),(c6l,.local)]) c6l := by walk_at "c0"
include T in
theorem b5D(F:Fun K "turned" "turned" a5a f fd):J0 P w K mg base CX0 1 f fd a7Y (a3A K):=fk F b5o fun _ _ _ _ _ _ hr nd=>b4 (a4K (n:=1) nd rfl rfl b2k rfl (F3 (b8 0)) (fun _ _ _ _ _=>A2) (fun _ _ _ _ _=>w6 O4)) (b4 (K9 PassesOwn.never rfl (a3w rfl T.a1J (g8 (b8 0))) (a4M rfl (V6 (O2 2 nd) (V6 (O2 3 nd) a3x))) (b9 (K9 PassesOwn.never rfl (F3 (b8 3)) (O2 4 nd) (b9 (J9 (L9 o8 F6 F5 S8 (o7 (b8 1) (b8 4)) (g8 (b8 2)))))))) (b9 (j5 (b8 1))))
variable(a5n:C2 P w K mg base 1 "turned" a7Y (a3A K))
abbrev a4u:List Str:=[c6z]
theorem b1s:u0 [c6z] a4u (d3 a2p):=by walk_at "sc"
theorem a8Q:a0i [c6z] (d3 a2p) (scF [ (".0",.local),(c6w,.local),(c6l,.local),("len",.globalImplicit)]) c6w c6l := by walk_at "c2"
include T in
theorem b1H(F:Fun K c6B c6B a2p f fd):J0 P w K mg base CX0 1 f fd a4u (a1t K):=fk F b1s fun _ _ _ _ _ _ hr nd=>b9 (j5 (a4h a8Q rfl (a3w rfl T.a1J (g8 (b8 0))) (fun _ _ _ _ _=>b4Y (A6 (z8 hr) (d9 j8 rfl T.L1 i8 (g8 (b8 1))) b5)) (fun _ _ _ _ _=>b8 0)))
variable(a2C:C2 P w K mg base 1 c6B a4u (a1t K))
abbrev a2w:List Str:=[c6z]
theorem a8I:u0 [c6z,"begun","ending",c6w] a2w (d3 a2s):=by walk_at "sc"
include T a2c a5n a2C in
theorem a8L(F:Fun K c6C c6C a2s f fd):J0 P w K mg base CX0 2 f fd a2w (a0C K):=fk F a8I fun _ _ _ _ _ _ hr nd=>b4 (p8 1 nd (j9 a2c hr (u8 (w6 (g8 b5)) (b8 0)))) (b4 (p8 2 nd (j9 a2c hr (u8 (j9 a2C hr (g8 (b8 0))) (j9 a5n hr (g8 (b8 0)))))) (b9 (K9 PassesOwn.never rfl (E6 rfl T.T4 (g8 (d9 j8 rfl T.L1 i8 (g8 (b8 0))))) (O2 3 nd) (b9 (t7 (P6 (U7 (a2Y hr (b8 3) (b8 1) rfl) (R8 (a2Y hr (b8 3) (b8 2) rfl)))) (b9 Y2) j6)))))
variable(a0V:C2 P w K mg base 2 c6C a2w (a0C K))
abbrev a4v:List Str:=[c6z]
theorem b1t:u0 [c6z,"steps",c6w,c6l] a4v (d3 a2q):=by walk_at "sc"
theorem a8R:J1 [c6z,"steps",c6w,c6l] (d3 a2q) (scF [ (".0",.local),("at",.local),(c6w,.free)]) "at" := by walk_at "c0"
include T in
theorem b1I(F:Fun K c6D c6D a2q f fd):J0 P w K mg base CX0 1 f fd a4v (a1u K c):=fk F b1t fun _ _ _ _ _ _ hr nd=>b4 (p8 1 nd (w6 (g8 (M0 T.a5z rfl)))) (b4 (K9 PassesOwn.never rfl (a3w rfl T.a1J (g8 (b8 0))) (a4M rfl (V6 (O2 2 nd) (V6 (O2 3 nd) a3x))) (b9 (J9 (L9 o8 R1 Y7 a4P (b8 1) (g8 (E1 a8R rfl (E6 rfl T.T4 (g8 (d9 j8 rfl T.L1 i8 (g8 (b8 3))))) (fun _ _ _ _ _=>A2) (fun _ _ _ _ _=>O3 (u8 (b8 3) (b8 0))))))))) (b9 (j5 (b8 1))))
variable(a2D:C2 P w K mg base 1 c6D a4v (a1u K c))
abbrev a0P:List Str:=["self","step"]
theorem a5M:u0 ["self","step"] a0P (d3 a0O):=by walk_at "sc"
include T in
theorem a5Z(F:Fun K "leads_to" "Plan.leads_to" a0O f fd):J0 P w K mg base CX0 1 f fd a0P (W5 K c):=fk F a5M fun _ _ _ _ _ _ hr nd=>b4 (t7 (a0v (b5f hr) (b8 1) (M0 T.a5z rfl) (a8e _)) (b9 (j5 b5)) j6) (b9 (j5 (o7 (o7 (a0H (b8 0)) (o7 (b8 1) b5)) (o7 (b8 1) b5))))
variable(Y0:a7i P w K mg base 1 "leads_to" c.K7 a0P (W5 K c))
abbrev a3k:List Str:=["self",c6y,c6z]
theorem a9M:u0 ["self",c6y,c6z,"step"] a3k (d3 Y8):=by walk_at "sc"
theorem a8t:J1 ["self",c6y,c6z,"step"] (d3 Y8) (scF [ (".0",.local),("row",.local),("is_row",.globalImplicit)]) "row" := by walk_at "c0"
theorem a8s:J1 ["self",c6y,c6z,"step"] (d3 Y8) (scF [ (".0",.local),(c6l,.local),("list",.globalImplicit)]) c6l := by walk_at "c0"
theorem a8r:J1 ["self",c6y,c6z,"step"] (d3 Y8) (scF [(".0",.local),("row",.local)]) "row" := by walk_at "c0"
include T a0f a5q T1 a0G a0V a2D Y0 in
theorem b0h(F:Fun K c5G "Plan.__init__" Y8 f fd):J0 P w K mg base CX0 6 f fd a3k (a0b K c):=fk F a9M fun _ _ _ _ _ _ hr nd=>b4 (J9 (j9 a0f hr (a4O (b8 1) b5 b5))) (b4 (J9 (j9 T1 hr (g8 (E1 a8t rfl (F3 (b8 1)) (fun _ _ _ _ _=>A2) (fun _ _ _ _ _=>j9 a5q hr (g8 (b8 0))))))) (b4 (J9 (j9 a0G hr (u8 (b8 1) (b8 2)))) (b4 (J9 (j9 a0V hr (g8 (b8 2)))) (b4 (a7m (b8 0) (E7 a2h rfl T.a4F J2 (g8 (b8 1)))) (b4 (a7m (b8 0) (E1 a8s rfl (F3 (b8 2)) (fun _ _ _ _ _=>A2) (fun _ _ _ _ _=>E7 a2h rfl T.a4F J2 (g8 (b8 0))))) (b4 (a7m (b8 0) (E1 a8r rfl (F3 (b8 1)) (fun _ _ _ _ _=>A2) (fun _ _ _ _ _=>w6 O4))) (b9 (K9 PassesOwn.never rfl (F3 (j9 a2D hr (g8 (a0H (b8 0))))) (O2 3 nd) (b9 (J9 (L9 o8 F6 F5 S8 (o7 (a0H (b8 0)) (b6F Y0 hr (by decide) (b8 0) (g8 (b8 3)))) (g8 (b8 3)))))))))))))
variable(a4z:b2s P w K mg base 6 "Plan" c.K7 a3k (a0b K c))
abbrev a5V:List Str:=["text"]
theorem b2P:u0 ["text",c6y,c6z,"part",c6o,"end"] a5V (d3 a3E):=by walk_at "sc"
theorem b0t:J1 ["text",c6y,c6z,"part",c6o,"end"] (d3 a3E) (scF [ (".0",.local),("word",.local),(c6n,.globalImplicit)]) "word" := by walk_at "c0"
include T a2B a5o a4z in
theorem b3q(F:Fun K "plan_of" "plan_of" a3E f fd):J0 P w K mg base CX0 8 f fd a5V (a2m K c):=fk F b2P fun _ _ _ _ _ _ hr nd=>b4 (p8 1 nd (w6 O4)) (b4 (p8 2 nd (w6 O4)) (b4 (K9 PassesOwn.never rfl (F3 (L9 K5 U1 b2u a6q (b8 0) (g8 l9))) (O2 3 nd) (b4 (a4K (n:=4) nd rfl rfl b0t rfl (F3 (L9 K5 U1 b2u a6q (b8 3) (g8 l9))) (fun _ _ _ _ _=>A2) (fun _ _ _ _ _=>j9 a2B hr (g8 (b8 0)))) (b4 (p8 5 nd (a2g (a0v a1U l9 (b8 4) rfl) (L9 o8 Z1 b0O a9B (b8 4) (g8 l9)) (d9 j8 rfl T.L1 i8 (g8 (b8 4))))) (b4 (J9 (L9 o8 F6 F5 S8 (b8 1) (g8 (j9 a5o hr (g8 (Y3 a5F (b8 4) a0x (a0w (b8 5)))))))) (b9 (J9 (L9 o8 F6 F5 S8 (b8 2) (g8 (Y3 a5F (b8 4) (a0w (u7 E3 (b8 5) b5)) a0x))))))))) (b9 (b6A rfl (b9 (j5 (b6G a4z hr (u8 (b8 1) (b8 2)))))))))
variable(a3L:C2 P w K mg base 8 "plan_of" a5V (a2m K c))
abbrev b3k:List Str:=["text"]
theorem b9x:u0 ["text","plan"] b3k (d3 b2W):=by walk_at "sc"
include T a1G a3L in
theorem c0t(F:Fun K "read" "read" b2W f fd):J0 P w K mg base CX0 9 f fd b3k (a6U K c):=fk F b9x fun _ _ _ _ _ _ hr nd=>b4 (t7 (T5 (O1 (d9 K6 rfl T.F0 l5 (u8 (b8 0) (P4 rfl T.a3u A1 rfl))))) (b9 Y2) j6) (b4 (p8 1 nd (j9 a3L hr (g8 (b8 0)))) (b4 (t7 (P6 (U7 (A6 b6J (b8 1) b6E) (R8 (A6 (a3a hr) (j9 a1G hr (g8 (b8 1))) (b8 0))))) (b9 Y2) j6) (b9 (j5 (b8 1)))))
variable(b0B:C2 P w K mg base 9 "read" b3k (a6U K c))
abbrev b0d:List Str:=["_law_plan",c6i,c5M]
theorem b7l:u0 ["_law_plan",c6i,c5M,c6g,"_law_part"] b0d (d3 a9S):=by walk_at "sc"
include T in
theorem b8k(F:Fun K c6E c6E a9S f fd):J0 P w K mg base CX0 1 f fd b0d (a4Z K c):=fk F b7l fun _ _ _ _ _ _ hr nd=>b4 (t7 (P6 (U7 (T5 (O1 (d9 a9C rfl T.F0 l5 (u8 (b8 0) (M0 T.c3G rfl))))) (U7 (a0v (a8Y hr) (a0H (b8 0)) (b8 1) (a8e _)) (R8 (a0v (a8Y hr) (a0H (b8 0)) (b8 2) (a8e _)))))) (b9 (j5 U8)) j6) (b4 (K9 PassesOwn.never rfl (F3 (a0H (b8 0))) (O2 3 nd) (b9 (K9 PassesOwn.never rfl (a4L (b8 3)) (O2 4 nd) (b9 (t7 (O1 (d9 K6 rfl T.F0 l5 (u8 (b8 4) (P4 rfl T.b8Z a8D rfl)))) (b9 (j5 U8)) j6))))) (b9 (j5 U8)))
variable(a7h:C2 P w K mg base 1 c6E b0d (a4Z K c))
abbrev c1s:List Str:=[c5H]
theorem b7i:u0 [c5H,c5J,"_law_drawn_here","_law_plans",c5N,c6i,c5M,"_law_due","_law_found","_law_again"] c1s (d3 b1y):=by walk_at "sc"
theorem b8L:a0i [c5H,c5J,"_law_drawn_here","_law_plans",c5N,c6i,c5M,"_law_due","_law_found","_law_again"] (d3 b1y) (scF [ (".0",.local),(c6i,.local),(c5M,.local),("Plan",.globalImplicit)]) c6i c5M := by walk_at "c2"
include T b4O A4 a5r a7g b0A a1G a4z b0B a7h in
theorem c2V(ck:a6R K c)(F:Fun K "law" "law" b1y f fd):J0 P w K mg base CX0 10 f fd c1s (a7K K):=by
 refine b1a F b7i (fun vs H Q E h=>h.1) (fun cdv A outer s H vs Q E hr h=>⟨b7a K c,?_,h.2 c ck⟩)
 have nd:=b7i.nd
 exact b4 (p8 1 nd (j9 b4O hr (g8 (b8 0)))) (b4 (p8 2 nd (w6 (u8 (j9 a5r hr (g8 (b8 1))) (j9 a5r hr (g8 (b8 1)))))) (b4 (t7 (A6 (z8 hr) (j9 A4 hr (u8 (b8 1) b5)) b5) (b9 (a2Z (j9 a7g hr (g8 (b8 1))) (a4N (b8 2) b5 a4I))) j6) (b4 (a8E (n:=3) nd rfl rfl b8L rfl (F3 (b8 2)) (fun _ _ _ _ _=>A2) (fun _ _ _ _ _=>b6G a4z hr (u8 (b8 0) (b8 1)))) (b4 (K9 PassesOwn.never rfl (a4L (O3 (a4O b5 b5 b5))) (O2 4 nd) (b4 (a2Z (o7 (b8 2) (b8 4)) (a4M rfl (V6 (O2 5 nd) (V6 (O2 6 nd) a3x)))) (b4 (p8 7 nd (j9 b0A hr (u8 (b8 5) (b8 6)))) (b4 (p8 8 nd (j9 a1G hr (g8 (o7 (b8 3) (b8 4))))) (b4 (t7 (P6 (U7 (T5 (O1 (d9 K6 rfl T.F0 l5 (u8 (b8 8) (P4 rfl T.a3u A1 rfl))))) (R8 (A6 (a3a hr) (b8 8) (b8 7))))) (b9 (j5 U8)) j6) (b4 (p8 9 nd (j9 b0B hr (g8 (b8 7)))) (b9 (t7 (P6 (U7 (T5 (O1 (j9 a7h hr (a4O (b8 9) (b8 5) (b8 6))))) (R8 (A6 (a3a hr) (j9 a1G hr (g8 (b8 9))) (b8 7))))) (b9 (j5 U8)) j6)))))))) (b9 (j5 U8))))))
end
end
structure ClF(K:Fg)(y:Str)(C:Addr):Prop where
 y:t9 K o3 y=some (some (.ref C))
 pg:a0M K C Str.empty=true
 hd:a1S K C=true
 po:a6n K C=true
 sa:z6 K (.ref C) "__setattr__" = some (some (.builtin "object.__setattr__"))
 mm:a2S K C=true
 kc:O6 K (.ref C)=true
abbrev pm0:Value:=(.str "law_oncedone_k91_texts_read_again" 599)
abbrev pm1:Value:=(.str "oncedone.texts" 549)
abbrev pm2:Value:=(.str "oncedone.checks" 389)
abbrev pm3:Value:=(.str "oncedone.words" 330)
abbrev pm4:Value:=(.str "oncedone.plans" 419)
theorem c3u{l:PySem.W.OpenLaw}{w:World}{K:Fg}{h:Heap}{mg:Str->Option Value}{fa:Addr}(X:K.In h)(G:h.Ns o3 mg)(hfa:mg "law" = some (.ref fa))
  (y_Plan:ClF K "Plan" 281)
  (Y1:z6 K (.ref 281) "entries" = some none)
  (Q8:z6 K (.ref 281) c6z = some none)
  (W7:z6 K (.ref 281) c6y = some none)
  (ha_Plan:z6 K (.ref 281) "__class__" = some (some (.builtin "object.__class__"))) (hn_Plan:a1R K (.builtin "object.__class__") "__get__" = some (some (.builtin "getset_descriptor.__get__"))) (tk_Plan:a8y K (.builtin "object.__class__")=some true) (hm_Plan:b0K K 281 (.type "object")=some true)
  (y_DEED_KINDS:t9 K o3 "DEED_KINDS" = some (some (.ref 123))) (l_DEED_KINDS:K.lookup 123=some ⟨.type "tuple",none,.seq (([(.str "plus" 340),(.str "minus" 341),(.str "times" 342),(.str "less" 343),(.str "same" 344)]:List Value).toArray) 0,#[]⟩)
  (y_FIRST_STEP:t9 K o3 "FIRST_STEP" = some (some (.ref 185))) (l_FIRST_STEP:K.lookup 185=some ⟨.type "tuple",none,.seq (([(.int (-1) 422),(.int (0) 423)]:List Value).toArray) 0,#[]⟩)
  (x0:FnG K c5I b4s 331 pm0 (.ref 330))
  (x1:FnG K c5L b2U 338 pm0 (.ref 337))
  (x2:FnG K c5P b7p 385 pm0 (.ref 384))
  (x3:FnG K c5V a1X 390 pm0 (.ref 389))
  (x4:FnG K c5W a9Q 343 pm0 (.ref 342))
  (x5:FnG K c5Y a9P 350 pm0 (.ref 349))
  (x6:FnG K c5Z a9N 357 pm0 (.ref 356))
  (x7:FnG K c6a a5O 364 pm0 (.ref 363))
  (x8:FnG K c6b b2Z 371 pm0 (.ref 370))
  (x9:FnG K c6d b7n 378 pm0 (.ref 377))
  (x10:FnG K c6e a5b 395 pm0 (.ref 394))
  (x11:FnG K c6f a1x 410 pm0 (.ref 409))
  (x12:FnG K c6h a9R 400 pm0 (.ref 399))
  (x13:FnG K c6j a9O 405 pm0 (.ref 404))
  (x14:FnG K c6k a4m 292 pm1 (.ref 291))
  (x15:FnG K c6m a0D 297 pm1 (.ref 296))
  (x16:FnG K "shown" a6X 302 pm1 (.ref 301))
  (x17:FnG K c6n a2o 307 pm1 (.ref 306))
  (x18:FnG K "row_of" a7Q 314 pm1 (.ref 313))
  (x19:FnG K c6p a1g 177 pm2 (.ref 176))
  (x20:FnG K "is_name" a3F 142 pm3 (.ref 141))
  (x21:FnG K c6r a4n 130 pm3 (.ref 129))
  (x22:FnG K c6s a4o 137 pm3 (.ref 136))
  (x23:FnG K c6t a2r 149 pm3 (.ref 148))
  (x24:FnG K "is_deed" a5P 156 pm3 (.ref 155))
  (x25:FnG K "is_row" a7R 163 pm3 (.ref 162))
  (x26:FnG K c6u a2t 184 pm2 (.ref 183))
  (x27:FnG K c6v a4p 170 pm2 (.ref 169))
  (x28:FnG K c6x a1y 190 pm4 (.ref 189))
  (x29:FnG K c6A a0E 195 pm4 (.ref 194))
  (x30:FnG K "reached" a5N 212 pm4 (.ref 211))
  (x31:FnG K "turned" a5a 205 pm4 (.ref 204))
  (x32:FnG K c6B a2p 200 pm4 (.ref 199))
  (x33:FnG K c6C a2s 219 pm4 (.ref 218))
  (x34:FnG K c6D a2q 224 pm4 (.ref 223))
  (x35:FnM K 281 "leads_to" "Plan.leads_to" a0O 250 pm4 (.ref 249))
  (x36:FnM K 281 c5G "Plan.__init__" Y8 236 pm4 (.ref 235))
  (x37:FnG K "plan_of" a3E 319 pm1 (.ref 318))
  (x38:FnG K "read" b2W 326 pm1 (.ref 325))
  (x39:FnG K c6E a9S 417 pm0 (.ref 416))
  (x40:FnG K "law" b1y 422 pm0 (.ref 421))
  (z_abs:t9 K o3 "abs" = some none)
  (z_all:t9 K o3 "all" = some none)
  (z_any:t9 K o3 "any" = some none)
  (z_bool:t9 K o3 "bool" = some none)
  (z_enumerate:t9 K o3 "enumerate" = some none)
  (z_int:t9 K o3 "int" = some none)
  (z_isinstance:t9 K o3 "isinstance" = some none)
  (z_len:t9 K o3 "len" = some none)
  (z_list:t9 K o3 "list" = some none)
  (z_min:t9 K o3 "min" = some none)
  (z_range:t9 K o3 "range" = some none)
  (z_sorted:t9 K o3 "sorted" = some none)
  (z_str:t9 K o3 "str" = some none)
  (z_tuple:t9 K o3 "tuple" = some none)
  (z_zip:t9 K o3 "zip" = some none)
  (y_BOUND:t9 K o3 "BOUND" = some (some (.int (1000000000000) 332)))
  (y_FIGURES:t9 K o3 "FIGURES" = some (some (.str "0123456789" 336)))
  (y_LETTERS:t9 K o3 "LETTERS" = some (some (.str "abcdefghijklmnopqrstuvwxyz" 334)))
  (y_LONGEST_NAME:t9 K o3 "LONGEST_NAME" = some (some (.int (8) 338)))
  (y_MOST:t9 K o3 "MOST" = some (some (.int (400) 391)))
  : ∃fd:V2,(∀(s:d7) (v:Value),b6z s fd ⟨[v],[]⟩ [(c5H,v)])/\∀base:Heap,K.In base->base.Ns o3 mg->J0 l.prog w K mg base CX0 10 fa fd [c5H] (a7K K):=by
 have e:=hfa.symm.trans (L8 X G x40.a)
 cases e
 let c:Cn:=⟨281,123,185⟩
 have ck:a6R K c:=⟨⟨y_Plan.pg,y_Plan.hd,y_Plan.po,y_Plan.sa⟩,Y1,Q8,W7,fun H=>.inr ⟨_,([(.str "plus" 340),(.str "minus" 341),(.str "times" 342),(.str "less" 343),(.str "same" 344)]:List Value).toArray,0,l_DEED_KINDS,rfl,rfl,by decide,.cons ⟨_,rfl⟩ ( .cons ⟨_,rfl⟩ ( .cons ⟨_,rfl⟩ ( .cons ⟨_,rfl⟩ ( .cons ⟨_,rfl⟩ ( .nil)))))⟩,fun H=>.inr ⟨_,([(.int (-1) 422),(.int (0) 423)]:List Value).toArray,0,l_FIRST_STEP,rfl,rfl,by decide,.cons ⟨_,rfl⟩ ( .cons ⟨_,rfl⟩ ( .nil))⟩,⟨⟨y_Plan.pg,y_Plan.hd,y_Plan.po,y_Plan.sa⟩,ha_Plan,hn_Plan,tk_Plan,hm_Plan⟩⟩
 have T:Txt K mg c:=⟨v6 X G z_abs,v6 X G z_all,v6 X G z_any,v6 X G z_bool,v6 X G z_enumerate,v6 X G z_int,v6 X G z_isinstance,v6 X G z_len,v6 X G z_list,v6 X G z_min,v6 X G z_range,v6 X G z_sorted,v6 X G z_str,v6 X G z_tuple,v6 X G z_zip,⟨_,L8 X G y_BOUND,⟨_,rfl⟩⟩,⟨_,L8 X G y_DEED_KINDS,rfl⟩,⟨_,L8 X G y_FIGURES,⟨_,rfl⟩⟩,⟨_,L8 X G y_FIRST_STEP,rfl⟩,⟨_,L8 X G y_LETTERS,⟨_,rfl⟩⟩,⟨_,L8 X G y_LONGEST_NAME,⟨_,rfl⟩⟩,⟨_,L8 X G y_MOST,⟨_,rfl⟩⟩,⟨_,L8 X G y_Plan.y,rfl⟩⟩
 refine⟨fdM "law" "law" b1y pm0 (.ref 421),fun s v=>.of_eq rfl,fun base _ _=>?_⟩
 have b4O:=mkC X G x0 (c2W (P:=l.prog) (w:=w) (base:=base) T x0.i.F) fun _ _ _ _ _ _ _=>rfl
 have A4:=mkC X G x1 (c0s (P:=l.prog) (w:=w) (base:=base) T x1.i.F) fun _ _ _ _ _ _ _ _=>rfl
 have b4N:=mkC X G x2 (c2U T A4 x2.i.F) fun _ _ _ _ _ _ _ _=>rfl
 have a5p:=mkC X G x3 (b5F (P:=l.prog) (w:=w) (base:=base) T x3.i.F) fun _ _ _ _ _ _ _=>rfl
 have b0C:=mkC X G x4 (c0u T A4 x4.i.F) fun _ _ _ _ _ _ _=>rfl
 have a2E:=mkC X G x5 (b8h T A4 b0C x5.i.F) fun _ _ _ _ _ _ _=>rfl
 have a7f:=mkC X G x6 (b8f T A4 x6.i.F) fun _ _ _ _ _ _ _=>rfl
 have U5:=mkC X G x7 (b3r T A4 a7f x7.i.F) fun _ _ _ _ _ _ _ _=>rfl
 have a4C:=mkC X G x8 (c0w T A4 U5 x8.i.F) fun _ _ _ _ _ _ _ _=>rfl
 have a8v:=mkC X G x9 (c2T T A4 U5 x9.i.F) fun _ _ _ _ _ _ _ _ _ _=>rfl
 have a5r:=mkC X G x10 (b8i T A4 b4N a5p a2E a4C a8v x10.i.F) fun _ _ _ _ _ _ _=>rfl
 have a7g:=mkC X G x11 (b8j T a2E a4C a8v x11.i.F) fun _ _ _ _ _ _ _=>rfl
 have b0D:=mkC X G x12 (c0v (P:=l.prog) (w:=w) (base:=base) T x12.i.F) fun _ _ _ _ _ _ _ _=>rfl
 have b0A:=mkC X G x13 (c0r T b0D x13.i.F) fun _ _ _ _ _ _ _ _=>rfl
 have a2A:=mkC X G x14 (b1F (P:=l.prog) (w:=w) (base:=base) T x14.i.F) fun _ _ _ _ _ _ _=>rfl
 have a0F:=mkC X G x15 (a8c T a2A x15.i.F) fun _ _ _ _ _ _ _ _=>rfl
 have a1G:=mkC X G x16 (b8g T a0F x16.i.F) fun _ _ _ _ _ _ _=>rfl
 have a2B:=mkC X G x17 (b1G (P:=l.prog) (w:=w) (base:=base) T x17.i.F) fun _ _ _ _ _ _ _=>rfl
 have a5o:=mkC X G x18 (b5E (P:=l.prog) (w:=w) (base:=base) T x18.i.F) fun _ _ _ _ _ _ _=>rfl
 have a0f:=mkC X G x19 (a6L (P:=l.prog) (w:=w) (base:=base) T x19.i.F) fun _ _ _ _ _ _ _ _ _=>rfl
 have W6:=mkC X G x20 (b3s (P:=l.prog) (w:=w) (base:=base) T x20.i.F) fun _ _ _ _ _ _ _=>rfl
 have Y6:=mkC X G x21 (b1J (P:=l.prog) (w:=w) (base:=base) T x21.i.F) fun _ _ _ _ _ _ _=>rfl
 have a2F:=mkC X G x22 (b1K T Y6 x22.i.F) fun _ _ _ _ _ _ _=>rfl
 have M6:=mkC X G x23 (a8K T W6 a2F x23.i.F) fun _ _ _ _ _ _ _=>rfl
 have a3M:=mkC X G x24 (b3t T M6 x24.i.F) fun _ _ _ _ _ _ _=>rfl
 have a5q:=mkC X G x25 (b5G T W6 M6 a3M x25.i.F) fun _ _ _ _ _ _ _=>rfl
 have T1:=mkC X G x26 (a8M (P:=l.prog) (w:=w) (base:=base) T x26.i.F) fun _ _ _ _ _ _ _=>rfl
 have a2G:=mkC X G x27 (b1L T Y6 x27.i.F) fun _ _ _ _ _ _ _ _=>rfl
 have a1H:=mkC X G x28 (b0g T a2G x28.i.F) fun _ _ _ _ _ _ _ _ _=>rfl
 have a0G:=mkC X G x29 (a8d T T1 a1H x29.i.F) fun _ _ _ _ _ _ _ _=>rfl
 have a2c:=mkC X G x30 (b3p (P:=l.prog) (w:=w) (base:=base) T x30.i.F) fun _ _ _ _ _ _ _ _=>rfl
 have a5n:=mkC X G x31 (b5D (P:=l.prog) (w:=w) (base:=base) T x31.i.F) fun _ _ _ _ _ _ _=>rfl
 have a2C:=mkC X G x32 (b1H (P:=l.prog) (w:=w) (base:=base) T x32.i.F) fun _ _ _ _ _ _ _=>rfl
 have a0V:=mkC X G x33 (a8L T a2c a5n a2C x33.i.F) fun _ _ _ _ _ _ _=>rfl
 have a2D:=mkC X G x34 (b1I (P:=l.prog) (w:=w) (base:=base) T x34.i.F) fun _ _ _ _ _ _ _=>rfl
 have Y0:=mkM x35 ck.U4 (a5Z (P:=l.prog) (w:=w) (base:=base) T x35.i.F) fun _ _ _ _ _ _ _ _=>rfl
 have a4z:=mkK X G x36 y_Plan.y y_Plan.mm y_Plan.kc (b0h T a0f a5q T1 a0G a0V a2D Y0 x36.i.F) fun _ _ _ _ _ _ _ _ _=>rfl
 have a3L:=mkC X G x37 (b3q T a2B a5o a4z x37.i.F) fun _ _ _ _ _ _ _=>rfl
 have b0B:=mkC X G x38 (c0t T a1G a3L x38.i.F) fun _ _ _ _ _ _ _=>rfl
 have a7h:=mkC X G x39 (b8k (P:=l.prog) (w:=w) (base:=base) T x39.i.F) fun _ _ _ _ _ _ _ _ _=>rfl
 exact c2V T b4O A4 a5r a7g b0A a1G a4z b0B a7h ck x40.i.F
theorem walk{l:PySem.W.OpenLaw}{q:v0}{loose:List Str}{XP:(Str->Option Value)->Heap->Prop}{YP:World->Heap->Prop}{d:DefRec}{K:Params->Fg}(hn:l.most=some 63)(hdf:d.params.defaults=[])
  (hY:∀(w:World) (h:Heap),YP w h->(K w.params).In h)
  (F:∀(w:World) (mg:Str->Option Value) (fa:Addr) (h:Heap),(K w.params).In h->h.Ns o3 mg->mg d.name=some (.ref fa) ->
   ∃fd:V2,(∀(s:d7) (u:Value),b6z s fd ⟨[u],[]⟩ [(c5H,u)])/\∀base:Heap,(K w.params).In base->base.Ns o3 mg->J0 l.prog w (K w.params) mg base CX0 10 fa fd [c5H] (a7K (K w.params))) :
  PySem.W.WalkO q loose XP YP l.row.toRowW d [] (fun f vs=>b0J f vs):=
 L2.b9m (n:=63) (k:=10) (x := c5H) (CX:=fun _=>CX0) (sp:=fun w=>a7K (K w.params)) hn (by decide) hdf ⟨rfl,by decide,by decide,rfl⟩ hY F (fun _ _ a ns hl hO hS=>RD.law_reading _ hl hO hS) fun _ _ _ _ _ z=>z
end PR
open PySem PySem.W PyProof.Rows
set_option maxRecDepth 100000 in
set_option maxHeartbeats 0 in
theorem PySem.Challenge.cw_oncedone_k91_texts_read_again_holds : PySem.Challenge.rw_oncedone_k91_texts_read_again.Holds := by
 refine HD.fin fun d hd hdf=>PR.walk (l:=HD.row) (K:=HD.K) rfl hdf (fun w h Y=>PySem.W.kIn_of Y) ?F
 intro w mg fa h KX G hmg
 rw[hd]at hmg
 apply PR.c3u KX G hmg <;> first | kernel_rfl | exact⟨⟨by kernel_rfl,by kernel_rfl,by kernel_rfl⟩,by kernel_rfl⟩ | exact⟨⟨by kernel_rfl,by kernel_rfl,by kernel_rfl⟩,by kernel_rfl,by kernel_rfl⟩ | exact⟨by kernel_rfl,by kernel_rfl,by kernel_rfl,by kernel_rfl,by kernel_rfl,by kernel_rfl,by kernel_rfl⟩
